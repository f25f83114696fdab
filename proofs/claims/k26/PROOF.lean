import PyProof.Rows.All
import Wide.All
import OpenK.AllK
import Wide.FinOn
import Lean
import PyProof.EqAt
import PyProof.EqKinds
import PyProof.TupleCall
import PySem.Challenge.RW_sidelink_k26_whole_all_told
-- CHANGE: your row's module here,as the last of these rows
set_option Elab.async false
set_option linter.all false
set_option maxRecDepth 100000
namespace L2
open PySem PySem.Spec PyProof.Rows
abbrev Key:=Sum Int Str
def Uc:Key -> Value -> Bool
  | .inl k,v=>Value.isInt k v
  | .inr x,v=>Value.isStrOf x v
def QfE (w:World):Key -> Int
  | .inl k=>hashInt k
  | .inr x=>hashStr w x
theorem Z5:∀ {k:Key} {v:Value},Uc k v = true -> (∃ i t,k = Sum.inl i /\ v = Value.int i t) ∨ (∃ x t,k = Sum.inr x /\ v = Value.str x t)
  | .inl i,v,h=>by
    obtain ⟨t,e⟩:=Value.isInt_shape (k:=i) (v:=v) h
    exact .inl ⟨i,t,rfl,e⟩
  | .inr x,v,h=>by
    obtain ⟨t,e⟩:=Value.isStrOf_shape (x:=x) (v:=v) h
    exact .inr ⟨x,t,rfl,e⟩
theorem gE (i:Int) (t:Tok):Uc (.inl i) (.int i t) = true:=by simp [Uc,Value.isInt]
theorem gF (x:Str) (t:Tok):Uc (.inr x) (.str x t) = true:=by simp [Uc,Value.isStrOf]
theorem Qdz (a b:Int):decide ((Sum.inl a:Key) = Sum.inl b) = (a == b):=by
  by_cases e:a = b
  . subst e;simp
  . have h:¬ (Sum.inl a:Key) = Sum.inl b:=fun q=>e (Sum.inl.inj q)
    rw [decide_eq_false h]
    exact (beq_eq_false_iff_ne.mpr e).symm
theorem QdC (a b:Str):decide ((Sum.inr a:Key) = Sum.inr b) = decide (a = b):=by
  by_cases e:a = b
  . subst e;simp
  . have h:¬ (Sum.inr a:Key) = Sum.inr b:=fun q=>e (Sum.inr.inj q)
    rw [decide_eq_false h,decide_eq_false e]
theorem QdA (a:Int) (b:Str):decide ((Sum.inl a:Key) = Sum.inr b) = false:=decide_eq_false (fun q=>nomatch q)
theorem QdB (a:Str) (b:Int):decide ((Sum.inr a:Key) = Sum.inl b) = false:=decide_eq_false (fun q=>nomatch q)
def Z6 (prog:Program) (w:World):PySem.KeyKind prog w Key where
  is:=Uc
  hash:=QfE w
  inj:=fun v a b ha hb=>by
    rcases Z5 ha with ⟨i,t,rfl,rfl⟩ | ⟨x,t,rfl,rfl⟩
    . rcases Z5 hb with ⟨j,u,rfl,e⟩ | ⟨y,u,rfl,e⟩
      . injection e with e1 _;rw [e1]
      . exact nomatch e
    . rcases Z5 hb with ⟨j,u,rfl,e⟩ | ⟨y,u,rfl,e⟩
      . exact nomatch e
      . injection e with e1 _;rw [e1]
  byValue:=fun k v h=>by
    rcases Z5 h with ⟨i,t,rfl,rfl⟩ | ⟨x,t,rfl,rfl⟩ <;> rfl
  pyHash:=fun hv h=>by
    rcases Z5 hv with ⟨i,t,rfl,rfl⟩ | ⟨x,t,rfl,rfl⟩
    . exact wpAny_pyHash_int h
    . exact wpAny_pyHash_str h
  eqBool:=fun hu hv h=>by
    rcases Z5 hu with ⟨i,t,rfl,rfl⟩ | ⟨x,t,rfl,rfl⟩
    . rcases Z5 hv with ⟨j,u,rfl,rfl⟩ | ⟨y,u,rfl,rfl⟩
      . rw [Qdz] at h;exact wpAny_eqBool_int h
      . rw [QdA] at h;exact SeqAt.EqAt.int_str i t y u _ _ _ _ h
    . rcases Z5 hv with ⟨j,u,rfl,rfl⟩ | ⟨y,u,rfl,rfl⟩
      . rw [QdB] at h;exact SeqAt.EqAt.str_int x t j u _ _ _ _ h
      . rw [QdC] at h;exact wpAny_eqBool_str h
  «strs»:=fun k x t v h=>by
    rcases Z5 h with ⟨i,u,rfl,e⟩ | ⟨y,u,rfl,e⟩
    . exact nomatch e
    . injection e with e1 _
      subst e1
      cases v <;> rfl
theorem Gp (prog:Program) (w:World) (i:Int) (t:Tok):(Z6 prog w).is (.inl i) (.int i t) = true:=gE i t
theorem Gq (prog:Program) (w:World) (x:Str) (t:Tok):(Z6 prog w).is (.inr x) (.str x t) = true:=gF x t
end L2
namespace L2
open PySem PySem.Spec PyProof.Rows
inductive V where
  | non | bl (b:Bool) | int (i:Int) | str (x:Str) | byt (b:Array UInt8) | flt (b:UInt64) | ref (a:Addr) | ty (n:String)
  deriving DecidableEq
def RelV:V -> Value -> Prop
  | .non,u=>u = Value.none
  | .bl b,u=>u = Value.bool b
  | .int i,u=>∃ t,u = Value.int i t
  | .str x,u=>∃ t,u = Value.str x t
  | .byt b,u=>∃ t,u = Value.bytes b t
  | .flt b,u=>∃ t,u = Value.float b t
  | .ref a,u=>u = Value.ref a
  | .ty n,u=>u = Value.type n
abbrev Vals:List V -> List Value -> Prop:=Paired RelV
theorem Vals.length {xs:List V} {us:List Value} (r:Vals xs us):xs.length = us.length:=Paired.length r
theorem Vals.get:∀ {xs:List V} {us:List Value} {i:Nat} {x:V},Vals xs us -> xs[i]? = some x -> ∃ u,us[i]? = some u /\ RelV x u
  | _,_,_,_,.nil,e=>by simp at e
  | _,_,0,_,.cons r _,e=>by simp at e;subst e;exact ⟨_,rfl,r⟩
  | _,_,i + 1,x,.cons _ t,e=>by
    obtain ⟨u,h1,h2⟩:=Vals.get (i:=i) (x:=x) t (by simpa using e)
    exact ⟨u,by simpa using h1,h2⟩
theorem Vals.set {x:V} {u:Value} (r:RelV x u):∀ {xs:List V} {us:List Value} (i:Nat),Vals xs us -> Vals (xs.set i x) (us.set i u)
  | _,_,_,.nil=>.nil
  | _,_,0,.cons _ t=>.cons r t
  | _,_,i + 1,.cons q t=>.cons q (Vals.set r i t)
theorem Vals.append:∀ {xs ys:List V} {us ws:List Value},Vals xs us -> Vals ys ws -> Vals (xs ++ ys) (us ++ ws)
  | _,_,_,_,.nil,s=>s
  | _,_,_,_,.cons r t,s=>.cons r (Vals.append t s)
theorem Vals.take:∀ {xs:List V} {us:List Value} (n:Nat),Vals xs us -> Vals (xs.take n) (us.take n)
  | _,_,0,_=>.nil
  | _,_,_ + 1,.nil=>.nil
  | _,_,n + 1,.cons r t=>.cons r (Vals.take n t)
theorem Vals.drop:∀ {xs:List V} {us:List Value} (n:Nat),Vals xs us -> Vals (xs.drop n) (us.drop n)
  | _,_,0,r=>r
  | _,_,_ + 1,.nil=>.nil
  | _,_,n + 1,.cons _ t=>Vals.drop n t
def RelO:Option V -> Option Value -> Prop
  | some v,some u=>RelV v u
  | none,none=>True
  | _,_=>False
def KV {κ:Type}:List (κ × V) -> List (κ × Value) -> Prop:=Paired fun (p:κ × V) (q:κ × Value)=>p.1 = q.1 /\ RelV p.2 q.2
def kV:Key -> V
  | .inl i=>.int i
  | .inr x=>.str x
inductive HO where
    | lst (xs:List V)
    | tup (xs:List V)
    | dK (kvs:List (Key × V)) | dT (kvs:List (List Key × V))
    | set (S:Int -> Bool) (n:Nat)
    | ins (C dx:Addr) (fs:List (Str × V))
    | own (x:Addr)
    | xd (fs:List (Str × V))
    | met (f x:Addr)
    | rng (lo hi:Int)
    | frz (o:Obj) (u:HO)
    | tbl (ps:Array Value)
    | ext (φ:Heap -> Prop)
abbrev Hp:=Addr -> Option HO
def upd (H:Hp) (a:Addr) (o:HO):Hp:=fun b=>if b = a then some o else H b
theorem Zh {H:Hp} {a:Addr} {o:HO}:upd H a o a = some o:=by unfold upd;rw [if_pos rfl]
theorem QU {H:Hp} {a b:Addr} {o:HO} (h:b ≠ a):upd H a o b = H b:=by unfold upd;rw [if_neg h]
theorem QeV {H:Hp} {a b:Addr} {o u:HO} (h:H a = some o) (h':H b = some u) (d:o ≠ u):a ≠ b:=by
  intro e;subst e;rw [h] at h';exact d (Option.some.inj h')
theorem Zw {H:Hp} {a b:Addr} {o:HO} (h:H a = some o) (h':H b = none):a ≠ b:=by
  intro e;subst e;rw [h] at h';cases h'
section
variable (P:Program) (w:World)
def ObjOk (H:Hp) (h:Heap) (a:Addr):HO -> Prop
  | .lst xs=>xs.length <= sizeLine /\ ∃ (its:List Value) (n:Nat),Vals xs its /\ h.get? a = some { cls:=.type "list", data:=.seq its.toArray n }
  | .tup xs=>xs.length <= sizeLine /\ ∃ its:List Value,Vals xs its /\ IsTup h a its.toArray
  | .dK kvs=>kvs.length <= sizeLine /\ (a == sysModules) = false /\ ∃ vs,KV kvs vs /\ h.DictOf (Z6 P w) a vs
  | .dT kvs=>kvs.length <= sizeLine /\ (a == sysModules) = false /\ ∃ xs:List (List Key × Addr × Value),
      Paired (fun (p:List Key × V) (q:List Key × Addr × Value)=>p.1 = q.1 /\ H q.2.1 = some (.tup (p.1.map kV)) /\ RelV p.2 q.2.2) kvs xs /\
      ∃ o es ep,h.get? a = some o /\ o.ExactDict /\ o.data = .dict es ep /\ es.toList = xs.map (entryOfKey (tupleKind (Z6 P w))) /\ (xs.map (·.1)).Nodup
  | .set S n=>h.SetOf (intKind P w) a S n
  | .ins C dx fs=>H dx = some (.own a) /\ fs.length <= 1000 /\ dx ≠ a /\ h.get? a = some (PySem.W.instObj C dx) /\
      ∃ mA,h.Ns1 dx mA /\ (∀ f,RelO (fs.lookup f) (mA f)) /\ PySem.Within mA (fs.map (·.1))
  | .own _=>∃ o,h.get? a = some o
  | .xd fs=>∃ mA,h.Ns1 a mA /\ ∀ f,RelO (fs.lookup f) (mA f)
  | .rng lo hi=>∃ t u v,h.get? a = some { cls:=.type "range", data:=.fields #[.int lo t,.int hi u,.int 1 v] }
  | .frz o u=>h.get? a = some o /\ ObjOk H h a u
  | .tbl ps=>h.get? a = some { cls:=.none,data:=.fields ps }
  | .met f x=>h.get? a = some (PySem.W.methodObj (.ref f) (.ref x))
  | .ext φ=>φ h /\ (∃ o,h.get? a = some o) /\ ∀ h1 h2:Heap,φ h1 -> (∀ o,h1.get? a = some o -> h2.get? a = some o) -> φ h2
def HOk (H:Hp) (h:Heap):Prop:=∀ a o,H a = some o -> ObjOk P w H h a o
end
section
variable {P:Program} {w:World} {H H':Hp} {h h':Heap} {a:Addr} {o:HO}
theorem ObjOk.lt (x:ObjOk P w H h a o):a < h.objs.size:=by
  cases o with
  | lst xs=>obtain ⟨_,_,_,_,e⟩:=x;exact Heap.lt_size e
  | tup xs=>obtain ⟨_,_,_,p⟩:=x;exact p.lt
  | dK kvs=>obtain ⟨_,_,_,_,o,_,_,e,_⟩:=x;exact Heap.lt_size e
  | dT kvs=>obtain ⟨_,_,_,_,o,_,_,e,_⟩:=x;exact Heap.lt_size e
  | set S n=>obtain ⟨o,_,_,_,e,_⟩:=x;exact Heap.lt_size e
  | ins C dx fs=>obtain ⟨_,_,_,e,_⟩:=x;exact Heap.lt_size e
  | own y=>obtain ⟨_,e⟩:=x;exact Heap.lt_size e
  | xd fs=>obtain ⟨_,⟨_,_,_,e,_⟩,_⟩:=x;exact Heap.lt_size e
  | rng lo hi=>obtain ⟨_,_,_,e⟩:=x;exact Heap.lt_size e
  | frz ob u=>obtain ⟨e,_⟩:=x;exact Heap.lt_size e
  | tbl ps=>exact Heap.lt_size (show h.get? a = some _ from x)
  | met f y=>exact Heap.lt_size (show h.get? a = some _ from x)
  | ext φ=>obtain ⟨_,⟨_,e⟩,_⟩:=x;exact Heap.lt_size e
theorem Paired.mapP {α β:Type} {F G:α -> β -> Prop}:∀ {l₁:List α} {l₂:List β},Paired F l₁ l₂ -> (∀ a b,F a b -> G a b) -> Paired G l₁ l₂
  | _,_,.nil,_=>.nil
  | _,_,.cons r t,f=>.cons (f _ _ r) (Paired.mapP t f)
theorem ObjOk.stay (x:ObjOk P w H h a o) (k:∀ b u,(b = a ∨ H b = some (.own a)) -> h.get? b = some u -> h'.get? b = some u)
    (ho:∀ b,H b = some (.own a) -> H' b = some (.own a)) (ht:∀ b xs,H b = some (.tup xs) -> H' b = some (.tup xs)):ObjOk P w H' h' a o:=by
  induction o with
  | lst xs=>obtain ⟨z,its,n,r,e⟩:=x;exact ⟨z,its,n,r,k _ _ (.inl rfl) e⟩
  | tup xs=>obtain ⟨z,its,r,ob,e,c⟩:=x;exact ⟨z,its,r,ob,k _ _ (.inl rfl) e,c⟩
  | dK kvs=>obtain ⟨z,y,vs,r,ob,es,ep,e,c⟩:=x;exact ⟨z,y,vs,r,ob,es,ep,k _ _ (.inl rfl) e,c⟩
  | dT kvs =>
    obtain ⟨z,y,xs,r,ob,es,ep,e,c⟩:=x
    exact ⟨z,y,xs,Paired.mapP r fun p q z=>⟨z.1,ht _ _ z.2.1,z.2.2⟩,ob,es,ep,k _ _ (.inl rfl) e,c⟩
  | set S n=>obtain ⟨ob,es,ep,t,e,c⟩:=x;exact ⟨ob,es,ep,t,k _ _ (.inl rfl) e,c⟩
  | ins C dx fs =>
    obtain ⟨d,z,ne,e,mA,⟨od,es,ep,e2,c⟩,r⟩:=x
    exact ⟨ho _ d,z,ne,k _ _ (.inl rfl) e,mA,⟨od,es,ep,k _ _ (.inr d) e2,c⟩,r⟩
  | own y=>obtain ⟨ob,e⟩:=x;exact ⟨ob,k _ _ (.inl rfl) e⟩
  | xd fs=>obtain ⟨mA,⟨od,es,ep,e,c⟩,r⟩:=x;exact ⟨mA,⟨od,es,ep,k _ _ (.inl rfl) e,c⟩,r⟩
  | rng lo hi=>obtain ⟨t,u,v,e⟩:=x;exact ⟨t,u,v,k _ _ (.inl rfl) e⟩
  | frz ob u ih=>obtain ⟨e,q⟩:=x;exact ⟨k _ _ (.inl rfl) e,ih q⟩
  | tbl ps =>
    have e:h.get? a = some { cls:=.none,data:=.fields ps }:=x
    show h'.get? a = some { cls:=.none,data:=.fields ps }
    exact k a _ (.inl rfl) e
  | met f y =>
    have e:h.get? a = some (PySem.W.methodObj (.ref f) (.ref y)):=x
    show h'.get? a = some (PySem.W.methodObj (.ref f) (.ref y))
    exact k a _ (.inl rfl) e
  | ext φ=>obtain ⟨p,⟨o,e⟩,st⟩:=x;exact ⟨st _ _ p fun o q=>k _ _ (.inl rfl) q,⟨o,k _ _ (.inl rfl) e⟩,st⟩
theorem HOk.lt (x:HOk P w H h) (e:H a = some o):a < h.objs.size:=(x a o e).lt
theorem HOk.fresh (x:HOk P w H h) (e:h.objs.size <= a):H a = none:=by
  cases q:H a with
  | none=>rfl
  | some u=>exact absurd (Nat.lt_of_lt_of_le (x.lt q) e) (Nat.lt_irrefl _)
theorem HOk.kept (x:HOk P w H h) (k:∀ b u,h.get? b = some u -> h'.get? b = some u):HOk P w H h':=fun a o e =>
  (x a o e).stay (fun b u _ q=>k b u q) (fun _ q=>q) fun _ _ q=>q
theorem HOk.laid (x:HOk P w H h) (k:∀ b u,h.get? b = some u -> h'.get? b = some u) (hp:h.objs.size <= a) (new:ObjOk P w (upd H a o) h' a o):HOk P w (upd H a o) h':=fun b u e=>by
  have hn:=x.fresh hp
  by_cases hb:b = a
  . subst hb;rw [Zh] at e;cases e;exact new
  . rw [QU hb] at e
    exact (x b u e).stay (fun c v _ q=>k c v q) (fun c q=>by rw [QU (Zw q hn)];exact q) fun c xs q=>by rw [QU (Zw q hn)];exact q
end
def Rd (H:Hp) (a:Addr) (u:HO):Prop:=H a = some u ∨ ∃ o,H a = some (.frz o u)
theorem Rd.ok {P:Program} {w:World} {H:Hp} {h:Heap} {a:Addr} {u:HO} (r:Rd H a u) (x:HOk P w H h):ObjOk P w H h a u:=by
  rcases r with r | ⟨o,r⟩
  . exact x a u r
  . obtain ⟨_,q⟩:=x a _ r
    exact q
def Mut:Option HO -> Prop
  | some (.lst _)=>True
  | some (.dK _)=>True
  | some (.dT _)=>True
  | some (.set _ _)=>True
  | some (.ins _ _ _)=>True
  | some (.ext _)=>True
  | _=>False
section
variable {P:Program} {w:World} {H:Hp} {h h':Heap} {x e:Addr} {o':HO}
theorem HOk.write (ok:HOk P w H h) (mu:Mut (H x)) (he:e = x ∨ H e = some (.own x)) (k:∀ b u,b ≠ e -> h.get? b = some u -> h'.get? b = some u) (heo:∃ u,h'.get? e = some u)
    (new:ObjOk P w (upd H x o') h' x o'):HOk P w (upd H x o') h':=fun b u q=>by
  have nown:∀ c y,H c = some (.own y) -> c ≠ x:=fun c y r z=>by subst z;rw [r] at mu;exact mu
  have ntup:∀ c xs,H c = some (.tup xs) -> c ≠ x:=fun c xs r z=>by subst z;rw [r] at mu;exact mu
  by_cases hb:b = x
  . subst hb;rw [Zh] at q;cases q;exact new
  . rw [QU hb] at q
    by_cases hbe:b = e
    . have q':H b = some (.own x):=by
        rcases he with z | z
        . exact absurd (hbe.trans z) hb
        . rw [hbe];exact z
      rw [q] at q';cases q'
      obtain ⟨v,hv⟩:=heo
      exact ⟨v,by rw [hbe];exact hv⟩
    . refine (ok b u q).stay (fun c v hc r=>k c v ?_ r) (fun c r=>by rw [QU (nown c b r)];exact r) fun c xs r=>by rw [QU (ntup c xs r)];exact r
      rcases hc with rfl | hc
      . exact hbe
      . rintro rfl
        rcases he with z | z
        . exact nown c b hc z
        . rw [hc] at z;cases z;exact hb rfl
end
structure Un (fs ex:List Addr) (H H':Hp) (h h':Heap):Prop where
  keep:∀ b o,h.get? b = some o -> H b = none -> b ∉ fs -> b ∉ ex -> h'.get? b = some o
  slot:∀ b o,h.get? b = some o -> H b = none -> b ∈ fs -> b ∉ ex -> ∃ sl,h'.get? b = some { o with slots:=sl }
  free:∀ b o,h.get? b = some o -> H b = none -> b ∉ ex -> H' b = none
  there:∀ b o,h.get? b = some o -> b ∉ ex -> ∃ o',h'.get? b = some o'
  tups:∀ b xs,H b = some (.tup xs) -> H' b = some (.tup xs)
  frzs:∀ b o u,H b = some (.frz o u) -> H' b = some (.frz o u)
  tbls:∀ b ps,H b = some (.tbl ps) -> ∃ more,H' b = some (.tbl (ps ++ more))
section
variable {fs fs' ex ex':List Addr} {H H1 H2:Hp} {h h1 h2 h':Heap} {a x e:Addr} {o:HO}
theorem Un.any (u:Un fs ex H H1 h h1) {b:Addr} {ob:Obj} (q:h.get? b = some ob) (n:H b = none) (hx:b ∉ ex):∃ sl,h1.get? b = some { ob with slots:=sl }:=by
  by_cases hb:b ∈ fs
  . exact u.slot b ob q n hb hx
  . exact ⟨ob.slots,u.keep b ob q n hb hx⟩
theorem Un.kept (k:∀ b u,h.get? b = some u -> h'.get? b = some u):Un fs ex H H h h' :=
  ⟨fun b ob q _ _ _=>k b ob q,fun b ob q _ _ _=>⟨ob.slots,k b ob q⟩,fun _ _ _ n _=>n,fun b ob q _=>⟨ob,k b ob q⟩,fun _ _ q=>q,fun _ _ _ q=>q,fun _ ps q=>⟨#[],by rw [q];simp⟩⟩
theorem Un.refl:Un fs ex H H h h:=Un.kept fun _ _ q=>q
theorem Un.laid (k:∀ b u,h.get? b = some u -> h'.get? b = some u) (hp:h.objs.size <= a) (hn:H a = none):Un fs ex H (upd H a o) h h' where
  keep:=fun b u q _ _ _=>k b u q
  slot:=fun b u q _ _ _=>⟨u.slots,k b u q⟩
  free:=fun b u q n _=>by rw [QU (Nat.ne_of_lt (Nat.lt_of_lt_of_le (Heap.lt_size q) hp))];exact n
  there:=fun b u q _=>⟨u,k b u q⟩
  tups:=fun b xs q=>by rw [QU (Zw q hn)];exact q
  frzs:=fun b u xs q=>by rw [QU (Zw q hn)];exact q
  tbls:=fun b ps q=>⟨#[],by rw [QU (Zw q hn),q];simp⟩
theorem Un.write (mu:Mut (H x)) (he:e = x ∨ H e = some (.own x)) (k:∀ b u,b ≠ e -> h.get? b = some u -> h'.get? b = some u) (heo:∃ u,h'.get? e = some u):Un fs ex H (upd H x o) h h':=by
  have hx:∀ b,H b = none -> b ≠ x:=fun b n z=>by subst z;rw [n] at mu;exact mu
  have hb:∀ b,H b = none -> b ≠ e:=fun b n z=>by
    subst z
    rcases he with r | r
    . exact hx b n r
    . rw [n] at r;cases r
  have hm:∀ b u,H b = some u -> ¬ Mut (some u) -> b ≠ x:=fun b u q nm z=>by subst z;rw [q] at mu;exact nm mu
  refine ⟨fun b u q n _ _=>k b u (hb b n) q,fun b u q n _ _=>⟨u.slots,k b u (hb b n) q⟩,fun b u q n _=>by rw [QU (hx b n)];exact n,fun b u q _=>?_,
    fun b xs q=>by rw [QU (hm b _ q fun z=>z)];exact q,fun b u xs q=>by rw [QU (hm b _ q fun z=>z)];exact q,fun b ps q=>⟨#[],by rw [QU (hm b _ q fun z=>z),q];simp⟩⟩
  by_cases hbe:b = e
  . subst hbe;exact heo
  . exact ⟨u,k b u hbe q⟩
end
def trk (h:Heap) (H:Hp):List Addr:=(List.range h.objs.size).filter fun a=>(H a).isSome
def U5 (h:Heap) (H:Hp):Heap:=PySem.W.hideAll h (trk h H)
theorem gC (h:Heap) (H:Hp):(U5 h H).objs.size = h.objs.size:=PySem.W.hideAll_size _ _
theorem Qaq {h:Heap} {H:Hp} {b:Addr} {o:Obj} (e:h.get? b = some o) (n:H b = none):(U5 h H).get? b = some o :=
  PySem.W.hideAll_get _ e fun hm=>by
    have q:(H b).isSome = true:=(List.mem_filter.mp hm).2
    rw [n] at q;simp at q
theorem Qb7 {h:Heap} {H:Hp} {b:Addr} {o:Obj} (e:(U5 h H).get? b = some o):h.get? b = some o /\ H b = none:=by
  have e':h.get? b = some o:=PySem.W.of_hideAll (trk h H) e
  refine ⟨e',?_⟩
  cases q:H b with
  | none=>rfl
  | some x =>
    have hm:b ∈ trk h H:=List.mem_filter.mpr ⟨List.mem_range.mpr (Heap.lt_size e'),by simp [q]⟩
    have z:(U5 h H).get? b = none:=PySem.W.hideAll_none (trk h H) hm
    rw [z] at e;cases e
def UN (g h:Heap) (L:Addr):List (Addr × Obj):=(List.range h.objs.size).filterMap fun a=>if a = L ∨ (g.get? a).isSome = true then none else (h.get? a).map fun o=>(a,o)
theorem yZ {g h:Heap} {L:Addr} {p:Addr × Obj} (hp:p ∈ UN g h L):p.1 ≠ L /\ g.get? p.1 = none /\ h.get? p.1 = some p.2:=by
  obtain ⟨b,_,e⟩:=List.mem_filterMap.mp hp
  split at e
  . cases e
  . rename_i hn
    cases q:h.get? b with
    | none=>rw [q] at e;simp at e
    | some u =>
      rw [q] at e
      simp only [Option.map_some,Option.some.injEq] at e
      subst e
      refine ⟨fun z=>hn (.inl z),?_,q⟩
      show g.get? b = none
      cases r:g.get? b with
      | none=>rfl
      | some v=>exact (hn (.inr (by simp [r]))).elim
def rest (g h:Heap) (L d:Addr):List (Addr × Obj):=(UN g h L).filter fun p=>decide (p.1 ≠ d)
theorem QaL {g h:Heap} {L:Addr}:News g L h (UN g h L):=fun p hp=>let ⟨a,b,c⟩:=yZ hp;⟨c,a,b⟩
end L2
namespace L2
open PySem PySem.Spec PyProof.Rows
structure Mod (K:PySem.W.Frag) (mg:Str -> Option Value) (base:Heap):Prop where
  kin:K.In base
  glob:base.Ns mainGlobals mg
  blt:∃ mb,base.Ns builtinsNs mb /\ ∀ x:Str,x ≠ "__name__" -> mb x = bootBuiltins x
  nolimit:base.NoLimit
structure Cx where
  prog:Program
  w:World
  K:PySem.W.Frag
  mg:Str -> Option Value
  base:Heap
  A:Around
  N:List Str
  s₀:Shared
  H₀:Hp
  env:Env
  outer:List Env
  stack:List Env
  ex:List Addr
  fn:Str -> Bool
  calm:Bool
  pn:List (Addr × Obj)
  xe:Value -> Shared -> Prop
def frs (l:List Env):List Addr:=l.filterMap (·.frame)
abbrev Cx.fs (X:Cx):List Addr:=frs X.outer
def Vis (sc:Scope) (x:Str):Prop:=sc.names.lookup x = some .local ∨ sc.names.lookup x = some .cell ∨ sc.names.lookup x = some .free
def Loc (sc:Scope) (x:Str):Prop:=sc.names.lookup x = some .local ∨ sc.names.lookup x = some .cell
def Qfw (env:Env) (h:Heap) (m:Str -> Option Value) (x:Str) (u:Value):Prop :=
  (env.kindOf x = some .local /\ m x = some u) ∨ ((env.kindOf x = some .cell ∨ env.kindOf x = some .free) /\ ∃ c,env.cells.lookup x = some c /\ h.IsCell c (some u))
structure Cx.Ok (X:Cx):Prop where
  mod:Mod X.K X.mg X.base
  kind:X.env.scope.kind = .function
  glob:X.env.globals = mainGlobals
  blt:X.env.builtins = builtinsNs
  above:X.s₀.heap.objs.size <= X.env.locals
  inj:∀ x y c,X.env.cells.lookup x = some c -> X.env.cells.lookup y = some c -> x = y
  has:∀ x,(X.env.kindOf x = some .cell ∨ X.env.kindOf x = some .free) -> ∃ c,X.env.cells.lookup x = some c
  cab:∀ x c,X.fn x = true -> X.env.cells.lookup x = some c -> X.s₀.heap.objs.size <= c
  hd:X.calm = true -> X.A.handled = none
  frames:X.A.frames = some X.stack
  stk:X.stack = X.outer ∨ (X.stack = X.env :: X.outer /\ X.env.frame = some X.env.locals)
  exf:∀ b ∈ X.ex,b ≠ X.env.locals /\ ∀ x c,X.env.cells.lookup x = some c -> c ≠ b
  bs:∀ b o,X.base.get? b = some o -> X.s₀.heap.get? b = some o /\ X.H₀ b = none
  bsz:X.base.objs.size <= X.s₀.heap.objs.size
  noex:∀ b o,X.base.get? b = some o -> b ∉ X.ex
  exfs:∀ b ∈ X.ex,b ∉ X.fs
  funs:X.s₀.heap.FunFrames X.base X.outer
  frf:∀ b ∈ X.fs,X.H₀ b = none
structure Inv (X:Cx) (pins:List (Addr × Obj)) (σ:List (Option V)) (H:Hp) (s:Shared):Prop where
  ok:X.Ok
  os:s.os = X.s₀.os
  bare:AllBare s.gens
  base:Un X.fs X.ex X.H₀ H X.s₀.heap s.heap
  loc:∃ m,s.heap.Ns X.env.locals m /\ ∀ (i:Nat) (x:Str) (v:V),X.N[i]? = some x -> σ[i]? = some (some v) -> Vis X.env.scope x -> ∃ u,RelV v u /\ Qfw X.env s.heap m x u
  cell:∀ x c,X.env.cells.lookup x = some c -> ∃ v,s.heap.IsCell c v
  free:H X.env.locals = none
  freeC:∀ x c,X.env.cells.lookup x = some c -> H c = none
  pin:∀ p ∈ X.pn ++ pins,s.heap.get? p.1 = some p.2 /\ H p.1 = none /\ p.1 ≠ X.env.locals /\ p.1 ∉ X.fs /\ ∀ v,p.2.data ≠ .cell v
  hok:HOk X.prog X.w H s.heap
  len:σ.length = X.N.length
section
variable {X:Cx} {pins:List (Addr × Obj)} {σ:List (Option V)} {H H':Hp} {s:Shared} {h':Heap}
theorem Cx.Ok.nofr (ok:X.Ok) {b:Addr} {o:Obj} (e:X.base.get? b = some o):b ∉ X.fs:=fun hb=>by
  have:=(ok.funs.mem hb).1
  rw [e] at this;cases this
theorem Inv.bs (I:Inv X pins σ H s):∀ b o,X.base.get? b = some o -> s.heap.get? b = some o /\ H b = none:=fun b o e =>
  ⟨I.base.keep b o (I.ok.bs b o e).1 (I.ok.bs b o e).2 (I.ok.nofr e) (I.ok.noex b o e),I.base.free b o (I.ok.bs b o e).1 (I.ok.bs b o e).2 (I.ok.noex b o e)⟩
theorem Inv.bk (I:Inv X pins σ H s):∀ b o,X.base.get? b = some o -> s.heap.get? b = some o:=fun b o e=>(I.bs b o e).1
theorem Inv.mod (I:Inv X pins σ H s):Mod X.K X.mg X.base:=I.ok.mod
theorem Inv.kIn (I:Inv X pins σ H s):X.K.In s.heap:=I.ok.mod.kin.keeps I.bk
theorem Inv.fr (I:Inv X pins σ H s):∃ m,Fr X.base X.env.locals s.heap m :=
  let ⟨m,hn,_⟩:=I.loc
  ⟨m,hn,I.bk,Nat.le_trans I.ok.bsz I.ok.above⟩
theorem Inv.lt (I:Inv X pins σ H s):X.env.locals < s.heap.objs.size:=let ⟨_,hn,_⟩:=I.loc;hn.lt
theorem Inv.sz (I:Inv X pins σ H s):X.s₀.heap.objs.size <= s.heap.objs.size:=Nat.le_trans I.ok.above (Nat.le_of_lt I.lt)
theorem Inv.nofs (I:Inv X pins σ H s) {a:Addr} (h:s.heap.objs.size <= a):a ∉ X.fs:=fun hb=>by
  obtain ⟨_,o,ho,_⟩:=I.ok.funs.mem hb
  exact absurd (Nat.lt_of_lt_of_le (Heap.lt_size ho) (Nat.le_trans I.sz h)) (Nat.lt_irrefl _)
theorem Inv.cne (I:Inv X pins σ H s):∀ x c,X.env.cells.lookup x = some c -> c ≠ X.env.locals:=fun x c e z=>by
  obtain ⟨v,o,ho,hd⟩:=I.cell x c e
  obtain ⟨m,⟨o',es,ep,ho',hd',_⟩,_⟩:=I.loc
  rw [z,ho'] at ho;cases ho;rw [hd'] at hd;cases hd
theorem Inv.funs (I:Inv X pins σ H s):s.heap.FunFrames X.base X.outer:=by
  have all:∀ (l:List Env),(∀ b ∈ frs l,b ∈ X.fs) -> X.s₀.heap.FunFrames X.base l -> s.heap.FunFrames X.base l:=by
    intro l
    induction l with
    | nil=>intro _ _;trivial
    | cons env r ih =>
      intro hs hl
      obtain ⟨hk,⟨L,o,hf,hn,ho,hd⟩,hr⟩:=hl
      have hL:L ∈ X.fs:=hs L (by unfold frs;rw [List.filterMap_cons,hf];exact List.mem_cons_self)
      obtain ⟨sl,e⟩:=I.base.slot L o ho (I.ok.frf L hL) hL fun z=>I.ok.exfs L z hL
      exact ⟨hk,⟨L,_,hf,hn,e,hd⟩,ih (fun b hb=>hs b (by unfold frs;rw [List.filterMap_cons,hf];exact List.mem_cons_of_mem _ hb)) hr⟩
  exact all X.outer (fun _ hb=>hb) I.ok.funs
theorem Inv.stack (I:Inv X pins σ H s):s.heap.FunFrames X.base X.stack:=by
  rcases I.ok.stk with e | ⟨e,hf⟩
  . rw [e];exact I.funs
  . rw [e]
    obtain ⟨m,hn,_⟩:=I.loc
    refine .cons (by rw [I.ok.kind];decide) hf hn ?_ I.funs
    exact Heap.get?_none_of_le (Nat.le_trans I.ok.bsz I.ok.above)
theorem Inv.stkSub (I:Inv X pins σ H s):∀ b ∈ frs X.stack,b ∈ X.env.locals :: X.fs:=fun b hb=>by
  rcases I.ok.stk with e | ⟨e,hf⟩
  . rw [e] at hb;exact List.mem_cons_of_mem _ hb
  . rw [e] at hb
    unfold frs at hb
    rw [List.filterMap_cons,hf] at hb
    exact hb
theorem Inv.stkFree (I:Inv X pins σ H s):∀ b ∈ frs X.stack,H b = none:=fun b hb=>by
  rcases List.mem_cons.mp (I.stkSub b hb) with e | hb
  . rw [e];exact I.free
  . obtain ⟨_,o,ho,_⟩:=I.ok.funs.mem hb
    exact I.base.free b o ho (I.ok.frf b hb) fun z=>I.ok.exfs b z hb
theorem Inv.step {g':Array GenState} {t':Nat} {d':Drawn} {ch:List Addr} (I:Inv X pins σ H s)
    (hch:∀ b ∈ ch,(b ∈ X.ex ∨ X.s₀.heap.objs.size <= b) /\ b ≠ X.env.locals /\ (∀ x c,X.env.cells.lookup x = some c -> c ≠ b) /\ ∀ p ∈ X.pn ++ pins,p.1 ≠ b)
    (keep:∀ b o,b ≠ X.env.locals -> b ∉ X.fs -> b ∉ ch -> s.heap.get? b = some o -> H b = none -> h'.get? b = some o)
    (slot:∀ b o,b ≠ X.env.locals -> b ∈ X.fs -> b ∉ ch -> s.heap.get? b = some o -> H b = none -> ∃ sl,h'.get? b = some { o with slots:=sl }) (free:∀ b o,b ∉ ch -> s.heap.get? b = some o -> H b = none -> H' b = none)
    (there:∀ b o,b ∉ ch -> s.heap.get? b = some o -> ∃ o',h'.get? b = some o')
    (tups:∀ b xs,H b = some (.tup xs) -> H' b = some (.tup xs)) (frzs:∀ b o u,H b = some (.frz o u) -> H' b = some (.frz o u)) (tbls:∀ b ps,H b = some (.tbl ps) -> ∃ more,H' b = some (.tbl (ps ++ more)))
    (ns:∀ m,s.heap.Ns X.env.locals m -> h'.Ns X.env.locals m) (hok:HOk X.prog X.w H' h') (hg:AllBare g') :
    Inv X pins σ H' { s with heap:=h',gens:=g',drawn:=d',toks:=t' }:=by
  have neL:∀ b o,X.s₀.heap.get? b = some o -> b ≠ X.env.locals:=fun b o e=>Nat.ne_of_lt (Nat.lt_of_lt_of_le (Heap.lt_size e) I.ok.above)
  have neC:∀ b o,X.s₀.heap.get? b = some o -> b ∉ X.ex -> b ∉ ch:=fun b o e hx hb=>by
    rcases (hch b hb).1 with z | z
    . exact hx z
    . exact absurd (Nat.lt_of_lt_of_le (Heap.lt_size e) z) (Nat.lt_irrefl _)
  have cellK:∀ x c,X.env.cells.lookup x = some c -> ∀ v,s.heap.IsCell c v -> h'.IsCell c v:=fun x c e v ⟨o,ho,hd⟩=>by
    have nch:c ∉ ch:=fun z=>(hch c z).2.2.1 x c e rfl
    by_cases hc:c ∈ X.fs
    . obtain ⟨sl,q⟩:=slot c o (I.cne x c e) hc nch ho (I.freeC x c e)
      exact ⟨_,q,hd⟩
    . exact ⟨o,keep c o (I.cne x c e) hc nch ho (I.freeC x c e),hd⟩
  refine ⟨I.ok,I.os,hg,⟨fun b o e n hb hx=>?_,fun b o e n hb hx=>?_,fun b o e n hx=>?_,fun b o e hx=>?_,fun b xs e=>tups b xs (I.base.tups b xs e),fun b o xs e=>frzs b o xs (I.base.frzs b o xs e),fun b ps e=>?_⟩,?_,fun x c e=>?_,?_,fun x c e=>?_,fun p hp=>?_,hok,I.len⟩
  . exact keep b o (neL b o e) hb (neC b o e hx) (I.base.keep b o e n hb hx) (I.base.free b o e n hx)
  . obtain ⟨sl,e1⟩:=I.base.slot b o e n hb hx
    obtain ⟨sl',e2⟩:=slot b _ (neL b o e) hb (neC b o e hx) e1 (I.base.free b o e n hx)
    exact ⟨sl',e2⟩
  . obtain ⟨o',e1⟩:=I.base.there b o e hx
    exact free b o' (neC b o e hx) e1 (I.base.free b o e n hx)
  . obtain ⟨o',e1⟩:=I.base.there b o e hx
    exact there b o' (neC b o e hx) e1
  . obtain ⟨m1,e1⟩:=I.base.tbls b ps e
    obtain ⟨m2,e2⟩:=tbls b _ e1
    exact ⟨m1 ++ m2,by rw [e2,Array.append_assoc]⟩
  . obtain ⟨m,hn,hl⟩:=I.loc
    refine ⟨m,ns m hn,fun i x v e1 e2 e3=>?_⟩
    obtain ⟨u,r,l⟩:=hl i x v e1 e2 e3
    refine ⟨u,r,?_⟩
    rcases l with l | ⟨k,c,e,z⟩
    . exact .inl l
    . exact .inr ⟨k,c,e,cellK x c e _ z⟩
  . obtain ⟨v,z⟩:=I.cell x c e
    exact ⟨v,cellK x c e v z⟩
  . obtain ⟨m,⟨o,_,_,ho,_⟩,_⟩:=I.loc
    exact free _ o (fun z=>(hch _ z).2.1 rfl) ho I.free
  . obtain ⟨v,o,ho,hd⟩:=I.cell x c e
    exact free c o (fun z=>(hch c z).2.2.1 x c e rfl) ho (I.freeC x c e)
  . obtain ⟨e,n,ne,nf,d⟩:=I.pin p hp
    have nch:p.1 ∉ ch:=fun z=>(hch p.1 z).2.2.2 p hp rfl
    exact ⟨keep p.1 p.2 ne nf nch e n,free p.1 p.2 nch e n,ne,nf,d⟩
theorem Inv.un {t':Nat} (I:Inv X pins σ H s) (u:Un X.fs [] H H' s.heap h') (hok:HOk X.prog X.w H' h'):Inv X pins σ H' { s with heap:=h',toks:=t' }:=by
  obtain ⟨m,⟨o,es,ep,ho,r⟩,_⟩:=id I.loc
  obtain ⟨sl,hL⟩:=u.any ho I.free (by simp)
  exact I.step (g':=s.gens) (d':=s.drawn) (ch:=[]) (fun _ z=>nomatch z) (fun b o _ hb _ e n=>u.keep b o e n hb (by simp)) (fun b o _ hb _ e n=>u.slot b o e n hb (by simp)) (fun b o _ e n=>u.free b o e n (by simp)) (fun b o _ e=>u.there b o e (by simp)) u.tups u.frzs u.tbls (fun m' hm=>by
    obtain ⟨o',es',ep',ho',r'⟩:=hm
    rw [ho] at ho';cases ho'
    exact ⟨_,es',ep',hL,r'⟩) hok I.bare
theorem Inv.call {g':Array GenState} {t':Nat} {d':Drawn} {ch:List Addr} (I:Inv X pins σ H s) (u:Un (frs X.stack) ch H H' s.heap h') (hok:HOk X.prog X.w H' h') (hg:AllBare g')
    (hch:∀ b ∈ ch,(b ∈ X.ex ∨ X.s₀.heap.objs.size <= b) /\ b ≠ X.env.locals /\ (∀ x c,X.env.cells.lookup x = some c -> c ≠ b) /\ ∀ p ∈ X.pn ++ pins,p.1 ≠ b) :
    Inv X pins σ H' { s with heap:=h',gens:=g',drawn:=d',toks:=t' }:=by
  obtain ⟨m,⟨o,es,ep,ho,r⟩,_⟩:=id I.loc
  obtain ⟨sl,hL⟩:=u.any ho I.free fun z=>(hch _ z).2.1 rfl
  exact I.step (ch:=ch) hch (fun b o hL hb hc e n=>u.keep b o e n (fun z=>(List.mem_cons.mp (I.stkSub b z)).elim hL hb) hc) (fun b o _ _ hc e n=>u.any e n hc) (fun b o hc e n=>u.free b o e n hc) (fun b o hc e=>u.there b o e hc) u.tups u.frzs u.tbls (fun m' hm=>by
    obtain ⟨o',es',ep',ho',r'⟩:=hm
    rw [ho] at ho';cases ho'
    exact ⟨_,es',ep',hL,r'⟩) hok hg
theorem Inv.turned {t':Nat} {it:Addr} (I:Inv X pins σ H s) (k:∀ b o,b ≠ it -> s.heap.get? b = some o -> h'.get? b = some o) (hn:H it = none) (hL:it ≠ X.env.locals)
    (h1:it ∈ X.ex ∨ X.s₀.heap.objs.size <= it) (h2:∀ x c,X.env.cells.lookup x = some c -> c ≠ it) (h3:∀ p ∈ X.pn ++ pins,p.1 ≠ it):Inv X pins σ H { s with heap:=h',toks:=t' }:=by
  have nit:∀ b u,H b = some u -> b ≠ it:=fun b u e z=>by rw [z,hn] at e;cases e
  refine I.step (g':=s.gens) (d':=s.drawn) (ch:=[it]) (fun b hb=>?_) (fun b o _ _ hc e _=>k b o (fun z=>hc (by simp [z])) e) (fun b o _ _ hc e _=>⟨o.slots,k b o (fun z=>hc (by simp [z])) e⟩) (fun _ _ _ _ n=>n)
    (fun b o hc e=>⟨o,k b o (fun z=>hc (by simp [z])) e⟩) (fun _ _ e=>e) (fun _ _ _ e=>e) (fun b ps e=>⟨#[],by rw [e];simp⟩) (fun m hm=>?_) (fun b u e=>?_) I.bare
  . have e:b = it:=by simpa using hb
    subst e
    exact ⟨h1,hL,h2,h3⟩
  . obtain ⟨o,es,ep,ho,r⟩:=hm
    exact ⟨o,es,ep,k _ o (Ne.symm hL) ho,r⟩
  . refine (I.hok b u e).stay (fun c v hc q=>k c v ?_ q) (fun _ q=>q) fun _ _ q=>q
    rcases hc with z | z
    . rw [z];exact nit b u e
    . exact nit c _ z
theorem Inv.tok (I:Inv X pins σ H s) (t:Nat):Inv X pins σ H { s with toks:=t }:=I.un (h':=s.heap) (t':=t) Un.refl I.hok
theorem Inv.kept {t':Nat} (I:Inv X pins σ H s) (k:∀ b u,s.heap.get? b = some u -> h'.get? b = some u):Inv X pins σ H { s with heap:=h',toks:=t' }:=I.un (Un.kept k) (I.hok.kept k)
theorem Inv.laid {a:Addr} {o:HO} {t':Nat} (I:Inv X pins σ H s) (k:∀ b u,s.heap.get? b = some u -> h'.get? b = some u) (hp:s.heap.objs.size <= a) (new:ObjOk X.prog X.w (upd H a o) h' a o) :
    Inv X pins σ (upd H a o) { s with heap:=h',toks:=t' }:=I.un (Un.laid k hp (I.hok.fresh hp)) (I.hok.laid k hp new)
theorem Inv.write {x e:Addr} {o:HO} {t':Nat} (I:Inv X pins σ H s) (mu:Mut (H x)) (he:e = x ∨ H e = some (.own x)) (k:∀ b u,b ≠ e -> s.heap.get? b = some u -> h'.get? b = some u) (heo:∃ u,h'.get? e = some u)
    (new:ObjOk X.prog X.w (upd H x o) h' x o):Inv X pins σ (upd H x o) { s with heap:=h',toks:=t' }:=I.un (Un.write mu he k heo) (I.hok.write mu he k heo new)
theorem Inv.pins_of {pins':List (Addr × Obj)} (I:Inv X pins σ H s) (h:∀ p ∈ pins',s.heap.get? p.1 = some p.2 /\ H p.1 = none /\ p.1 ≠ X.env.locals /\ p.1 ∉ X.fs /\ ∀ v,p.2.data ≠ .cell v):Inv X pins' σ H s :=
  ⟨I.ok,I.os,I.bare,I.base,I.loc,I.cell,I.free,I.freeC,fun p hp=>(List.mem_append.mp hp).elim (fun z=>I.pin p (List.mem_append_left _ z)) (h p),I.hok,I.len⟩
theorem Gu {N:List Str} (hN:N.Nodup) {i j:Nat} {x:Str} (a:N[i]? = some x) (b:N[j]? = some x):i = j:=by
  obtain ⟨h1,e1⟩:=List.getElem?_eq_some_iff.mp a
  obtain ⟨h2,e2⟩:=List.getElem?_eq_some_iff.mp b
  exact (List.getElem_inj hN).mp (e1.trans e2.symm)
theorem Ux {M:Model} {A:Around} {E:Value -> Shared -> Prop} {i:Nat} {x:Str} {v:V} {u:Value} {Q:Unit -> Shared -> Prop} (I:Inv X pins σ H s) (hN:X.N.Nodup) (hi:X.N[i]? = some x) (hx:Loc X.env.scope x) (r:RelV v u)
    (h:∀ s',Inv X pins (σ.set i (some v)) H s' -> (∃ a,Heap.SameBut a s.heap s'.heap /\ (a = X.env.locals ∨ X.env.cells.lookup x = some a)) -> Q () s') (hf:X.fn x = true ∨ X.env.scope.names.lookup x = some .local:=by first | exact .inl rfl | exact .inr rfl | assumption):wpAny M A (storeName X.env x u) Q E s:=by
  obtain ⟨m,hn,hl⟩:=id I.loc
  have hcls:(X.env.scope.kind == .class || (X.env.scope.kind == .module && X.env.locals != X.env.globals)) = false:=by rw [I.ok.kind];rfl
  have hiσ:i < σ.length:=by rw [I.len];exact (List.getElem?_eq_some_iff.mp hi).1
  have cne:=I.cne
  have tracked:∀ {a:Addr} {h':Heap},(∃ o,s.heap.get? a = some o /\ H a = none) -> Heap.SameBut a s.heap h' -> HOk X.prog X.w H h':=fun {a h'} ha hs b ob e=>by
    obtain ⟨_,_,hfree⟩:=ha
    refine (I.hok b ob e).stay (fun c w' hc q=>(hs.2 c ?_).trans q) (fun _ q=>q) fun _ _ q=>q
    rintro rfl
    rcases hc with rfl | hc
    . rw [hfree] at e;cases e
    . rw [hfree] at hc;cases hc
  rcases hx with hk | hk
  . refine wpAny_storeName_local hk hn (fun h' hn' hs=>?_) hcls
    obtain ⟨oL,_,_,hoL,_⟩:=id hn
    refine h _ ⟨I.ok,I.os,I.bare,⟨fun b o e n hb hx=>?_,fun b o e n hb hx=>?_,I.base.free,fun b o e hx=>?_,I.base.tups,I.base.frzs,I.base.tbls⟩,⟨_,hn',fun j y v' e1 e2 e3=>?_⟩,fun y c e=>?_,I.free,I.freeC,fun p hp=>?_,tracked ⟨oL,hoL,I.free⟩ hs,by simpa using I.len⟩ ⟨_,hs,.inl rfl⟩
    . exact (hs.2 b (Nat.ne_of_lt (Nat.lt_of_lt_of_le (Heap.lt_size e) I.ok.above))).trans (I.base.keep b o e n hb hx)
    . obtain ⟨sl,e1⟩:=I.base.slot b o e n hb hx
      exact ⟨sl,(hs.2 b (Nat.ne_of_lt (Nat.lt_of_lt_of_le (Heap.lt_size e) I.ok.above))).trans e1⟩
    . obtain ⟨o',e1⟩:=I.base.there b o e hx
      exact ⟨o',(hs.2 b (Nat.ne_of_lt (Nat.lt_of_lt_of_le (Heap.lt_size e) I.ok.above))).trans e1⟩
    . by_cases hj:j = i
      . subst hj
        rw [hi] at e1;cases e1
        rw [List.getElem?_set_self hiσ] at e2
        cases e2
        exact ⟨u,r,.inl ⟨hk,by simp⟩⟩
      . rw [List.getElem?_set_ne (Ne.symm hj)] at e2
        obtain ⟨u',r',q⟩:=hl j y v' e1 e2 e3
        refine ⟨u',r',?_⟩
        rcases q with ⟨k,e⟩ | ⟨k,c,e,z⟩
        . refine .inl ⟨k,?_⟩
          have:y ≠ x:=fun e=>hj (Gu hN e1 (e ▸ hi))
          simp [this,e]
        . exact .inr ⟨k,c,e,z.sameBut hs (cne y c e)⟩
    . obtain ⟨w',z⟩:=I.cell y c e
      exact ⟨w',z.sameBut hs (cne y c e)⟩
    . obtain ⟨e,n,ne,nf,d⟩:=I.pin p hp
      exact ⟨(hs.2 p.1 ne).trans e,n,ne,nf,d⟩
  . have hfn:X.fn x = true:=by
      rcases hf with z | z
      . exact z
      . rw [z] at hk;cases hk
    obtain ⟨c,hc⟩:=I.ok.has x (.inl hk)
    obtain ⟨w',z⟩:=I.cell x c hc
    refine wpAny_storeName_cell I.ok.kind hk hc z (fun h' hc' hs=>?_)
    obtain ⟨oc,hoc,hocd⟩:=id z
    refine h { s with heap:=h' } ⟨I.ok,I.os,I.bare,⟨fun b o e n hb hx=>?_,fun b o e n hb hx=>?_,I.base.free,fun b o e hx=>?_,I.base.tups,I.base.frzs,I.base.tbls⟩,⟨m,hn.sameBut hs (Ne.symm (cne x c hc)),fun j y v' e1 e2 e3=>?_⟩,fun y c' e=>?_,I.free,I.freeC,fun p hp=>?_,tracked ⟨oc,hoc,I.freeC x c hc⟩ hs,by simpa using I.len⟩ ⟨c,hs,.inr hc⟩
    . exact (hs.2 b (Nat.ne_of_lt (Nat.lt_of_lt_of_le (Heap.lt_size e) (I.ok.cab x c hfn hc)))).trans (I.base.keep b o e n hb hx)
    . obtain ⟨sl,e1⟩:=I.base.slot b o e n hb hx
      exact ⟨sl,(hs.2 b (Nat.ne_of_lt (Nat.lt_of_lt_of_le (Heap.lt_size e) (I.ok.cab x c hfn hc)))).trans e1⟩
    . obtain ⟨o',e1⟩:=I.base.there b o e hx
      exact ⟨o',(hs.2 b (Nat.ne_of_lt (Nat.lt_of_lt_of_le (Heap.lt_size e) (I.ok.cab x c hfn hc)))).trans e1⟩
    . by_cases hj:j = i
      . subst hj
        rw [hi] at e1;cases e1
        rw [List.getElem?_set_self hiσ] at e2
        cases e2
        exact ⟨u,r,.inr ⟨.inl hk,c,hc,hc'⟩⟩
      . rw [List.getElem?_set_ne (Ne.symm hj)] at e2
        obtain ⟨u',r',q⟩:=hl j y v' e1 e2 e3
        refine ⟨u',r',?_⟩
        rcases q with q | ⟨k,c',e,z'⟩
        . exact .inl q
        . refine .inr ⟨k,c',e,z'.sameBut hs ?_⟩
          rintro rfl
          exact hj (Gu hN e1 (I.ok.inj _ _ _ e hc ▸ hi))
    . by_cases hcc:c' = c
      . subst hcc;exact ⟨_,hc'⟩
      . obtain ⟨w2,z2⟩:=I.cell y c' e
        exact ⟨w2,z2.sameBut hs hcc⟩
    . obtain ⟨e,n,ne,nf,d⟩:=I.pin p hp
      refine ⟨(hs.2 p.1 ?_).trans e,n,ne,nf,d⟩
      intro q
      rw [q,hoc] at e
      have q':oc = p.2:=Option.some.inj e
      exact d w' (by rw [<- q'];exact hocd)
theorem GN {M:Model} {A:Around} {E:Value -> Shared -> Prop} {i:Nat} {x:Str} {v:V} {u:Value} {Q:Unit -> Shared -> Prop} (I:Inv X pins σ H s) (hN:X.N.Nodup) (hi:X.N[i]? = some x) (hx:Loc X.env.scope x) (r:RelV v u)
    (h:∀ s',Inv X pins (σ.set i (some v)) H s' -> Q () s') (hf:X.fn x = true ∨ X.env.scope.names.lookup x = some .local:=by first | exact .inl rfl | exact .inr rfl | assumption):wpAny M A (storeName X.env x u) Q E s :=
  Ux I hN hi hx r (fun s' I' _=>h s' I') hf
theorem Inv.call' {s':Shared} {ch:List Addr} (I:Inv X pins σ H s) (ho:s'.os = s.os) (u:Un (frs X.stack) ch H H' s.heap s'.heap) (hok:HOk X.prog X.w H' s'.heap) (hg:AllBare s'.gens)
    (hch:∀ b ∈ ch,(b ∈ X.ex ∨ X.s₀.heap.objs.size <= b) /\ b ≠ X.env.locals /\ (∀ x c,X.env.cells.lookup x = some c -> c ≠ b) /\ ∀ p ∈ X.pn ++ pins,p.1 ≠ b):Inv X pins σ H' s':=by
  obtain ⟨h',g',d',t',o'⟩:=s'
  have e:o' = s.os:=ho
  subst e
  exact I.call (g':=g') (t':=t') (d':=d') u hok hg hch
end
abbrev XK:=Value -> Option Addr -> Hp -> Prop
abbrev St:=List (Option V)
abbrev VK:=V -> Hp -> Prop
abbrev TE:=St -> Hp -> VK -> Prop
abbrev TT:=St -> Hp -> (Bool -> Hp -> Prop) -> Prop
abbrev TA:=St -> Hp -> (List V -> Hp -> Prop) -> Prop
structure UH where
  nx:St -> Hp -> Prop
  rt:VK
  bk:St -> Hp -> Prop:=fun _ _=>False
  ct:St -> Hp -> Prop:=fun _ _=>False
abbrev TS:=UH -> St -> Hp -> Prop
def EP (X:Cx) (pins:List (Addr × Obj)) (σ:St) (Q:VK) (u:Value) (s':Shared):Prop:=∃ v H',Inv X pins σ H' s' /\ RelV v u /\ Q v H'
def TP (X:Cx) (pins:List (Addr × Obj)) (σ:St) (Q:Bool -> Hp -> Prop) (b:Bool) (s':Shared):Prop:=∃ H',Inv X pins σ H' s' /\ Q b H'
def AP (X:Cx) (pins:List (Addr × Obj)) (σ:St) (Q:List V -> Hp -> Prop) (us:List Value) (s':Shared):Prop:=∃ vs H',Inv X pins σ H' s' /\ Vals vs us /\ Q vs H'
def SP (X:Cx) (pins:List (Addr × Obj)) (D:UH) (f:Flow) (s':Shared):Prop :=
  match f with
  | .next=>∃ σ' H',Inv X pins σ' H' s' /\ D.nx σ' H'
  | .brk=>∃ σ' H',Inv X pins σ' H' s' /\ D.bk σ' H'
  | .cont=>∃ σ' H',Inv X pins σ' H' s' /\ D.ct σ' H'
  | .ret u=>∃ v σ' H',Inv X pins σ' H' s' /\ RelV v u /\ D.rt v H'
def PE (X:Cx) (e:Expr) (t:TE):Prop :=
  ∀ (pins:List (Addr × Obj)) (s:Shared) (σ:St) (H:Hp) (Q:VK),Inv X pins σ H s -> t σ H Q -> wpAny (model X.prog X.w) X.A (eval e X.env) (EP X pins σ Q) X.xe s
def PT (X:Cx) (e:Expr) (t:TT):Prop :=
  ∀ (pins:List (Addr × Obj)) (s:Shared) (σ:St) (H:Hp) (Q:Bool -> Hp -> Prop),Inv X pins σ H s -> t σ H Q -> wpAny (model X.prog X.w) X.A (isTrue e X.env (eval e X.env)) (TP X pins σ Q) X.xe s
def PW (X:Cx) (e:Expr) (t:TT):Prop :=
  ∀ (whole:Sem Value) (pins:List (Addr × Obj)) (s:Shared) (σ:St) (H:Hp) (Q:Bool -> Hp -> Prop),Inv X pins σ H s -> t σ H Q -> wpAny (model X.prog X.w) X.A (isTrue e X.env whole) (TP X pins σ Q) X.xe s
def PA (X:Cx) (es:List Expr) (t:TA):Prop :=
  ∀ (pos:Pos) (pins:List (Addr × Obj)) (s:Shared) (σ:St) (H:Hp) (Q:List V -> Hp -> Prop),Inv X pins σ H s -> t σ H Q -> wpAny (model X.prog X.w) X.A (spliced (backTo pos (starEach es X.env))) (AP X pins σ Q) X.xe s
def PS (X:Cx) (st:Stmt) (t:TS):Prop :=
  ∀ (pins:List (Addr × Obj)) (s:Shared) (σ:St) (H:Hp) (D:UH),Inv X pins σ H s -> t D σ H -> wpAny (model X.prog X.w) X.A (exec st X.env) (SP X pins D) X.xe s
def PSs (X:Cx) (st:List Stmt) (t:TS):Prop :=
  ∀ (pins:List (Addr × Obj)) (s:Shared) (σ:St) (H:Hp) (D:UH),Inv X pins σ H s -> t D σ H -> wpAny (model X.prog X.w) X.A (execs st X.env) (SP X pins D) X.xe s
theorem thn {α:Type} {t:Sem α} {Q Q':α -> Shared -> Prop} {M:Model} {A:Around} {E:Value -> Shared -> Prop} {s:Shared} (h:wpAny M A t Q E s) (hQ:∀ a s,Q a s -> Q' a s):wpAny M A t Q' E s:=wpAny_mono h hQ fun _ _ x=>x
end L2
namespace L2
open PySem PySem.Spec PyProof.Rows
section
variable {X:Cx}
theorem bin {a b:Expr} {ta tb:TE} (ha:PE X a ta) (hb:PE X b tb) {pins:List (Addr × Obj)} {s:Shared} {σ:St} {H:Hp} {R:V -> V -> Hp -> Prop} (I:Inv X pins σ H s) (h:ta σ H fun x H1=>tb σ H1 fun y H2=>R x y H2)
    {α:Type} {Q:α -> Shared -> Prop} {f:Value -> Value -> Sem α}
    (hf:∀ v u s2 x y H2,Inv X pins σ H2 s2 -> RelV x v -> RelV y u -> R x y H2 -> wpAny (model X.prog X.w) X.A (f v u) Q X.xe s2) :
    wpAny (model X.prog X.w) X.A (eval a X.env) (fun v s₁=>wpAny (model X.prog X.w) X.A (eval b X.env) (fun u s₂=>wpAny (model X.prog X.w) X.A (f v u) Q X.xe s₂) X.xe s₁) X.xe s:=by
  refine thn (ha pins s σ H _ I h) fun v s1 ⟨x,H1,I1,r1,q1⟩=>?_
  refine thn (hb pins s1 σ H1 _ I1 q1) fun u s2 ⟨y,H2,I2,r2,q2⟩=>?_
  exact hf v u s2 x y H2 I2 r1 r2 q2
def QfZ (i:Nat):TE:=fun σ H Q=>∃ v,σ[i]? = some (some v) /\ Q v H
def tC (v:V):TE:=fun _ H Q=>Q v H
theorem Qd2 {i:Nat} {x:Str} {pos:Pos} (hN:X.N[i]? = some x) (hv:Vis X.env.scope x) (hd:(x == ("__debug__" : Str)) = false:=by decide) (hcd:(x == ("__classdict__" : Str)) = false:=by decide):PE X (.Name x pos) (QfZ i):=by
  intro pins s σ H Q I h
  obtain ⟨v,e,h⟩:=h
  obtain ⟨m,hn,hl⟩:=I.loc
  obtain ⟨u,r,l⟩:=hl i x v hN e hv
  have fin:EP X pins σ Q u s:=⟨v,H,I,r,h⟩
  rcases l with ⟨hk,hm⟩ | ⟨hk,c,hc,hcell⟩
  . exact wpAny_Name (wpAny_loadName_local I.ok.kind hk hn hm fin) hd
  . rcases hk with hk | hk
    . exact wpAny_Name (wpAny_loadName_cell I.ok.kind hk hc hcell fin) hd
    . exact wpAny_Name (wpAny_loadName_free I.ok.kind hk hc hcell fin hcd) hd
theorem QdX {i j pos}:PE X (.Constant (.int i) j pos) (tC (.int i)):=fun _ _ _ H _ I h=>wpAny_Constant_int ⟨.int i,H,I.tok _,⟨_,rfl⟩,h⟩
theorem Qe7 {b j pos}:PE X (.Constant (.bool b) j pos) (tC (.bl b)):=fun _ _ _ H _ I h=>Constant_bool ⟨.bl b,H,I,rfl,h⟩
theorem QdY {j pos}:PE X (.Constant .none j pos) (tC .non):=fun _ _ _ H _ I h=>Constant_none ⟨.non,H,I,rfl,h⟩
theorem Qd0 {x j pos}:PE X (.Constant (.str x) j pos) (tC (.str x)):=fun _ _ _ H _ I h=>Calls.Constant_str ⟨.str x,H,I.tok _,⟨_,rfl⟩,h⟩
def Gl (X:Cx) (x:Str):Prop:=X.env.kindOf x = some .globalImplicit
theorem Kf {E:Value -> Shared -> Prop} {pins:List (Addr × Obj)} {s:Shared} {σ:St} {H:Hp} {x:Str} {u:Value} {pos:Pos} {Q:Value -> Shared -> Prop} (I:Inv X pins σ H s) (hg:Gl X x) (hm:X.mg x = some u) (h:Q u s)
    (hd:(x == ("__debug__" : Str)) = false:=by decide):wpAny (model X.prog X.w) X.A (eval (.Name x pos) X.env) Q E s :=
  Calls.Name_function_global I.ok.kind hg (Calls.loadGlobal_global (by rw [I.ok.glob];exact I.mod.glob.keeps I.bk) hm h) hd
theorem yR {E:Value -> Shared -> Prop} {pins:List (Addr × Obj)} {s:Shared} {σ:St} {H:Hp} {x:Str} {u:Value} {pos:Pos} {Q:Value -> Shared -> Prop} (I:Inv X pins σ H s) (hg:Gl X x) (hm:X.mg x = none) (hv:bootBuiltins x = some u) (h:Q u s)
    (hn:x ≠ "__name__" := by decide) (hd:(x == ("__debug__" : Str)) = false:=by decide):wpAny (model X.prog X.w) X.A (eval (.Name x pos) X.env) Q E s:=by
  obtain ⟨mb,h1,h2⟩:=I.mod.blt
  exact Calls.Name_function_global I.ok.kind hg (Calls.loadGlobal_builtin (by rw [I.ok.glob];exact I.mod.glob.keeps I.bk) hm (by rw [I.ok.blt];exact h1.keeps I.bk) ((h2 x hn).trans hv) h) hd
theorem uM {x:Str} {v:V} {u:Value} {pos:Pos} (hg:Gl X x) (hm:X.mg x = some u) (r:RelV v u) (hd:(x == ("__debug__" : Str)) = false:=by decide):PE X (.Name x pos) (tC v) :=
  fun _ _ _ H _ I h=>Kf I hg hm ⟨v,H,I,r,h⟩ hd
variable {a b:Expr} {ta tb:TE} {pos:Pos}
def PC (X:Cx) (op:CmpOp) (a b:Expr) (t:TE):Prop :=
  ∀ (pins : List (Addr × Obj)) (s : Shared) (σ : St) (H : Hp) (Q : VK), Inv X pins σ H s -> t σ H Q ->
    wpAny (model X.prog X.w) X.A (eval a X.env) (fun v s₁=>wpAny (model X.prog X.w) X.A (eval b X.env) (fun u s₂=>wpAny (model X.prog X.w) X.A (compareOp op v u) (EP X pins σ Q) X.xe s₂) X.xe s₁) X.xe s
theorem QaM (b:Expr) {op:CmpOp} (h:op ≠ .In) (h2:op ≠ .NotIn):behindInMarks op b = false:=by
  have e1:(op == CmpOp.In) = false:=by cases op <;> first | rfl | exact absurd rfl h
  have e2:(op == CmpOp.NotIn) = false:=by cases op <;> first | rfl | exact absurd rfl h2
  cases b <;> simp [behindInMarks,e1,e2]
def tB (t:TE):TT:=fun σ H Q=>t σ H fun x H1=>∃ c,x = .bl c /\ Q c H1
theorem QfI {op:CmpOp} {t:TE} (h:PC X op a b t) (h1:behindInMarks op b = false:=by first | exact QaM _ (by decide) (by decide) | rfl):PT X (.Compare a [op] [b] pos) (tB t):=by
  intro pins s σ H Q I hw
  refine wpAny_isTrue_Compare1 (thn (h pins s σ H _ I hw) fun v s1 h1=>thn h1 fun u s2 h2=>thn h2 fun c s3 ⟨x,H1,I1,r1,q1⟩=>?_) h1
  obtain ⟨d,rfl,q⟩:=q1
  cases r1
  exact wpAny_truthy_bool ⟨H1,I1,q⟩
theorem Qee {e:Expr} {t:TE} (h:PE X e t) (he:∀ whole,isTrue e X.env whole = (do let v <- whole;standAt e.pos;holding [v] (truthy v)):=by intro _;rfl):PT X e (tB t):=by
  intro pins s σ H Q I hw
  refine isTrue_plain (thn (h pins s σ H _ I hw) fun v s1 ⟨x,H1,I1,r1,q1⟩=>?_) (he _)
  obtain ⟨d,rfl,q⟩:=q1
  cases r1
  exact wpAny_truthy_bool ⟨H1,I1,q⟩
variable {tA tB':TT} {rest:List Expr}
def QfR (t u:TT):TT:=fun σ H Q=>t σ H fun c H1=>if c = true then u σ H1 Q else Q false H1
def tOr (t u:TT):TT:=fun σ H Q=>t σ H fun c H1=>if c = true then Q true H1 else u σ H1 Q
def QfW (t:TT):TT:=fun σ H Q=>t σ H fun c H1=>Q (!c) H1
theorem QcA (ha:PT X a tA):PW X (.BoolOp .And [a] pos) tA:=by
  intro wh pins s σ H Q I h
  refine isTrue_and (thn (ha pins s σ H Q I h) fun c s1 e=>?_)
  cases c with
  | true=>exact isTrue_and_nil e
  | false=>exact e
theorem Qeh (ha:PT X a tA):PW X (.BoolOp .Or [a] pos) tA:=by
  intro wh pins s σ H Q I h
  refine isTrue_or (thn (ha pins s σ H Q I h) fun c s1 e=>?_)
  cases c with
  | false=>exact isTrue_or_nil e
  | true=>exact e
theorem Qeg (ha:PT X a tA) (hb:PW X (.BoolOp .And (b :: rest) pos) tB'):PW X (.BoolOp .And (a :: b :: rest) pos) (QfR tA tB'):=by
  intro wh pins s σ H Q I h
  refine isTrue_and (thn (ha pins s σ H _ I h) fun c s1 ⟨H1,I1,q1⟩=>?_)
  cases c with
  | true=>exact hb wh pins s1 σ H1 Q I1 q1
  | false=>exact ⟨H1,I1,q1⟩
theorem Qfb (ha:PT X a tA) (hb:PW X (.BoolOp .Or (b :: rest) pos) tB'):PW X (.BoolOp .Or (a :: b :: rest) pos) (tOr tA tB'):=by
  intro wh pins s σ H Q I h
  refine isTrue_or (thn (ha pins s σ H _ I h) fun c s1 ⟨H1,I1,q1⟩=>?_)
  cases c with
  | true=>exact ⟨H1,I1,q1⟩
  | false=>exact hb wh pins s1 σ H1 Q I1 q1
theorem Qed (ha:PT X a tA):PT X (.UnaryOp .Not a pos) (QfW tA):=by
  intro pins s σ H Q I h
  exact isTrue_not (ha pins s σ H (fun c H1=>Q (!c) H1) I h)
def Qfj (ta tb:TE):TE:=fun σ H Q=>ta σ H fun x H1=>∃ c,x = .bl c /\ if c = true then tb σ H1 Q else Q (.bl false) H1
theorem QdZ {op} {t:TE} (h:PE X a t):PE X (.BoolOp op [a] pos) t:=fun pins s σ H Q I hw=>BoolOp_one (h pins s σ H Q I hw)
theorem QdV (ha:PE X a ta) (hb:PE X (.BoolOp .And (b :: rest) pos) tb):PE X (.BoolOp .And (a :: b :: rest) pos) (Qfj ta tb):=by
  intro pins s σ H Q I h
  refine BoolOp_and (thn (ha pins s σ H _ I h) fun v s1 ⟨x,H1,I1,r1,q1⟩=>?_)
  obtain ⟨c,rfl,q1⟩:=q1
  cases r1
  refine wpAny_truthy_bool ?_
  cases c with
  | true=>exact hb pins s1 σ H1 Q I1 q1
  | false=>exact ⟨.bl false,H1,I1,rfl,q1⟩
def tIf (t:TT) (ta tb:TE):TE:=fun σ H Q=>t σ H fun c H1=>if c = true then ta σ H1 Q else tb σ H1 Q
theorem QaX {c:Expr} (hc:PT X c tA) (ha:PE X a ta) (hb:PE X b tb):PE X (.IfExp c a b pos) (tIf tA ta tb):=by
  intro pins s σ H Q I h
  refine wpAny_IfExp (thn (hc pins s σ H _ I h) fun d s1 ⟨H1,I1,q1⟩=>?_)
  cases d with
  | true=>exact ha pins s1 σ H1 Q I1 q1
  | false=>exact hb pins s1 σ H1 Q I1 q1
end
end L2
namespace L2
open PySem PySem.Spec PyProof.Rows
def SqL (K:PySem.W.Frag) (H:Hp) (a:Addr) (xs:List V):Prop :=
  Rd H a (.lst xs) ∨
    ∃ (o:Obj) (its:Array Value) (n:Nat),K.lookup a = some o /\ o.cls = .type "list" /\ o.dict = none /\ o.data = .seq its n /\ its.size <= sizeLine /\ Vals xs its.toList
def SqT (K:PySem.W.Frag) (H:Hp) (a:Addr) (xs:List V):Prop :=
  Rd H a (.tup xs) ∨
    ∃ (o:Obj) (its:Array Value) (n:Nat),K.lookup a = some o /\ o.cls = .type "tuple" /\ o.data = .seq its n /\ its.size <= sizeLine /\ Vals xs its.toList
def Qfx:Value -> Option V
  | .none=>some .non
  | .bool b=>some (.bl b)
  | .int i _=>some (.int i)
  | .str x _=>some (.str x)
  | .bytes b _=>some (.byt b)
  | .float b _=>some (.flt b)
  | .ref a=>some (.ref a)
  | .type n=>some (.ty n)
  | _=>none
theorem RelV.abs {x:V} {u:Value} (r:RelV x u):Qfx u = some x:=by
  cases x with
  | non=>cases r;rfl
  | bl _=>cases r;rfl
  | int _=>obtain ⟨t,rfl⟩:=r;rfl
  | str _=>obtain ⟨t,rfl⟩:=r;rfl
  | byt _=>obtain ⟨t,rfl⟩:=r;rfl
  | flt _=>obtain ⟨t,rfl⟩:=r;rfl
  | ref _=>cases r;rfl
  | ty _=>cases r;rfl
theorem RelV.inj {x y:V} {u:Value} (r:RelV x u) (q:RelV y u):x = y:=Option.some.inj (r.abs.symm.trans q.abs)
theorem Vals.inj:∀ {xs ys:List V} {us:List Value},Vals xs us -> Vals ys us -> xs = ys
  | _,_,_,.nil,.nil=>rfl
  | _,_,_,.cons r t,.cons r' t'=>by rw [r.inj r',Vals.inj t t']
section
variable {X:Cx} {pins:List (Addr × Obj)} {σ:St} {H:Hp} {s:Shared} {a:Addr} {xs ys:List V}
theorem SqL.of {K:PySem.W.Frag} (h:H a = some (.lst xs)):SqL K H a xs:=.inl (.inl h)
theorem SqT.of {K:PySem.W.Frag} (h:H a = some (.tup xs)):SqT K H a xs:=.inl (.inl h)
theorem Inv.list (I:Inv X pins σ H s) (h:SqL X.K H a xs):∃ its:List Value,Vals xs its /\ PlainL s.heap a its.toArray /\ xs.length <= sizeLine:=by
  rcases h with h | ⟨o,its,n,hk,hc,hd,hs,hz,r⟩
  . obtain ⟨z,its,n,r,e⟩:=h.ok I.hok
    exact ⟨its,r,⟨_,n,e,rfl,rfl,rfl⟩,z⟩
  . refine ⟨its.toList,r,⟨o,n,I.kIn a o hk,hc,hd,by simpa using hs⟩,?_⟩
    have e:=r.length
    simp only [Array.length_toList] at e
    omega
theorem Inv.tuple (I:Inv X pins σ H s) (h:SqT X.K H a xs):∃ its:List Value,Vals xs its /\ IsTup s.heap a its.toArray /\ xs.length <= sizeLine:=by
  rcases h with h | ⟨o,its,n,hk,hc,hs,hz,r⟩
  . obtain ⟨z,its,r,p⟩:=h.ok I.hok
    exact ⟨its,r,p,z⟩
  . refine ⟨its.toList,r,⟨o,I.kIn a o hk,hc,n,by simpa using hs⟩,?_⟩
    have e:=r.length
    simp only [Array.length_toList] at e
    omega
theorem Inv.list_inj (I:Inv X pins σ H s) (h:SqL X.K H a xs) (h':SqL X.K H a ys):xs = ys:=by
  obtain ⟨its,r,⟨o,n,e,_,_,d⟩,_⟩:=I.list h
  obtain ⟨its',r',⟨o',n',e',_,_,d'⟩,_⟩:=I.list h'
  rw [e] at e';cases e'
  rw [d] at d'
  injection d' with d1 _
  have:its = its':=by simpa using congrArg Array.toList d1
  subst this
  exact r.inj r'
theorem Inv.tuple_inj (I:Inv X pins σ H s) (h:SqT X.K H a xs) (h':SqT X.K H a ys):xs = ys:=by
  obtain ⟨its,r,⟨o,e,_,n,d⟩,_⟩:=I.tuple h
  obtain ⟨its',r',⟨o',e',_,n',d'⟩,_⟩:=I.tuple h'
  rw [e] at e';cases e'
  rw [d] at d'
  injection d' with d1 _
  have:its = its':=by simpa using congrArg Array.toList d1
  subst this
  exact r.inj r'
end
abbrev Cx.wish (X:Cx) (E:Value -> Shared -> Prop):Cx:={ X with xe:=E }
abbrev Cx.nox (X:Cx):Cx:=X.wish fun _ _=>False
theorem Cx.Ok.wish {X:Cx} (ok:X.Ok) (E:Value -> Shared -> Prop):(X.wish E).Ok :=
  ⟨ok.mod,ok.kind,ok.glob,ok.blt,ok.above,ok.inj,ok.has,ok.cab,ok.hd,ok.frames,ok.stk,ok.exf,ok.bs,ok.bsz,ok.noex,ok.exfs,ok.funs,ok.frf⟩
theorem Cx.Ok.unwish {X:Cx} {E:Value -> Shared -> Prop} (ok:(X.wish E).Ok):X.Ok :=
  ⟨ok.mod,ok.kind,ok.glob,ok.blt,ok.above,ok.inj,ok.has,ok.cab,ok.hd,ok.frames,ok.stk,ok.exf,ok.bs,ok.bsz,ok.noex,ok.exfs,ok.funs,ok.frf⟩
section
variable {X:Cx} {pins:List (Addr × Obj)} {σ:St} {H:Hp} {s:Shared} {E:Value -> Shared -> Prop}
theorem Inv.wish (I:Inv X pins σ H s) (E:Value -> Shared -> Prop):Inv (X.wish E) pins σ H s:=⟨I.ok.wish E,I.os,I.bare,I.base,I.loc,I.cell,I.free,I.freeC,I.pin,I.hok,I.len⟩
theorem Inv.unwish (I:Inv (X.wish E) pins σ H s):Inv X pins σ H s:=⟨I.ok.unwish,I.os,I.bare,I.base,I.loc,I.cell,I.free,I.freeC,I.pin,I.hok,I.len⟩
theorem SP.unwish {D:UH} {f:Flow} {s':Shared} (h:SP (X.wish E) pins D f s'):SP X pins D f s':=by
  cases f with
  | next=>obtain ⟨σ',H',I,q⟩:=h;exact ⟨σ',H',I.unwish,q⟩
  | brk=>obtain ⟨σ',H',I,q⟩:=h;exact ⟨σ',H',I.unwish,q⟩
  | cont=>obtain ⟨σ',H',I,q⟩:=h;exact ⟨σ',H',I.unwish,q⟩
  | ret u=>obtain ⟨v,σ',H',I,r,q⟩:=h;exact ⟨v,σ',H',I.unwish,r,q⟩
theorem PSs.nox {st:List Stmt} {t:TS} (h:PSs X.nox st t):PSs X st t:=fun pins s σ H D I hw =>
  wpAny_mono (h pins s σ H D (I.wish _) hw) (fun _ _ q=>q.unwish) fun _ _ z=>False.elim z
end
section
variable {X:Cx} {st:Stmt} {rest:List Stmt} {t u:TS} {e:Expr} {te:TE} {pos:Pos}
def Qfn:TS:=fun D σ H=>D.nx σ H
def Qfq (t u:TS):TS:=fun D σ H=>t { D with nx:=u D } σ H
theorem pss_nil:PSs X [] Qfn:=fun _ _ σ H _ I h=>wpAny_execs_nil ⟨σ,H,I,h⟩
theorem Qa9 (h1:PS X st t) (h2:PSs X rest u):PSs X (st :: rest) (Qfq t u):=by
  intro pins s σ H D I h
  refine wpAny_execs_cons (thn (h1 pins s σ H { D with nx:=u D } I h) fun f s1 q=>?_)
  cases f with
  | next =>
    obtain ⟨σ',H',I',q⟩:=q
    exact h2 pins s1 σ' H' D I' q
  | ret v=>exact q
  | brk=>exact q
  | cont=>exact q
theorem Qcw (h1:PS X st t):PSs X [st] t:=by
  intro pins s σ H D I h
  refine wpAny_execs_cons (thn (h1 pins s σ H D I h) fun f s1 q=>?_)
  cases f with
  | next=>exact wpAny_execs_nil q
  | ret v=>exact q
  | brk=>exact q
  | cont=>exact q
theorem Inv.quiet {pins:List (Addr × Obj)} {σ:St} {H:Hp} {s:Shared} (I:Inv X pins σ H s):interactive X.env = false:=by simp [interactive,I.ok.kind]
def Qfm (te:TE):TS:=fun D σ H=>te σ H fun _ H1=>D.nx σ H1
theorem Qcv (he:PE X e te) (hs:swapsWith e none pos.line X.env = pure false:=by rfl):PS X (.Expr e pos) (Qfm te):=by
  intro pins s σ H D I h
  exact wpAny_Expr_any (thn (he pins s σ H _ I h) fun v s1 ⟨x,H1,I1,r1,q1⟩=>⟨σ,H1,I1,q1⟩) I.quiet hs
def QfX (te:TE):TS:=fun D σ H=>te σ H D.rt
theorem Qeb (he:PE X e te):PS X (.Return (some e) pos) (QfX te):=by
  intro pins s σ H D I h
  exact wpAny_Return_some (thn (he pins s σ H _ I h) fun v s1 ⟨x,H1,I1,r1,q1⟩=>⟨x,σ,H1,I1,r1,q1⟩)
def QfU (c:TT) (t u:TS):TS:=fun D σ H=>c σ H fun b H1=>if b = true then t D σ H1 else u D σ H1
theorem Qfa {c:Expr} {a b:List Stmt} {tc:TT} (hc:PT X c tc) (ha:PSs X a t) (hb:PSs X b u):PS X (.If c a b pos) (QfU tc t u):=by
  intro pins s σ H D I h
  refine wpAny_If (thn (hc pins s σ H _ I h) fun d s1 ⟨H1,I1,q1⟩=>?_)
  cases d with
  | true=>exact ha pins s1 σ H1 D I1 q1
  | false=>exact hb pins s1 σ H1 D I1 q1
def Qen:TS:=fun _ _ _=>False
theorem Qa8:PS X st Qen:=fun _ _ _ _ _ _ h=>h.elim
end
abbrev TG:=V -> St -> Hp -> (St -> Hp -> Prop) -> Prop
abbrev TGs:=List V -> St -> Hp -> (St -> Hp -> Prop) -> Prop
def PG (X:Cx) (target:Expr) (t:TG):Prop :=
  ∀ (pins : List (Addr × Obj)) (s : Shared) (σ : St) (H : Hp) (v : V) (u : Value) (Q : St -> Hp -> Prop), Inv X pins σ H s -> RelV v u -> t v σ H Q ->
    wpAny (model X.prog X.w) X.A (assign target X.env u) (fun _ s'=>∃ σ' H',Inv X pins σ' H' s' /\ Q σ' H') X.xe s
def PGs (X:Cx) (ts:List Expr) (t:TGs):Prop :=
  ∀ (pins : List (Addr × Obj)) (s : Shared) (σ : St) (H : Hp) (vs : List V) (us : List Value) (Q : St -> Hp -> Prop), Inv X pins σ H s -> Vals vs us -> t vs σ H Q ->
    wpAny (model X.prog X.w) X.A (assignInOrder ((assignEach ts X.env).map (·.2)) us) (fun _ s'=>∃ σ' H',Inv X pins σ' H' s' /\ Q σ' H') X.xe s
abbrev QbG:=V -> V -> V -> Hp -> (Hp -> Prop) -> Prop
def QbF (X:Cx) (t:QbG):Prop :=
  ∀ (pins : List (Addr × Obj)) (s : Shared) (σ : St) (H : Hp) (o i v : V) (ov iv u : Value) (Q : Hp -> Prop), Inv X pins σ H s -> RelV o ov -> RelV i iv -> RelV v u -> t o i v H Q ->
    wpAny (model X.prog X.w) X.A (setItem ov iv u) (fun _ s'=>∃ H',Inv X pins σ H' s' /\ Q H') X.xe s
section
variable {X:Cx} {pos:Pos}
def uB (i:Nat):TG:=fun v σ H Q=>Q (σ.set i (some v)) H
theorem Ko {i:Nat} {x:Str} (hN:X.N.Nodup) (hi:X.N[i]? = some x) (hx:Loc X.env.scope x) (hf:X.fn x = true ∨ X.env.scope.names.lookup x = some .local:=by first | exact .inl rfl | exact .inr rfl | assumption):PG X (.Name x pos) (uB i):=by
  intro pins s σ H v u Q I r h
  exact wpAny_assign_Name (GN I hN hi hx r (fun s' I'=>⟨_,H,I',h⟩) hf)
def Qfz:TGs:=fun vs σ H Q=>vs = [] /\ Q σ H
def QeP (t:TG) (u:TGs):TGs:=fun vs σ H Q=>∃ v r,vs = v :: r /\ t v σ H fun σ' H'=>u r σ' H' Q
theorem Qcl:PGs X [] Qfz:=by
  intro pins s σ H vs us Q I r h
  obtain ⟨e,h⟩:=h
  subst e
  cases r
  exact assignInOrder_nil ⟨σ,H,I,h⟩
theorem Qa4 {e:Expr} {es:List Expr} {t:TG} {u:TGs} (h1:PG X e t) (h2:PGs X es u)
    (hs:(assignEach (e :: es) X.env).map (·.2) = assign e X.env :: (assignEach es X.env).map (·.2):=by rfl):PGs X (e :: es) (QeP t u):=by
  intro pins s σ H vs us Q I r h
  obtain ⟨v,vr,e1,h⟩:=h
  subst e1
  cases r with
  | cons r rr =>
    rw [hs]
    refine assignInOrder_cons (thn (h1 pins s σ H _ _ _ I r h) fun _ s1 ⟨σ1,H1,I1,q1⟩=>?_)
    exact h2 pins s1 σ1 H1 _ _ Q I1 rr q1
def QfB (K:PySem.W.Frag) (n:Nat) (t:TGs):TG:=fun v σ H Q=>∃ a xs,v = .ref a /\ SqT K H a xs /\ xs.length = n /\ t xs σ H Q
theorem Qd6 {es:List Expr} {k:Nat} {t:TGs} {n:Nat} (hc:X.calm = true) (h:PGs X es t)
    (hn:(assignEach es X.env).length = n:=by rfl) (hst:(assignEach es X.env).findIdx? (·.1) = none:=by rfl):PG X (.Tuple es k pos) (QfB X.K n t):=by
  intro pins s σ H v u Q I r hw
  obtain ⟨a,xs,e1,hq,hl,hw⟩:=hw
  subst e1
  cases r
  obtain ⟨its,rv,ht,hz⟩:=I.tuple hq
  refine assign_Tuple_tuple (I.ok.hd hc) ht (by simp [hn,<- hl,rv.length]) hst fun h' hx=>?_
  have I1:Inv X pins σ H { s with heap:=h' }:=I.kept (t':=s.toks) fun b o e=>hx b o (Nat.ne_of_lt (Heap.lt_size e)) e
  exact h pins _ σ H xs _ Q I1 (by simpa using rv) hw
def QfA (to ti:TE) (t:QbG):TG:=fun v σ H Q=>to σ H fun o H1=>ti σ H1 fun i H2=>t o i v H2 fun H3=>Q σ H3
theorem Qd5 {o i:Expr} {to ti:TE} {t:QbG} (ho:PE X o to) (hi:PE X i ti) (hs:QbF X t)
    (ha:∀ v,assign (.Subscript o i pos) X.env v = (do
      let ov <- holding [v] (eval o X.env)
      let iv <- holding [v,ov] (eval i X.env)
      standAt pos
      holding [v,ov,iv] (setItem ov iv v)
      release [v,ov,iv] []):=by intro _;rfl):PG X (.Subscript o i pos) (QfA to ti t):=by
  intro pins s σ H v u Q I r h
  rw [ha]
  refine wpAny_bind (wpAny_holding (thn (ho pins s σ H _ I h) fun ov s1 ⟨x,H1,I1,r1,q1⟩=>?_))
  refine wpAny_bind (wpAny_holding (thn (hi pins s1 σ H1 _ I1 q1) fun iv s2 ⟨y,H2,I2,r2,q2⟩=>?_))
  refine wpAny_bind (wpAny_standAt (wpAny_bind (wpAny_holding (thn (hs pins s2 σ H2 x y v ov iv u _ I2 r1 r2 r q2) fun _ s3 ⟨H3,I3,q3⟩=>?_))))
  exact wpAny_release ⟨σ,H3,I3,q3⟩
def QcP (te:TE) (g:TG):TS:=fun D σ H=>te σ H fun x H1=>g x σ H1 D.nx
theorem Qd9 {tg e:Expr} {te:TE} {g:TG} (he:PE X e te) (hg:PG X tg g) (hs:swapsWithSole [tg] e pos.line X.env = pure false:=by rfl) (hw:swappedStores [tg] e X.env = pure none:=by rfl)
    (h1:(assignEach [tg] X.env).map (·.2) = [assign tg X.env]:=by rfl):PS X (.Assign [tg] e pos) (QcP te g):=by
  intro pins s σ H D I h
  refine wpAny_Assign_stores (thn (he pins s σ H _ I h) fun v s1 ⟨x,H1,I1,r1,q1⟩=>?_) hs hw
  rw [h1]
  exact thn (hg pins s1 σ H1 x v _ I1 r1 q1) fun _ s2 q=>q
theorem Qec {i:Nat} {x:Str} {e:Expr} {te:TE} {pos':Pos} (hN:X.N.Nodup) (hi:X.N[i]? = some x) (hx:Loc X.env.scope x) (he:PE X e te) (hs:swapsWith e (some (.Name x pos')) pos.line X.env = pure false:=by rfl) (hf:X.fn x = true ∨ X.env.scope.names.lookup x = some .local:=by first | exact .inl rfl | exact .inr rfl | assumption) :
    PS X (.Assign [.Name x pos'] e pos) (QcP te (uB i)):=by
  intro pins s σ H D I h
  refine wpAny_Assign_Name (thn (he pins s σ H _ I h) fun v s1 ⟨y,H1,I1,r1,q1⟩=>?_) hs
  exact GN I1 hN hi hx r1 (fun s2 I2=>⟨_,H1,I2,q1⟩) hf
end
section
variable {X:Cx} {pos:Pos}
end
structure It where
  go:Nat -> Hp -> Prop
  yld:Nat -> Hp -> V -> Hp -> Prop
  stop:Nat -> Hp -> Prop
def VH (X:Cx) (pins:List (Addr × Obj)) (H:Hp) (b:Addr):Prop :=
  H b = none /\ b ≠ X.env.locals /\ b ∉ X.fs /\ (b ∈ X.ex ∨ X.s₀.heap.objs.size <= b) /\ (∀ x c,X.env.cells.lookup x = some c -> c ≠ b) /\ ∀ p ∈ X.pn ++ pins,p.1 ≠ b
theorem Inv.fpOk {X:Cx} {pins:List (Addr × Obj)} {σ:St} {H H':Hp} {s:Shared} {b:Addr} (I:Inv X pins σ H s) (hb:s.heap.objs.size <= b) (hn:H' b = none):VH X pins H' b:=by
  refine ⟨hn,Nat.ne_of_gt (Nat.lt_of_lt_of_le I.lt hb),I.nofs hb,.inr (Nat.le_trans I.sz hb),fun x c e z=>?_,fun p hp z=>?_⟩
  . obtain ⟨v,q⟩:=I.cell x c e
    exact absurd (Nat.lt_of_lt_of_le q.lt (by rw [z];exact hb)) (Nat.lt_irrefl _)
  . exact absurd (Nat.lt_of_lt_of_le (Heap.lt_size (I.pin p hp).1) (by rw [z];exact hb)) (Nat.lt_irrefl _)
structure uZ (P:Program) (w:World) (K:PySem.W.Frag) (tg:Expr) (J:It) (fp:List Addr) (it:Addr) (tn:Nat -> Heap -> Prop):Prop where
  mem:it ∈ fp
  obj:∀ i h,tn i h -> ∀ b ∈ fp,∃ o,h.get? b = some o /\ ∀ v,o.data ≠ .cell v
  keep:∀ i h h',tn i h -> (∀ b ∈ fp,∀ o,h.get? b = some o -> h'.get? b = some o) -> tn i h'
  item:∀ (X:Cx),X.prog = P -> X.w = w -> X.K = K -> X.calm = true -> ∀ (i:Nat) (pins:List (Addr × Obj)) (s:Shared) (σ:St) (H:Hp) (E:Value -> Shared -> Prop),Inv X pins σ H s -> (∀ b ∈ fp,VH X pins H b) -> tn i s.heap -> J.go i H ->
    wpAny (model P w) X.A (pyNext (.ref it)) (fun r s1=>∃ u,r = some u /\
      wpAny (model P w) X.A (letOwnedTupleGo tg (.ref it) u) (fun _ s2=>∃ x H',Inv X pins σ H' s2 /\ RelV x u /\ J.yld i H x H' /\ tn (i + 1) s2.heap /\ ∀ b ∈ fp,H' b = none) E s1) E s
  done:∀ (X:Cx),X.prog = P -> X.w = w -> X.K = K -> X.calm = true -> ∀ (i:Nat) (pins:List (Addr × Obj)) (s:Shared) (σ:St) (H:Hp) (E:Value -> Shared -> Prop),Inv X pins σ H s -> (∀ b ∈ fp,VH X pins H b) -> tn i s.heap -> J.stop i H ->
    wpAny (model P w) X.A (pyNext (.ref it)) (fun r s1=>r = none /\ Inv X pins σ H s1) E s
  self:∀ (A:Around) (i:Nat) (s:Shared) (Q:Value -> Shared -> Prop) (E:Value -> Shared -> Prop),tn i s.heap -> Q (.ref it) s -> wpAny (model P w) A (pyIter (.ref it)) Q E s
abbrev TI:=St -> Hp -> (It -> Hp -> Prop) -> Prop
def PIE (X:Cx) (pins:List (Addr × Obj)) (σ:St) (tg:Expr) (R:It -> Hp -> Prop) (itv:Value) (s2:Shared):Prop :=
  ∃ (it:Addr) (fp:List Addr) (tn:Nat -> Heap -> Prop) (J:It) (H':Hp),itv = .ref it /\ Inv X pins σ H' s2 /\ uZ X.prog X.w X.K tg J fp it tn /\ tn 0 s2.heap /\ (∀ b ∈ fp,VH X pins H' b) /\ R J H'
def PI (X:Cx) (tg iter:Expr) (wi:TI):Prop :=
  ∀ (pins : List (Addr × Obj)) (s : Shared) (σ : St) (H : Hp) (R : It -> Hp -> Prop), Inv X pins σ H s -> wi σ H R ->
    wpAny (model X.prog X.w) X.A (eval iter X.env) (fun v s1=>wpAny (model X.prog X.w) X.A (pyIter v) (PIE X pins σ tg R) X.xe s1) X.xe s
theorem Qao {M:Model} {A:Around} {E:Value -> Shared -> Prop} {s:Shared} {tg:Expr} {it:Addr} {u:Value} {o:Obj} {n:String} {vs:Array Value} {Q:Unit -> Shared -> Prop} (ho:s.heap.get? it = some o) (hc:o.cls = .type n) (hd:o.data = .fields vs)
    (hn:["enumerate", "zip", "dict_itemiterator", "dict_reverseitemiterator", "odict_iterator", "itertools.zip_longest", "itertools.pairwise"].contains n = false) (hQ:Q () s):wpAny M A (letOwnedTupleGo tg (.ref it) u) Q E s:=by
  unfold letOwnedTupleGo
  cases tg <;> first
    | exact wpAny_pure hQ
    | (cases u <;> first
        | exact wpAny_pure hQ
        | (refine wpAny_bind (wpAny_load ho ?_)
           rw [hc,hd]
           show wpAny M A (if (["enumerate", "zip", "dict_itemiterator", "dict_reverseitemiterator", "odict_iterator", "itertools.zip_longest", "itertools.pairwise"].contains n && vs[0]? == some (rawInt _)) = true then _ else _) Q E s
           rw [if_neg (by intro h;rw [hn,Bool.false_and] at h;cases h)]
           exact wpAny_pure hQ))
def Itl (K:PySem.W.Frag) (a:Addr):It :=
  ⟨fun i H=>∃ xs x,SqL K H a xs /\ xs[i]? = some x,fun i H x H'=>H' = H /\ ∀ xs,SqL K H a xs -> xs[i]? = some x,fun i H=>∃ xs,SqL K H a xs /\ xs.length <= i⟩
def Itt (K:PySem.W.Frag) (a:Addr):It :=
  ⟨fun i H=>∃ xs x,SqT K H a xs /\ xs[i]? = some x,fun i H x H'=>H' = H /\ ∀ xs,SqT K H a xs -> xs[i]? = some x,fun i H=>∃ xs,SqT K H a xs /\ xs.length <= i⟩
def Itr (lo:Int) (n:Nat):It:=⟨fun i _=>i < n,fun i H x H'=>H' = H /\ x = .int (lo + i),fun i _=>n <= i⟩
theorem kB {P:Program} {w:World} {K:PySem.W.Frag} {tg:Expr} (a it:Addr):uZ P w K tg (Itl K a) [it] it (fun i h=>h.IsListIter it a i) where
  mem:=by simp
  obj:=fun i h st b hb=>by
    have e:b = it:=by simpa using hb
    subst e
    obtain ⟨o,e,c,d⟩:=st
    exact ⟨o,e,fun v z=>by rw [d] at z;cases z⟩
  keep:=fun i h h' st k=>st.at fun o e=>k it (by simp) o e
  item:=by
    intro X hP hw hK hc i pins s σ H E I hf st hg
    subst hP hw hK
    obtain ⟨xs,x,hq,hx⟩:=hg
    obtain ⟨its,rv,p,hz⟩:=I.list hq
    obtain ⟨u,hu,ru⟩:=rv.get hx
    obtain ⟨f0,f1,f2,f3,f4,f5⟩:=hf it (by simp)
    refine wpAny_pyNext_list_item st p.isList (x:=u) (by simpa using hu) fun h' st' sb=>?_
    have I1:Inv X pins σ H { s with heap:=h' }:=I.turned (t':=s.toks) (fun b o hb e=>(sb.2 b hb).trans e) f0 f1 f3 f4 f5
    obtain ⟨o,e,c,d⟩:=id st'
    exact ⟨u,rfl,Qao (s:={ s with heap:=h' }) e c d (by decide) ⟨x,H,I1,ru,⟨rfl,fun ys hy=>by rw [I.list_inj hy hq];exact hx⟩,st',fun b hb=>(hf b hb).1⟩⟩
  done:=by
    intro X hP hw hK hc i pins s σ H E I hf st hg
    subst hP hw hK
    obtain ⟨xs,hq,hx⟩:=hg
    obtain ⟨its,rv,p,hz⟩:=I.list hq
    obtain ⟨f0,f1,f2,f3,f4,f5⟩:=hf it (by simp)
    have hl:=rv.length
    exact wpAny_pyNext_list_end (I.ok.hd hc) st p.isList (by simp;omega) fun h' eb=>⟨rfl,I.turned (t':=s.toks) (fun b o hb e=>eb b o hb e) f0 f1 f3 f4 f5⟩
  self:=fun _ _ _ _ _ st h=>wpAny_pyIter_listiter st h
theorem vY {P:Program} {w:World} {K:PySem.W.Frag} {tg:Expr} (a it:Addr):uZ P w K tg (Itt K a) [it] it (fun i h=>h.IsTupleIter it a i) where
  mem:=by simp
  obj:=fun i h st b hb=>by
    have e:b = it:=by simpa using hb
    subst e
    obtain ⟨o,e,c,d⟩:=st
    exact ⟨o,e,fun v z=>by rw [d] at z;cases z⟩
  keep:=fun i h h' st k=>st.at fun o e=>k it (by simp) o e
  item:=by
    intro X hP hw hK hc i pins s σ H E I hf st hg
    subst hP hw hK
    obtain ⟨xs,x,hq,hx⟩:=hg
    obtain ⟨its,rv,p,hz⟩:=I.tuple hq
    obtain ⟨u,hu,ru⟩:=rv.get hx
    obtain ⟨f0,f1,f2,f3,f4,f5⟩:=hf it (by simp)
    refine wpAny_pyNext_tuple_item st (show s.heap.IsTuple a its.toArray from p) (x:=u) (by simpa using hu) fun h' st' sb=>?_
    have I1:Inv X pins σ H { s with heap:=h' }:=I.turned (t':=s.toks) (fun b o hb e=>(sb.2 b hb).trans e) f0 f1 f3 f4 f5
    obtain ⟨o,e,c,d⟩:=id st'
    exact ⟨u,rfl,Qao (s:={ s with heap:=h' }) e c d (by decide) ⟨x,H,I1,ru,⟨rfl,fun ys hy=>by rw [I.tuple_inj hy hq];exact hx⟩,st',fun b hb=>(hf b hb).1⟩⟩
  done:=by
    intro X hP hw hK hc i pins s σ H E I hf st hg
    subst hP hw hK
    obtain ⟨xs,hq,hx⟩:=hg
    obtain ⟨its,rv,p,hz⟩:=I.tuple hq
    obtain ⟨f0,f1,f2,f3,f4,f5⟩:=hf it (by simp)
    have hl:=rv.length
    exact wpAny_pyNext_tuple_end (I.ok.hd hc) st (show s.heap.IsTuple a its.toArray from p) (by simp;omega) fun h' eb=>⟨rfl,I.turned (t':=s.toks) (fun b o hb e=>eb b o hb e) f0 f1 f3 f4 f5⟩
  self:=fun _ _ _ _ _ st h=>wpAny_pyIter_tupleiter st h
theorem vX {P:Program} {w:World} {K:PySem.W.Frag} {tg:Expr} (it:Addr) (lo:Int) (n:Nat):uZ P w K tg (Itr lo n) [it] it (fun i h=>IsRangeIter h it (lo + (i:Nat) * 1) ((n:Int) - (i:Nat)) 1) where
  mem:=by simp
  obj:=fun i h st b hb=>by
    have e:b = it:=by simpa using hb
    subst e
    exact ⟨_,st,fun v z=>by
      have z':Data.fields _ = Data.cell v:=z
      cases z'⟩
  keep:=fun i h h' st k=>k it (by simp) _ st
  item:=by
    intro X hP hw hK hc i pins s σ H E I hf st hg
    subst hP hw hK
    obtain ⟨f0,f1,f2,f3,f4,f5⟩:=hf it (by simp)
    have W:=Walks.range (prog:=X.prog) (w:=X.w) (I.ok.hd hc) it lo 1 n
    refine W.item i s _ _ hg st fun v h' tk hv st' kk=>?_
    obtain ⟨t,rfl⟩:=hv
    have I1:Inv X pins σ H { s with heap:=h',toks:=tk }:=I.turned (fun b o hb e=>kk b o (by simpa using hb) e) f0 f1 f3 f4 f5
    refine ⟨_,rfl,Qao (s:={ s with heap:=h',toks:=tk }) (n := "range_iterator") st' rfl rfl (by decide) ⟨.int (lo + i),H,I1,⟨t,?_⟩,⟨rfl,rfl⟩,st',fun b hb=>(hf b hb).1⟩⟩
    rw [Int.mul_one]
  done:=by
    intro X hP hw hK hc i pins s σ H E I hf st hg
    subst hP hw hK
    obtain ⟨f0,f1,f2,f3,f4,f5⟩:=hf it (by simp)
    exact wpAny_pyNext_range_end (I.ok.hd hc) st (by have:n <= i:=hg;omega) fun h' eb=>⟨rfl,I.turned (t':=s.toks) (fun b o hb e=>eb b o hb e) f0 f1 f3 f4 f5⟩
  self:=fun _ _ _ _ _ st h=>wpAny_pyIter_rangeiter st h
end L2
namespace L2
open PySem PySem.Spec PyProof.Rows
section
variable {X:Cx} {tg:Expr}
def QeQ (K:PySem.W.Frag) (tl:TE):TI:=fun σ H R=>tl σ H fun x H1=>∃ a,x = .ref a /\ (∃ xs,SqL K H1 a xs) /\ R (Itl K a) H1
def QfC (K:PySem.W.Frag) (tl:TE):TI:=fun σ H R=>tl σ H fun x H1=>∃ a,x = .ref a /\ (∃ xs,SqT K H1 a xs) /\ R (Itt K a) H1
theorem Qco {l:Expr} {tl:TE} (hl:PE X l tl):PI X tg l (QeQ X.K tl):=by
  intro pins s σ H R I h
  refine thn (hl pins s σ H _ I h) fun v s1 ⟨x,H1,I1,r1,q1⟩=>?_
  obtain ⟨a,e,⟨xs,hq⟩,q⟩:=q1
  subst e
  cases r1
  obtain ⟨its,rv,p,hz⟩:=I1.list hq
  refine wpAny_pyIter_list p.isList ?_
  refine ⟨s1.heap.objs.size,[s1.heap.objs.size],_,_,H1,rfl,I1.kept (t':=s1.toks) fun b o e=>Heap.get?_push_of_some _ e,kB a _,⟨_,Heap.get?_push_size _ rfl,rfl,rfl⟩,fun b hb=>?_,q⟩
  have e:b = s1.heap.objs.size:=by simpa using hb
  subst e
  exact I1.fpOk (Nat.le_refl _) (I1.hok.fresh (Nat.le_refl _))
theorem Qd7 {l:Expr} {tl:TE} (hl:PE X l tl):PI X tg l (QfC X.K tl):=by
  intro pins s σ H R I h
  refine thn (hl pins s σ H _ I h) fun v s1 ⟨x,H1,I1,r1,q1⟩=>?_
  obtain ⟨a,e,⟨xs,hq⟩,q⟩:=q1
  subst e
  cases r1
  obtain ⟨its,rv,p,hz⟩:=I1.tuple hq
  refine wpAny_pyIter_tuple (show s1.heap.IsTuple a its.toArray from p) ?_
  refine ⟨s1.heap.objs.size,[s1.heap.objs.size],_,_,H1,rfl,I1.kept (t':=s1.toks) fun b o e=>Heap.get?_push_of_some _ e,vY a _,⟨_,Heap.get?_push_size _ rfl,rfl,rfl⟩,fun b hb=>?_,q⟩
  have e:b = s1.heap.objs.size:=by simpa using hb
  subst e
  exact I1.fpOk (Nat.le_refl _) (I1.hok.fresh (Nat.le_refl _))
theorem Qbd {pins:List (Addr × Obj)} {σ:St} {H:Hp} {s:Shared} {R:It -> Hp -> Prop} {E:Value -> Shared -> Prop} {lo hi:Int} {t u v:Tok} {tk:Nat} (I:Inv X pins σ H s) (h1:-(2 ^ 62) <= lo) (h2:lo < 2 ^ 62) (h3:-(2 ^ 62) <= hi) (h4:hi < 2 ^ 62)
    (q:R (Itr lo (hi - lo).toNat) H):wpAny (model X.prog X.w) X.A (pyIter (.ref s.heap.objs.size)) (PIE X pins σ tg R) E { s with heap:=s.heap.push { cls:=.type "range", data:=.fields #[.int lo t,.int hi u,.int 1 v] },toks:=tk }:=by
  refine wpAny_pyIter_range (IsRange.new ..) (small_one h1 h2 h3 h4) ?_
  have I1:Inv X pins σ H { s with heap:=s.heap.push { cls:=.type "range", data:=.fields #[.int lo t,.int hi u,.int 1 v] },toks:=tk }:=I.kept fun b o e=>Heap.get?_push_of_some _ e
  refine ⟨(s.heap.push { cls:=.type "range", data:=.fields #[.int lo t,.int hi u,.int 1 v] }).objs.size,[(s.heap.push { cls:=.type "range", data:=.fields #[.int lo t,.int hi u,.int 1 v] }).objs.size],_,_,H,rfl,
    I1.kept (t':=tk) fun b o e=>Heap.get?_push_of_some _ e,vX _ lo (hi - lo).toNat,?_,fun b hb=>?_,q⟩
  . have e1:lo + ((0:Nat):Int) * 1 = lo:=by simp
    have e2:(((hi - lo).toNat:Nat):Int) - ((0:Nat):Int) = Builtin.Range.rangeSize lo hi 1:=by rw [rangeSize_one];split <;> omega
    show IsRangeIter _ _ (lo + ((0:Nat):Int) * 1) ((((hi - lo).toNat:Nat):Int) - ((0:Nat):Int)) 1
    rw [e1,e2]
    exact Heap.get?_push_size _ rfl
  . have e:b = (s.heap.push { cls:=.type "range", data:=.fields #[.int lo t,.int hi u,.int 1 v] }).objs.size:=by simpa using hb
    subst e
    exact I1.fpOk (Nat.le_refl _) (I1.hok.fresh (Nat.le_refl _))
def QeR (ta:TA):TI:=fun σ H R=>ta σ H fun vs H1=>∃ j:Int,vs = [.int j] /\ -(2 ^ 62) <= j /\ j < 2 ^ 62 /\ R (Itr 0 j.toNat) H1
theorem gS {a:Expr} {ta:TA} {p pos:Pos} (hg:Gl X "range") (hm:X.mg "range" = none) (ha:PA X [a] ta) (hs:starEach [a] X.env = [(false,eval a X.env)]:=by rfl):PI X tg (.Call (.Name "range" p) [a] [] pos) (QeR ta):=by
  intro pins s σ H R I h
  refine Call_ (yR I hg hm boot_range (PyProof.Rows.callWith_type1 (thn (ha pos pins s σ H _ I h) fun us s1 ⟨vs,H1,I1,r1,q1⟩=>?_) hs rfl))
  obtain ⟨j,e,q1,q2,q⟩:=q1
  subst e
  cases r1 with
  | cons r rr =>
    cases rr
    obtain ⟨t,rfl⟩:=r
    exact call_range_1 (Qbd I1 (by omega) (by omega) q1 q2 (by simpa using q))
def QfT (wi:TI) (g:TG) (tb:TS):TS:=fun D σ H=>wi σ H fun J H1=>∃ W:Nat -> Nat -> St -> Hp -> Prop,(∃ m,W 0 m σ H1) /\ ∀ i m σ H,W i m σ H ->
  (J.stop i H /\ D.nx σ H) ∨ (J.go i H /\ ∃ N:St -> Hp -> Prop,(∀ σ' H',N σ' H' -> ∃ m',m' < m /\ W (i + 1) m' σ' H') /\ ∀ x H',J.yld i H x H' -> g x σ H' fun σ2 H2=>tb { D with nx:=N,ct:=N,bk:=D.nx } σ2 H2)
def Vb (fp:List Addr) (h:Heap):List (Addr × Obj):=fp.filterMap fun b=>(h.get? b).map fun o=>(b,o)
theorem qf {fp:List Addr} {h:Heap} {b:Addr} {o:Obj} (hb:b ∈ fp) (e:h.get? b = some o):(b,o) ∈ Vb fp h:=List.mem_filterMap.mpr ⟨b,hb,by rw [e];rfl⟩
theorem gL {fp:List Addr} {h:Heap} {p:Addr × Obj} (hp:p ∈ Vb fp h):p.1 ∈ fp /\ h.get? p.1 = some p.2:=by
  obtain ⟨b,hb,e⟩:=List.mem_filterMap.mp hp
  cases q:h.get? b with
  | none=>rw [q] at e;cases e
  | some o =>
    rw [q] at e
    have e':(b,o) = p:=Option.some.inj e
    subst e'
    exact ⟨hb,q⟩
theorem Inv.pinned {pins:List (Addr × Obj)} {σ:St} {H:Hp} {s:Shared} {fp:List Addr} (I:Inv X pins σ H s) (hf:∀ b ∈ fp,VH X pins H b) (ho:∀ b ∈ fp,∃ o,s.heap.get? b = some o /\ ∀ v,o.data ≠ .cell v):Inv X (pins ++ Vb fp s.heap) σ H s :=
  I.pins_of fun p hp=>(List.mem_append.mp hp).elim (fun z=>I.pin p (List.mem_append_right _ z)) fun z=>by
    obtain ⟨hb,e⟩:=gL z
    obtain ⟨f0,f1,f2,_⟩:=hf p.1 hb
    obtain ⟨o,e',d⟩:=ho p.1 hb
    rw [e] at e';cases e'
    exact ⟨e,f0,f1,f2,d⟩
theorem Inv.unpinned {pins pl:List (Addr × Obj)} {σ:St} {H:Hp} {s:Shared} (I:Inv X (pins ++ pl) σ H s):Inv X pins σ H s:=I.pins_of fun p hp=>I.pin p (List.mem_append_right _ (List.mem_append_left _ hp))
theorem Qa7 {iter:Expr} {body:List Stmt} {wi:TI} {g:TG} {tb:TS} {pos:Pos} (hp:PassesOwn (model X.prog X.w) X.A X.env X.xe) (hc:X.calm = true) (hi:PI X tg iter wi) (hg:PG X tg g) (hb:PSs X body tb)
    (hs:∀ x,foldedSetIterable iter X.env x = pure x:=by intro _;rfl):PS X (.For tg iter body [] pos) (QfT wi g tb):=by
  intro pins s σ H D I h
  refine wpAny_For (thn (hi pins s σ H _ I h) fun v s1 h1=>thn h1 fun itv s2 h2=>?_) hs
  obtain ⟨it,fp,tn,J,H2,e,I2,T,st2,f2,W,⟨m0,w0⟩,turn⟩:=h2
  subst e
  have stat:∀ {H':Hp},(∀ b ∈ fp,H' b = none) -> ∀ b ∈ fp,VH X pins H' b:=fun hn b hb=>⟨hn b hb,(f2 b hb).2⟩
  refine codeAny_forLoop_any (fun n s'=>∃ i σ' H',Inv X pins σ' H' s' /\ tn i s'.heap /\ (∀ b ∈ fp,H' b = none) /\ W i n σ' H') ?_ m0 ⟨0,σ,H2,I2,st2,fun b hb=>(f2 b hb).1,w0⟩
  rintro n s3 ⟨i,σ3,H3,I3,st3,fr3,w3⟩
  rcases turn i n σ3 H3 w3 with ⟨stop,qn⟩ | ⟨go,N,hN,step⟩
  . refine wpAny_passesOwn hp (thn (T.done X rfl rfl rfl hc i pins s3 σ3 H3 X.xe I3 (stat fr3) st3 stop) fun r s4 ⟨hr,I4⟩=>?_)
    subst hr
    exact wpAny_execs_nil ⟨σ3,H3,I4,qn⟩
  . refine wpAny_passesOwn hp (thn (T.item X rfl rfl rfl hc i pins s3 σ3 H3 X.xe I3 (stat fr3) st3 go) fun r s4 ⟨u,hr,h4⟩=>?_)
    subst hr
    refine wpAny_passesOwn hp (thn h4 fun _ s5 ⟨x,H5,I5,r5,y5,st5,fr5⟩=>?_)
    have I5':=I5.pinned (stat fr5) (T.obj _ _ st5)
    refine wpAny_passesOwn hp (thn (hg _ s5 σ3 H5 x u _ I5' r5 (step x H5 y5)) fun _ s6 ⟨σ6,H6,I6,q6⟩=>?_)
    refine wpAny_passesOwn hp (thn (hb _ s6 σ6 H6 _ I6 q6) fun f s7 q7=>?_)
    have again:∀ {σ7:St} {H7:Hp},Inv X (pins ++ Vb fp s5.heap) σ7 H7 s7 -> N σ7 H7 -> ∃ m,m < n /\ ∃ i σ' H',Inv X pins σ' H' s7 /\ tn i s7.heap /\ (∀ b ∈ fp,H' b = none) /\ W i m σ' H':=fun {σ7 H7} I7 n7=>by
      obtain ⟨m',hm,w7⟩:=hN σ7 H7 n7
      refine ⟨m',hm,i + 1,σ7,H7,I7.unpinned,T.keep _ _ _ st5 fun b hb o e=>(I7.pin (b,o) (List.mem_append_right _ (List.mem_append_right _ (qf hb e)))).1,fun b hb=>?_,w7⟩
      obtain ⟨o,e,d⟩:=T.obj _ _ st5 b hb
      exact (I7.pin (b,o) (List.mem_append_right _ (List.mem_append_right _ (qf hb e)))).2.1
    cases f with
    | next=>obtain ⟨σ7,H7,I7,n7⟩:=q7;exact again I7 n7
    | cont=>obtain ⟨σ7,H7,I7,n7⟩:=q7;exact again I7 n7
    | brk=>obtain ⟨σ7,H7,I7,q7⟩:=q7;exact ⟨σ7,H7,I7.unpinned,q7⟩
    | ret v=>obtain ⟨x7,σ7,H7,I7,r7,q7⟩:=q7;exact ⟨x7,σ7,H7,I7.unpinned,r7,q7⟩
end
end L2
namespace L2
open PySem PySem.Spec PyProof.Rows
abbrev R2:=V -> V -> Hp -> VK -> Prop
def OpR (X:Cx) (f:Value -> Value -> Sem Value) (r:R2):Prop :=
  ∀ (pins : List (Addr × Obj)) (s : Shared) (σ : St) (H : Hp) (x y : V) (v u : Value) (Q : VK), Inv X pins σ H s -> RelV x v -> RelV y u -> r x y H Q ->
    wpAny (model X.prog X.w) X.A (f v u) (EP X pins σ Q) X.xe s
def X0 (X:Cx) (f:Value) (r:List V -> Hp -> VK -> Prop):Prop :=
  ∀ (pins : List (Addr × Obj)) (s : Shared) (σ : St) (H : Hp) (xs : List V) (us : List Value) (Q : VK), Inv X pins σ H s -> Vals xs us -> r xs H Q ->
    wpAny (model X.prog X.w) X.A (call f us) (EP X pins σ Q) X.xe s
def tOp (r:R2) (ta tb:TE):TE:=fun σ H Q=>ta σ H fun x H1=>tb σ H1 fun y H2=>r x y H2 Q
def rI (C:Int -> Int -> Prop) (g:Int -> Int -> V):R2:=fun x y H Q=>∃ i j,x = .int i /\ y = .int j /\ C i j /\ Q (g i j) H
def rI0 (g:Int -> Int -> V):R2:=fun x y H Q=>∃ i j,x = .int i /\ y = .int j /\ Q (g i j) H
section
variable {X:Cx} {a b c:Expr} {ta tb tc:TE} {pos:Pos}
theorem Qdk (ha:PE X a ta) (hb:PE X b tb) {pins:List (Addr × Obj)} {s:Shared} {σ:St} {H:Hp} {R:V -> V -> Hp -> Prop} (I:Inv X pins σ H s)
    (h:ta σ H fun x H1=>tb σ H1 fun y H2=>R x y H2) {Q:Value -> Shared -> Prop} {f:Value -> Value -> Sem Value}
    (hf:∀ v u s2 x y H2,Inv X pins σ H2 s2 -> RelV x v -> RelV y u -> R x y H2 -> wpAny (model X.prog X.w) X.A (f v u) Q X.xe s2) :
    wpAny (model X.prog X.w) X.A (eval a X.env) (fun v s₁=>wpAny (model X.prog X.w) X.A (eval b X.env) (fun u s₂=>wpAny (model X.prog X.w) X.A (f v u) Q X.xe s₂) X.xe s₁) X.xe s:=by
  refine thn (ha pins s σ H _ I h) fun v s1 ⟨x,H1,I1,r1,q1⟩=>?_
  refine thn (hb pins s1 σ H1 _ I1 q1) fun u s2 ⟨y,H2,I2,r2,q2⟩=>?_
  exact hf v u s2 x y H2 I2 r1 r2 q2
theorem Qe9 {op:Operator} {r:R2} (ho:OpR X (binaryOp op) r) (ha:PE X a ta) (hb:PE X b tb):PE X (.BinOp a op b pos) (tOp r ta tb):=by
  intro pins s σ H Q I h
  exact wpAny_BinOp (Qdk ha hb I h fun v u s2 x y H2 I2 rx ry q=>ho pins s2 σ H2 x y v u Q I2 rx ry q)
theorem opI {f:Value -> Value -> Sem Value} {C:Int -> Int -> Prop} {g:Int -> Int -> Int}
    (rule:∀ (i j:Int) (t u:Tok) (s:Shared) (Q:Value -> Shared -> Prop) (E:Value -> Shared -> Prop),C i j -> Q (.int (g i j) s.toks) { s with toks:=s.toks + 1 } -> wpAny (model X.prog X.w) X.A (f (.int i t) (.int j u)) Q E s) :
    OpR X f (rI C fun i j=>.int (g i j)):=by
  intro pins s σ H x y v u Q I rx ry h
  obtain ⟨i,j,rfl,rfl,hc,q⟩:=h
  obtain ⟨t,rfl⟩:=rx
  obtain ⟨t',rfl⟩:=ry
  exact rule i j t t' s _ _ hc ⟨.int (g i j),H,I.tok _,⟨_,rfl⟩,q⟩
theorem QeX {f:Value -> Value -> Sem Value} {g:Int -> Int -> Int}
    (rule:∀ (i j:Int) (t u:Tok) (s:Shared) (Q:Value -> Shared -> Prop) (E:Value -> Shared -> Prop),Q (.int (g i j) s.toks) { s with toks:=s.toks + 1 } -> wpAny (model X.prog X.w) X.A (f (.int i t) (.int j u)) Q E s) :
    OpR X f (rI0 fun i j=>.int (g i j)):=by
  intro pins s σ H x y v u Q I rx ry h
  obtain ⟨i,j,rfl,rfl,q⟩:=h
  obtain ⟨t,rfl⟩:=rx
  obtain ⟨t',rfl⟩:=ry
  exact rule i j t t' s _ _ ⟨.int (g i j),H,I.tok _,⟨_,rfl⟩,q⟩
theorem Qb8 {f:Value -> Value -> Sem Value} {g:Int -> Int -> Bool}
    (rule:∀ (i j:Int) (t u:Tok) (s:Shared) (Q:Value -> Shared -> Prop) (E:Value -> Shared -> Prop),Q (.bool (g i j)) s -> wpAny (model X.prog X.w) X.A (f (.int i t) (.int j u)) Q E s) :
    OpR X f (rI0 fun i j=>.bl (g i j)):=by
  intro pins s σ H x y v u Q I rx ry h
  obtain ⟨i,j,rfl,rfl,q⟩:=h
  obtain ⟨t,rfl⟩:=rx
  obtain ⟨t',rfl⟩:=ry
  exact rule i j t t' s _ _ ⟨.bl (g i j),H,I,rfl,q⟩
def Qft (i j:Int):Prop:=0 < j /\ j < 1073741824
def Qfu (i j:Int):Prop:=0 <= j /\ j <= 1000000 /\ i.natAbs < 2 ^ 64
def CMul (i j:Int):Prop:=(-(2 ^ 64) < i /\ i < 2 ^ 64) ∨ (-(2 ^ 64) < j /\ j < 2 ^ 64)
theorem CMul.ok {i j:Int} (h:CMul i j):IntMulOk i j:=by
  rcases h with ⟨h1,h2⟩ | ⟨h1,h2⟩
  . exact .of_left (intBits_le_64 h1 h2)
  . exact .of_right (intBits_le_64 h1 h2)
theorem QdO:OpR X (binaryOp .Add) (rI0 fun i j=>.int (i + j)):=QeX fun _ _ _ _ _ _ _ q=>add_int q
theorem QdT:OpR X (binaryOp .Sub) (rI0 fun i j=>.int (i - j)):=QeX fun _ _ _ _ _ _ _ q=>sub_int q
theorem QdR:OpR X (binaryOp .Mult) (rI CMul fun i j=>.int (i * j)):=opI fun _ _ _ _ _ _ _ hc q=>mul_int q hc.ok
theorem Qca:OpR X (binaryOp .FloorDiv) (rI Qft fun i j=>.int (i / j)):=opI fun i j _ _ _ _ _ hc q=>by
  have h1:(0:Int) < j:=hc.1
  have h2:j < 1073741824:=hc.2
  exact floordiv_int (by omega) (by rw [Int.fdiv_eq_ediv_of_nonneg i (by omega)];exact q) (.inl (PyProof.noPylong_small (by omega)))
theorem QdQ:OpR X (binaryOp .Mod) (rI (fun _ j=>0 < j) fun i j=>.int (i % j)):=opI fun i j _ _ _ _ _ hc q=>by
  have h1:(0:Int) < j:=hc
  exact mod_int' (by omega) (by rw [Int.fmod_eq_emod_of_nonneg i (by omega)];exact q)
theorem QdS:OpR X (binaryOp .Pow) (rI Qfu fun i j=>.int (i ^ j.toNat)):=opI fun _ _ _ _ _ _ _ hc q=>pow_int_small hc.1 hc.2.1 hc.2.2 q
end
section
variable {X:Cx} {a b c:Expr} {ta tb tc:TE} {pos:Pos}
theorem Qak {pins:List (Addr × Obj)} {σ:St} {H:Hp} {s:Shared} {Q:VK} {k k':Bool} (I:Inv X pins σ H s) (q:Q (.bl k) H) (e:k = k'):EP X pins σ Q (.bool k') s:=by
  subst e
  exact ⟨.bl k,H,I,rfl,q⟩
theorem Qe1:OpR X (compareOp .Lt) (rI0 fun i j=>.bl (decide (i < j))):=Qb8 fun _ _ _ _ _ _ _ q=>lt_int q
theorem Qe0:OpR X (compareOp .LtE) (rI0 fun i j=>.bl (decide (i <= j))):=Qb8 fun _ _ _ _ _ _ _ q=>le_int q
theorem QeZ:OpR X (compareOp .Gt) (rI0 fun i j=>.bl (decide (j < i))):=Qb8 fun _ _ _ _ _ _ _ q=>gt_int q
theorem QeY:OpR X (compareOp .GtE) (rI0 fun i j=>.bl (decide (j <= i))):=Qb8 fun _ _ _ _ _ _ _ q=>ge_int q
theorem QdP:OpR X (compareOp .Is) (fun x y H Q=>y = .non /\ Q (.bl (decide (x = .non))) H):=by
  intro pins s σ H x y v u Q I rx ry h
  obtain ⟨rfl,q⟩:=h
  cases ry
  refine is_none_gen (Qak I q ?_)
  cases x <;> first
    | (cases rx;rfl)
    | (obtain ⟨t,rfl⟩:=rx;rfl)
theorem Qcb:OpR X (compareOp .IsNot) (fun x y H Q=>y = .non /\ Q (.bl (!decide (x = .non))) H):=by
  intro pins s σ H x y v u Q I rx ry h
  obtain ⟨rfl,q⟩:=h
  cases ry
  refine isnot_none_gen (Qak I q ?_)
  cases x <;> first
    | (cases rx;rfl)
    | (obtain ⟨t,rfl⟩:=rx;rfl)
theorem Q4 (b:Expr) {op:CmpOp} (h:op ≠ .In:=by decide) (h2:op ≠ .NotIn:=by decide):behindInMarks op b = false:=by
  have e1:(op == CmpOp.In) = false:=by cases op <;> first | rfl | exact absurd rfl h
  have e2:(op == CmpOp.NotIn) = false:=by cases op <;> first | rfl | exact absurd rfl h2
  cases b <;> simp [behindInMarks,e1,e2]
theorem Qcg {op:CmpOp} {r:R2} (ho:OpR X (compareOp op) r) (ha:PE X a ta) (hb:PE X b tb) (hm:behindInMarks op b = false):PE X (.Compare a [op] [b] pos) (tOp r ta tb):=by
  intro pins s σ H Q I h
  exact wpAny_Compare1 (Qdk ha hb I h fun v u s2 x y H2 I2 rx ry q=>ho pins s2 σ H2 x y v u Q I2 rx ry q) hm
def Qdf (t:TE):TT:=fun σ H Q=>t σ H fun x H'=>∃ k,x = .bl k /\ Q k H'
theorem Qcx {op:CmpOp} {r:R2} (ho:OpR X (compareOp op) r) (ha:PE X a ta) (hb:PE X b tb) (hm:behindInMarks op b = false):PT X (.Compare a [op] [b] pos) (Qdf (tOp r ta tb)):=by
  intro pins s σ H Q I h
  refine wpAny_isTrue_Compare1 (thn (ha pins s σ H _ I h) fun v s1 ⟨x,H1,I1,r1,q1⟩=>thn (hb pins s1 σ H1 _ I1 q1) fun u s2 ⟨y,H2,I2,r2,q2⟩ =>
    thn (ho pins s2 σ H2 x y v u _ I2 r1 r2 q2) fun c s3 ⟨z,H3,I3,r3,k,e,q3⟩=>?_) hm
  subst e
  cases r3
  exact wpAny_truthy_bool ⟨H3,I3,q3⟩
def Qbv (r r':R2) (ta tb tc:TE):TE:=fun σ H Q=>ta σ H fun x H1=>tb σ H1 fun y H2=>r x y H2 fun z H3=>∃ k,z = .bl k /\
  (if k = true then tc σ H3 fun w' H4=>r' y w' H4 Q else Q (.bl false) H3)
theorem Qba {op op':CmpOp} {r r':R2} (ho:OpR X (compareOp op) r) (ho':OpR X (compareOp op') r') (ha:PE X a ta) (hb:PE X b tb) (hc:PE X c tc)
    (hm:lastMarks [op,op'] [b,c] = false:=by with_unfolding_all rfl):PT X (.Compare a [op,op'] [b,c] pos) (Qdf (Qbv r r' ta tb tc)):=by
  intro pins s σ H Q I h
  refine isTrue_chain (thn (ha pins s σ H _ I h) fun v s1 ⟨x,H1,I1,r1,q1⟩=>test_link (thn (hb pins s1 σ H1 _ I1 q1) fun u s2 ⟨y,H2,I2,r2,q2⟩ =>
    thn (ho pins s2 σ H2 x y v u _ I2 r1 r2 q2) fun d s3 ⟨z,H3,I3,r3,k,e,q3⟩=>?_)) hm
  subst e
  cases r3
  refine wpAny_truthy_bool ?_
  cases k with
  | false =>
    obtain ⟨k',e',q'⟩:=q3
    cases e'
    exact ite_ff ⟨H3,I3,q'⟩
  | true =>
    refine ite_tt (test_last (thn (hc pins s3 σ H3 _ I3 q3) fun w' s4 ⟨z',H4,I4,r4,q4⟩=>thn (ho' pins s4 σ H4 y z' u w' _ I4 r2 r4 q4) fun d' s5 ⟨z2,H5,I5,r5,k2,e2,q5⟩=>?_))
    subst e2
    cases r5
    exact wpAny_truthy_bool ⟨H5,I5,q5⟩
theorem Kh:(sizeLine:Nat) < 2 ^ 63:=by rw [sizeLine_eq];decide
theorem Uz {x:V} {us:List Value} (r:Vals [x] us):∃ u,us = [u] /\ RelV x u:=by
  cases r with
  | cons r1 r2=>cases r2;exact ⟨_,rfl,r1⟩
theorem Qdg {x y:V} {us:List Value} (r:Vals [x,y] us):∃ u w',us = [u,w'] /\ RelV x u /\ RelV y w':=by
  cases r with
  | cons r1 r2 =>
    cases r2 with
    | cons r3 r4=>cases r4;exact ⟨_,_,rfl,r1,r3⟩
theorem gj (hc:X.calm = true):X0 X (.builtin "min") (fun xs H Q=>∃ i j,xs = [.int i,.int j] /\ Q (.int (if j < i then j else i)) H):=by
  intro pins s σ H xs us Q I r h
  obtain ⟨i,j,rfl,q⟩:=h
  obtain ⟨u,w',rfl,⟨t,rfl⟩,⟨t',rfl⟩⟩:=Qdg r
  refine min_two_ints (I.ok.hd hc) fun h' tk k=>⟨_,H,I.kept k,?_,q⟩
  by_cases hj:j < i
  . rw [if_pos hj,if_pos hj];exact ⟨_,rfl⟩
  . rw [if_neg hj,if_neg hj];exact ⟨_,rfl⟩
theorem V4:X0 X (.type "int") (fun xs H Q=>(∃ i,xs = [.int i] /\ Q (.int i) H) ∨ ∃ k,xs = [.bl k] /\ Q (.int (if k then 1 else 0)) H):=by
  intro pins s σ H xs us Q I r h
  rcases h with ⟨i,rfl,q⟩ | ⟨k,rfl,q⟩
  . obtain ⟨u,rfl,t,rfl⟩:=Uz r
    exact call_int_int ⟨.int i,H,I,⟨_,rfl⟩,q⟩
  . obtain ⟨u,rfl,r1⟩:=Uz r
    cases r1
    exact call_int_bool ⟨.int (if k then 1 else 0),H,I.tok _,⟨_,rfl⟩,q⟩
end
end L2
namespace L2
open PySem PySem.Spec PyProof.Rows
structure ObjM (h:Heap) (x dx C:Addr) (mA:Str -> Option Value):Prop where
  obj:h.get? x = some (PySem.W.instObj C dx)
  ns:h.Ns1 dx mA
  ne:dx ≠ x
theorem gJ {h:Heap} {dx:Addr} {mA:Str -> Option Value} (n:h.Ns1 dx mA):∃ od,h.get? dx = some od /\ ∀ name,PySem.W.lookIn name od = some (mA name):=by
  obtain ⟨o,es,ep,ho,hd,hk,_,hm⟩:=n
  refine ⟨o,ho,fun name=>?_⟩
  have e:=hm name
  unfold nsFind findBy at e
  rw [<- Array.find?_toList] at e
  unfold PySem.W.lookIn
  rw [hd]
  dsimp only
  split
  . rename_i y q
    rw [q] at e
    exact congrArg some e
  . rename_i q
    rw [q] at e
    have a:es.toList.any (·.refKey) = false:=by
      rw [List.any_eq_false]
      intro y hy
      obtain ⟨z,t,hkey⟩:=hk y (Array.mem_toList_iff.mp hy)
      simp [DictEntry.refKey,hkey]
    have a':¬ es.toList.any (·.refKey) = true:=by rw [a];exact Bool.false_ne_true
    rw [if_neg a']
    exact congrArg some e
theorem ObjM.look {h:Heap} {x dx C:Addr} {mA:Str -> Option Value} (I:ObjM h x dx C mA):∃ od,PySem.W.InstAt h x (PySem.W.instObj C dx) C (some od) /\ ∀ name,PySem.W.lookIn name od = some (mA name) :=
  let ⟨od,ho,hl⟩:=gJ I.ns
  ⟨od,⟨I.obj,rfl,rfl,ho⟩,hl⟩
section
variable {prog:Program} {w:World} {A:Around} {E:Value -> Shared -> Prop} {s:Shared} {K:PySem.W.Frag} {x dx C f:Addr} {mA:Str -> Option Value} {name:Str} {v:Value}
theorem QbZ {expr:Bool} {Q:Value -> Shared -> Prop} (X:K.In s.heap) (I:ObjM s.heap x dx C mA) (hg:PySem.W.plainGet K C name = true) (hh:PySem.W.hasDictIn K C = true)
    (ha:PySem.W.findIn K (.ref C) name = some none) (hv:mA name = some v) (hv':PySem.W.handedIn v = true) (h:Q v { s with toks:=s.toks + 1 }) :
    wpAny (model prog w) A (getAttr (.ref x) name expr) Q E s:=by
  obtain ⟨od,J,hl⟩:=I.look
  exact PySem.W.get_value X J (PySem.W.plainGet_of hg).1 (PySem.W.findObj_own hh ha rfl (by rw [hl,hv])) hv' h
theorem Qan {pl:Sem Bool} {Q:Value × List Value -> Shared -> Prop} (X:K.In s.heap) (I:ObjM s.heap x dx C mA) (hg:PySem.W.plainGet K C name = true)
    (hf:PySem.W.findIn K (.ref C) name = some (some (.ref f))) (ht:PySem.W.isFn K (.ref f) = true) (hv:mA name = none) (h:Q (.ref f,[.ref x]) s) :
    wpAny (model prog w) A (getMethod (.ref x) name pl) Q E s:=by
  obtain ⟨od,J,hl⟩:=I.look
  exact PySem.W.method_fn X J (PySem.W.plainGet_of hg).1 (PySem.W.plainGet_of hg).2 hf (beq_iff_eq.mp ht) (by show (PySem.W.lookIn name od).map (·.isSome) = some false;rw [hl,hv];rfl) h
theorem QcL {ns:List Str} {Q:Unit -> Shared -> Prop} (X:K.In s.heap) (I:ObjM s.heap x dx C mA)
    (hs:PySem.W.findIn K (.ref C) "__setattr__" = some (some (.builtin "object.__setattr__"))) (hp:PySem.W.plainOver K C = true) (ht:PySem.W.takerIn K C name = some none) (hh:PySem.W.hasDictIn K C = true)
    (hw:PySem.Within mA ns) (hsz:ns.length <= sizeLine)
    (h:∀ h',ObjM h' x dx C (fun y=>if y = name then some v else mA y) -> Heap.SameBut dx s.heap h' -> Q () { s with heap:=h',toks:=s.toks + 2 }) :
    wpAny (model prog w) A (setAttr (.ref x) name v) Q E s:=by
  obtain ⟨od,J,hl⟩:=I.look
  refine PySem.W.set_plain X J hs (PySem.W.osa_open (s:={ s with toks:=s.toks + 1 }) (r:=none) X J hp ht fun b=>?_)
  obtain ⟨cd,hc,hd'⟩:=PySem.W.any_some hh
  have hx:s.heap.get? x = some ⟨.ref C,some dx,.plain,#[]⟩:=I.obj
  refine wpAny_bind (wpAny_pure (wpAny_bind (wpAny_bind (wpAny_loadPart hx (wpAny_bind (PySem.W.Looks.here (s:={ s with toks:=s.toks + 1 }) (PySem.W.looks_clsIn X hc) ?_))))))
  rw [hd']
  refine wpAny_pure (a:=some dx) (wpAny_bind (wpAny_pure (wpAny_bind ?_)))
  refine wpAny_nsSet1 (s:={ s with toks:=s.toks + 1 }) I.ns fun h' hn2 hs2=>?_
  obtain ⟨oD,esD,epD,hoD,hdD,hcD⟩:=hn2.count (PySem.Within.cons name v hw)
  refine wpAny_bind (wpAny_lookBehind hoD (by rw [hdD];exact pastItsLine_dict (Nat.le_trans hcD (by rw [List.length_cons];omega))) ?_)
  exact wpAny_pure (h _ ⟨(hs2.2 _ (Ne.symm I.ne)).trans I.obj,hn2,I.ne⟩ hs2)
theorem QaH {R:Result -> Shared -> Prop} {vs:List Value} {kw:List (Str × Value)} (X:K.In s.heap) (hm:PySem.W.makesIn K C = true)
    (hi:PySem.W.findIn K (.ref C) "__init__" = some (some (.ref f))) (hf:PySem.W.typeIn K (.ref f) = some (.type "function"))
    (h:codeAny (model prog w) (A.under (.builtin "type.__call__" ⟨.ref C :: vs,kw⟩)) (.call (.ref f) ⟨.ref (s.heap.objs.size + 1) :: vs,kw⟩) (PySem.W.InitBack (s.heap.objs.size + 1) R)
      { s with heap:=(s.heap.push PySem.W.emptyDict).push (PySem.W.instObj C s.heap.objs.size) }) :
    codeAny (model prog w) A (.call (.ref C) ⟨vs,kw⟩) R s:=by
  obtain ⟨hh,g,d,t,os⟩:=s
  exact PySem.W.make_core (PySem.W.makes_of X hm) (PySem.W.looks_findIn X hi) (fun self=>PySem.W.bind_fn X self hf) (.inl rfl) h
end
def YC (f:Str) (v:V):List (Str × V) -> List (Str × V)
  | []=>[(f,v)]
  | (g,x) :: r=>if g = f then (g,v) :: r else (g,x) :: YC f v r
theorem xC (f g:Str) (v:V):∀ fs:List (Str × V),(YC f v fs).lookup g = if g = f then some v else fs.lookup g
  | []=>by
    show List.lookup g [(f,v)] = _
    by_cases h:g = f
    . have hb:(g == f) = true:=beq_iff_eq.mpr h
      simp only [List.lookup,hb,if_pos h]
    . have hb:(g == f) = false:=beq_eq_false_iff_ne.mpr h
      simp only [List.lookup,hb,if_neg h]
  | (k,x) :: r=>by
    have ih:=xC f g v r
    rw [show YC f v ((k,x) :: r) = (if k = f then (k,v) :: r else (k,x) :: YC f v r) from rfl]
    by_cases hk:k = f
    . rw [if_pos hk]
      by_cases h:g = k
      . have hb:(g == k) = true:=beq_iff_eq.mpr h
        simp only [List.lookup,hb,if_pos (h.trans hk)]
      . have hb:(g == k) = false:=beq_eq_false_iff_ne.mpr h
        simp only [List.lookup,hb,if_neg (fun e:g = f=>h (e.trans hk.symm))]
    . rw [if_neg hk]
      by_cases h:g = k
      . have hb:(g == k) = true:=beq_iff_eq.mpr h
        simp only [List.lookup,hb,if_neg (fun e:g = f=>hk (h.symm.trans e))]
      . have hb:(g == k) = false:=beq_eq_false_iff_ne.mpr h
        simp only [List.lookup,hb]
        exact ih
theorem xc (f:Str) (v:V):∀ fs:List (Str × V),f ∈ (YC f v fs).map (·.1) /\ ∀ g,g ∈ fs.map (·.1) -> g ∈ (YC f v fs).map (·.1)
  | []=>⟨by simp [YC],fun g h=>by simp at h⟩
  | (k,x) :: r=>by
    obtain ⟨i1,i2⟩:=xc f v r
    rw [show YC f v ((k,x) :: r) = (if k = f then (k,v) :: r else (k,x) :: YC f v r) from rfl]
    by_cases hk:k = f
    . rw [if_pos hk]
      subst hk
      exact ⟨by simp,fun g h=>by simpa using h⟩
    . rw [if_neg hk]
      refine ⟨?_,fun g h=>?_⟩
      . rw [List.map_cons]
        exact List.mem_cons_of_mem _ i1
      . rw [List.map_cons] at h ⊢
        rcases List.mem_cons.mp h with e | e
        . exact List.mem_cons.mpr (.inl e)
        . exact List.mem_cons_of_mem _ (i2 g e)
theorem xA (f:Str) (v:V):∀ fs:List (Str × V),(YC f v fs).length <= fs.length + 1
  | []=>by simp [YC]
  | (k,x) :: r=>by
    have ih:=xA f v r
    rw [show YC f v ((k,x) :: r) = (if k = f then (k,v) :: r else (k,x) :: YC f v r) from rfl]
    by_cases hk:k = f
    . rw [if_pos hk,List.length_cons,List.length_cons];omega
    . rw [if_neg hk,List.length_cons,List.length_cons];omega
theorem RelO.some_of {v:V} {o:Option Value} (r:RelO (some v) o):∃ u,o = some u /\ RelV v u:=by
  cases o with
  | none=>exact (show False from r).elim
  | some u=>exact ⟨u,rfl,r⟩
theorem RelO.none_of {o:Option Value} (r:RelO none o):o = none:=by
  cases o with
  | none=>rfl
  | some u=>exact (show False from r).elim
theorem gB {v:V} {u:Value} (r:RelV v u):PySem.W.handedIn u = true:=by
  cases v with
  | non=>cases (show u = Value.none from r);rfl
  | bl b=>cases (show u = Value.bool b from r);rfl
  | int i=>obtain ⟨t,e⟩:=(show ∃ t,u = Value.int i t from r);cases e;rfl
  | str x=>obtain ⟨t,e⟩:=(show ∃ t,u = Value.str x t from r);cases e;rfl
  | byt b=>obtain ⟨t,e⟩:=(show ∃ t,u = Value.bytes b t from r);cases e;rfl
  | flt b=>obtain ⟨t,e⟩:=(show ∃ t,u = Value.float b t from r);cases e;rfl
  | ref a=>cases (show u = Value.ref a from r);rfl
  | ty n=>cases (show u = Value.type n from r);rfl
section
variable {P:Program} {w:World} {H H':Hp} {h h':Heap} {a C dx:Addr} {fs fs':List (Str × V)}
theorem U7 (hok:HOk P w H h) (e:H a = some (.ins C dx fs)):∃ mA,ObjM h a dx C mA /\ (∀ f,RelO (fs.lookup f) (mA f)) /\ PySem.Within mA (fs.map (·.1)) /\ fs.length <= 1000 /\ H dx = some (.own a):=by
  obtain ⟨d,z,ne,ob,mA,n,r,q⟩:=(show ObjOk P w H h a (.ins C dx fs) from hok a _ e)
  exact ⟨mA,⟨ob,n,ne⟩,r,q,z,d⟩
end
structure Cls (K:PySem.W.Frag) (C:Addr):Prop where
  pg:PySem.W.plainGet K C Str.empty = true
  hd:PySem.W.hasDictIn K C = true
  po:PySem.W.plainOver K C = true
  sa:PySem.W.findIn K (.ref C) "__setattr__" = some (some (.builtin "object.__setattr__"))
theorem Cls.get {K:PySem.W.Frag} {C:Addr} (c:Cls K C) (f:Str):PySem.W.plainGet K C f = true:=c.pg
def NoAttr (K:PySem.W.Frag) (C:Addr) (f:Str):Prop:=PySem.W.findIn K (.ref C) f = some none
theorem NoAttr.taker {K:PySem.W.Frag} {C:Addr} {f:Str} (n:NoAttr K C f):PySem.W.takerIn K C f = some none:=by
  unfold PySem.W.takerIn
  rw [show PySem.W.findIn K (.ref C) f = some none from n]
  rfl
structure G0 (K:PySem.W.Frag) (C:Addr) (m:Str) (f:Addr):Prop where
  at_:PySem.W.findIn K (.ref C) m = some (some (.ref f))
  fn:PySem.W.isFn K (.ref f) = true
  kp:PySem.W.keepIn K (.ref f) = true
section
variable {X:Cx} {pins:List (Addr × Obj)} {σ:St} {H:Hp} {s:Shared} {a C dx:Addr} {fs:List (Str × V)} {f:Str} {v:V} {A:Around} {E:Value -> Shared -> Prop}
theorem yL {b:Bool} {Q:Value -> Shared -> Prop} (I:Inv X pins σ H s) (e:H a = some (.ins C dx fs)) (c:Cls X.K C) (n:NoAttr X.K C f) (l:fs.lookup f = some v)
    (h:∀ u s',Inv X pins σ H s' -> RelV v u -> Q u s'):wpAny (model X.prog X.w) A (getAttr (.ref a) f b) Q E s:=by
  obtain ⟨mA,O,r,_,_,_⟩:=U7 I.hok e
  obtain ⟨u,hu,ru⟩:=RelO.some_of (v:=v) (o:=mA f) (by rw [<- l];exact r f)
  exact QbZ I.kIn O (c.get f) c.hd n hu (gB ru) (h u _ (I.tok _) ru)
theorem zO {m:Str} {g:Addr} {pl:Sem Bool} {Q:Value × List Value -> Shared -> Prop} (I:Inv X pins σ H s) (e:H a = some (.ins C dx fs)) (c:Cls X.K C) (k:G0 X.K C m g) (l:fs.lookup m = none)
    (h:Q (.ref g,[.ref a]) s):wpAny (model X.prog X.w) A (getMethod (.ref a) m pl) Q E s:=by
  obtain ⟨mA,O,r,_,_,_⟩:=U7 I.hok e
  have hn:mA m = none:=RelO.none_of (by rw [<- l];exact r m)
  exact Qan I.kIn O (c.get m) k.at_ k.fn hn h
theorem Vr {y:V} {u:Value} {Q:Unit -> Shared -> Prop} (I:Inv X pins σ H s) (e:H a = some (.ins C dx fs)) (c:Cls X.K C) (n:NoAttr X.K C f) (hl:fs.length < 1000) (ry:RelV y u)
    (h:∀ s',Inv X pins σ (upd H a (.ins C dx (YC f y fs))) s' -> Q () s'):wpAny (model X.prog X.w) A (setAttr (.ref a) f u) Q E s:=by
  obtain ⟨mA,O,r,wi,_,ho⟩:=U7 I.hok e
  have hz:(fs.map (·.1)).length <= sizeLine:=by rw [List.length_map,sizeLine_eq];omega
  refine QcL I.kIn O c.sa c.po n.taker c.hd wi hz fun h' O' sb=>h _ ?_
  have hd:∃ o,h'.get? dx = some o:=let ⟨o,_,_,e',_⟩:=O'.ns;⟨o,e'⟩
  refine I.write (x:=a) (e:=dx) (by rw [e];exact True.intro) (.inr ho) (fun b q hb z=>(sb.2 b hb).trans z) hd ?_
  refine ⟨by rw [QU O.ne];exact ho,?_,O.ne,O'.obj,_,O'.ns,fun g=>?_,fun g hg=>?_⟩
  . have:=xA f y fs;omega
  . show RelO ((YC f y fs).lookup g) (if g = f then some u else mA g)
    rw [xC]
    by_cases q:g = f
    . rw [if_pos q,if_pos q];exact ry
    . rw [if_neg q,if_neg q];exact r g
  . by_cases q:g = f
    . rw [q];exact (xc f y fs).1
    . refine (xc f y fs).2 g (wi g fun z=>hg ?_)
      show (if g = f then some u else mA g) = none
      rw [if_neg q];exact z
theorem Inv.made (I:Inv X pins σ H s):Inv X pins σ (upd (upd H s.heap.objs.size (.own (s.heap.objs.size + 1))) (s.heap.objs.size + 1) (.ins C s.heap.objs.size []))
    { s with heap:=(s.heap.push PySem.W.emptyDict).push (PySem.W.instObj C s.heap.objs.size) }:=by
  have e1:(s.heap.push PySem.W.emptyDict).get? s.heap.objs.size = some PySem.W.emptyDict:=Heap.get?_push_size s.heap rfl
  have e2:((s.heap.push PySem.W.emptyDict).push (PySem.W.instObj C s.heap.objs.size)).get? (s.heap.objs.size + 1) = some (PySem.W.instObj C s.heap.objs.size):=by
    have:=Heap.get?_push_size (s.heap.push PySem.W.emptyDict) (o:=PySem.W.instObj C s.heap.objs.size) rfl
    rwa [Heap.size_push] at this
  have e3:(s.heap.push PySem.W.emptyDict).Ns s.heap.objs.size (fun _=>none):=⟨PySem.W.emptyDict,#[],_,e1,rfl,(fun e he=>absurd he (by simp)),fun _=>rfl⟩
  have I1:=I.laid (a:=s.heap.objs.size) (o:=.own (s.heap.objs.size + 1)) (h':=s.heap.push PySem.W.emptyDict) (t':=s.toks) (fun b u q=>Heap.get?_push_of_some _ q) (Nat.le_refl _) ⟨_,e1⟩
  refine I1.laid (a:=s.heap.objs.size + 1) (o:=.ins C s.heap.objs.size []) (t':=s.toks) (fun b u q=>Heap.get?_push_of_some _ q) (Nat.le_of_eq (Heap.size_push _ _)) ?_
  have ne:s.heap.objs.size ≠ s.heap.objs.size + 1:=Nat.ne_of_lt (Nat.lt_succ_self _)
  refine ⟨by rw [QU ne,Zh],Nat.zero_le _,ne,e2,fun _=>none,(Heap.Ns1.of_empty e3).at fun o q=>Heap.get?_push_of_some _ q,fun _=>True.intro,fun y hy=>absurd rfl hy⟩
theorem QbI {prog:Program} {w:World} {env:Env} {e:Expr} {f:Str} {pos:Pos} {s:Shared} {Q:Value -> Shared -> Prop} (hb:attributeBase e f env (eval e env) = eval e env)
    (h:wpAny (model prog w) A (eval e env) (fun o s₁=>wpAny (model prog w) A (getAttr o f true) Q E s₁) E s):wpAny (model prog w) A (eval (.Attribute e f pos) env) Q E s :=
  Attribute_any_ h (by rw [arm_eval_Attribute,hb])
end
def QfS (K:PySem.W.Frag) (ta:TE) (f:Str):TE:=fun σ H Q=>ta σ H fun x H1=>∃ a C dx fs v,x = .ref a /\ H1 a = some (.ins C dx fs) /\ Cls K C /\ NoAttr K C f /\ fs.lookup f = some v /\ Q v H1
def QfQ (K:PySem.W.Frag) (ta tv:TE) (f:Str):TS:=fun D σ H=>tv σ H fun y H1=>ta σ H1 fun x H2=>∃ a C dx fs,x = .ref a /\ H2 a = some (.ins C dx fs) /\ Cls K C /\ NoAttr K C f /\ fs.length < 1000 /\
  D.nx σ (upd H2 a (.ins C dx (YC f y fs)))
def QeC (X:Cx) (op:Operator) (rd:V -> V -> Hp -> VK -> Prop):Prop :=
  ∀ (pins:List (Addr × Obj)) (s:Shared) (σ:St) (H:Hp) (x y:V) (u v:Value) (Q:VK),Inv X pins σ H s -> RelV x u -> RelV y v -> rd x y H Q -> wpAny (model X.prog X.w) X.A (inplaceOp op u v) (EP X pins σ Q) X.xe s
def QcI (K:PySem.W.Frag) (ta tv:TE) (rd:V -> V -> Hp -> VK -> Prop) (f:Str):TS:=fun D σ H=>ta σ H fun x H1=>∃ a C dx fs v,x = .ref a /\ H1 a = some (.ins C dx fs) /\ Cls K C /\ NoAttr K C f /\ fs.lookup f = some v /\
  tv σ H1 fun y H2=>rd v y H2 fun z H3=>∃ dx' fs',H3 a = some (.ins C dx' fs') /\ fs'.length < 1000 /\ D.nx σ (upd H3 a (.ins C dx' (YC f z fs')))
section
variable {X:Cx} {o e value:Expr} {f:Str} {pos pos' tpos:Pos} {ta tv:TE}
theorem QdW (he:PE X e ta) (hb:attributeBase e f X.env (eval e X.env) = eval e X.env):PE X (.Attribute e f pos) (QfS X.K ta f):=by
  intro pins s σ H Q I h
  refine QbI hb (thn (he pins s σ H _ I h) fun u s1 ⟨x,H1,I1,rx,a,C,dx,fs,v,ex,ea,c,n,l,q⟩=>?_)
  subst ex
  obtain rfl:u = Value.ref a:=rx
  exact yL I1 ea c n l fun u' s2 I2 ru=>⟨v,H1,I2,ru,q⟩
theorem Qea (ha:PE X o ta) (hv:PE X value tv) (hs:swapsWith value (some (.Attribute o f pos')) pos.line X.env = pure false):PS X (.Assign [.Attribute o f pos'] value pos) (QfQ X.K ta tv f):=by
  intro pins s σ H D I h
  refine plainObj_wpAny_Assign_Attribute (thn (hv pins s σ H _ I h) fun u s1 ⟨y,H1,I1,ry,q⟩=>thn (ha pins s1 σ H1 _ I1 q) fun ov s2 ⟨x,H2,I2,rx,a,C,dx,fs,ex,ea,c,n,l,q2⟩=>?_) hs
  subst ex
  obtain rfl:ov = Value.ref a:=rx
  exact Vr I2 ea c n l ry fun s3 I3=>⟨σ,_,I3,q2⟩
theorem gX {op:Operator} {rd:V -> V -> Hp -> VK -> Prop} (ha:PE X o ta) (hv:PE X value tv) (hop:QeC X op rd):PS X (.AugAssign (.Attribute o f tpos) op value pos) (QcI X.K ta tv rd f):=by
  intro pins s σ H D I h
  refine wpAny_AugAssign_AttributeAny (thn (ha pins s σ H _ I h) fun ov s1 ⟨x,H1,I1,rx,a,C,dx,fs,v,ex,ea,c,n,l,q⟩=>?_)
  subst ex
  obtain rfl:ov = Value.ref a:=rx
  refine yL I1 ea c n l fun u s2 I2 ru=>thn (hv pins s2 σ H1 _ I2 q) fun w3 s3 ⟨y,H2,I3,ry,q3⟩=>thn (hop pins s3 σ H2 v y u w3 _ I3 ru ry q3) fun w4 s4 ⟨z,H3,I4,rz,dx',fs',ea',l',q4⟩=>?_
  exact Vr I4 ea' c n l' rz fun s5 I5=>⟨σ,_,I5,q4⟩
def QfJ:V -> V -> Hp -> VK -> Prop:=fun x y H Q=>∃ i j,x = .int i /\ y = .int j /\ Q (.int (i + j)) H
theorem Qdw:QeC X .Add QfJ:=by
  rintro pins s σ H x y u v Q I rx ry ⟨i,j,rfl,rfl,q⟩
  obtain ⟨t,rfl⟩:=(show ∃ t,u = Value.int i t from rx)
  obtain ⟨t',rfl⟩:=(show ∃ t',v = Value.int j t' from ry)
  exact PyProof.Rows.iadd_int ⟨.int (i + j),H,I.tok _,⟨_,rfl⟩,q⟩
theorem Qc8 {pl:Sem Bool} {m:Str} {apos:Pos} {args:List Expr} {pins:List (Addr × Obj)} {s:Shared} {σ:St} {H:Hp} {Q:Value -> Shared -> Prop} {te:TE} (he:PE X e te) (I:Inv X pins σ H s)
    (h:te σ H fun x H1=>∃ a C dx fs g,x = .ref a /\ H1 a = some (.ins C dx fs) /\ Cls X.K C /\ G0 X.K C m g /\ fs.lookup m = none /\
      ∀ s1,Inv X pins σ H1 s1 -> wpAny (model X.prog X.w) X.A (callWith pos (.ref g) [.ref a] (backTo pos (starEach args X.env)) (backToKw pos (keywordEach [] X.env))) Q X.xe s1)
    (ht:eval (.Call (.Attribute e m apos) args [] pos) X.env = (do
      let ov <- eval e X.env
      standAt apos.atName
      let (f,first) <- holding [ov] (getMethod ov m pl)
      callWith pos f first (backTo pos (starEach args X.env)) (backToKw pos (keywordEach [] X.env)))) :
    wpAny (model X.prog X.w) X.A (eval (.Call (.Attribute e m apos) args [] pos) X.env) Q X.xe s:=by
  refine PySem.W.methodCall_KW (pl:=pl) (thn (he pins s σ H _ I h) fun u s1 ⟨x,H1,I1,rx,a,C,dx,fs,g,ex,ea,c,k,l,q⟩=>?_) ht
  subst ex
  obtain rfl:u = Value.ref a:=rx
  exact zO I1 ea c k l (q s1 I1)
end
section
variable {X:Cx} {pins:List (Addr × Obj)} {σ:St} {H:Hp} {s:Shared} {A:Around} {E:Value -> Shared -> Prop} {Q:Value -> Shared -> Prop} {c:Value} {b:Bool}
end
end L2
namespace L2
open PySem PySem.Spec PyProof.Rows
structure Room (k:Nat) (A:Around):Prop where
  hd:A.handled = none
  dp:A.depth + 3 * k + 5 < recursionLimit
  un:A.units + 16 * k + 200 < cLine
theorem Room.mono {j k:Nat} {A:Around} (r:Room k A) (h:j <= k):Room j A:=⟨r.hd,by have:=r.dp;omega,by have:=r.un;omega⟩
theorem Room.deeper {k:Nat} {A:Around} (r:Room (k + 1) A) (env:Env):Room k (A.deeper env) :=
  ⟨r.hd,by have:=r.dp;show A.depth + 1 + 3 * k + 5 < _;omega,by have:=r.un;show A.units + 3 + 16 * k + 200 < _;omega⟩
theorem vC {A:Around} {C:Addr} {us:List Value} {kw:List (Str × Value)}:(A.under (.builtin "type.__call__" ⟨.ref C :: us,kw⟩)).depth = A.depth + 1:=by
  first | rfl | simp [Around.under,Code.weight,Code.isCreation,Code.isGuard,Code.isCaller,Code.frames,Code.isFrame,guardIds]
theorem vD {A:Around} {C:Addr} {us:List Value} {kw:List (Str × Value)}:(A.under (.builtin "type.__call__" ⟨.ref C :: us,kw⟩)).units = A.units + 1:=by
  first | rfl | simp [Around.under,Code.cUnits,Code.frames,Code.isFrame]
theorem Room.make {k:Nat} {A:Around} (r:Room (k + 1) A) (C:Addr) (us:List Value) (kw:List (Str × Value)):Room k (A.under (.builtin "type.__call__" ⟨.ref C :: us,kw⟩)) :=
  ⟨r.hd,by have:=r.dp;rw [vC];omega,by have:=r.un;rw [vD];omega⟩
theorem Room.depth {k:Nat} {A:Around} (r:Room k A):A.depth < recursionLimit:=by have:=r.dp;omega
theorem Room.units {k:Nat} {A:Around} (r:Room k A):A.units + 64 < cLine:=by have:=r.un;omega
def Qfo:TA:=fun _ H Q=>Q [] H
def Qfl (ta:TE) (tr:TA):TA:=fun σ H Q=>ta σ H fun x H1=>tr σ H1 fun xs H2=>Q (x :: xs) H2
section
variable {X:Cx} {e:Expr} {es:List Expr} {te:TE} {t:TA} {pos:Pos}
theorem pa_nil:PA X [] Qfo:=fun _ _ _ _ H Q I h=>Calls.spliced_nil ⟨[],H,I,.nil,h⟩
theorem jx (ha:PE X e te) (hr:PA X es t) (hs:starEach (e :: es) X.env = (false,eval e X.env) :: starEach es X.env:=by rfl):PA X (e :: es) (Qfl te t):=by
  intro pos pins s σ H Q I h
  rw [hs]
  show wpAny _ _ (spliced ((false,eval e X.env) :: backTo pos (starEach es X.env))) _ _ s
  refine Calls.spliced_cons (thn (ha pins s σ H _ I h) fun u s1 ⟨x,H1,I1,r1,q1⟩=>?_)
  exact thn (hr pos pins s1 σ H1 _ I1 q1) fun us s2 ⟨xs,H2,I2,r2,q2⟩=>⟨x :: xs,H2,I2,.cons r1 r2,q2⟩
def QfY (t:TA):TE:=fun σ H Q=>t σ H fun xs H1=>xs.length <= sizeLine /\ ∀ p,H1 p = none -> Q (.ref p) (upd H1 p (.tup xs))
def QfV (t:TA):TE:=fun σ H Q=>t σ H fun xs H1=>xs.length <= sizeLine /\ ∀ p,H1 p = none -> Q (.ref p) (upd H1 p (.lst xs))
theorem Qd1 {x1} (h:PA X es t):PE X (.Tuple es x1 pos) (QfY t):=by
  intro pins s σ H Q I hq
  refine wpAny_Tuple_spliced (thn (h pos pins s σ H _ I hq) fun us s1 ⟨xs,H1,I1,r,z,q⟩=>⟨by rw [<- r.length];exact z,?_⟩)
  have hf:H1 s1.heap.objs.size = none:=I1.hok.fresh (Nat.le_refl _)
  refine ⟨.ref s1.heap.objs.size,upd H1 s1.heap.objs.size (.tup xs),I1.laid (t':=s1.toks) (fun b u e=>Heap.get?_push_of_some _ e) (Nat.le_refl _) ?_,rfl,q _ hf⟩
  exact ⟨z,us,r,⟨_,Heap.get?_push_size _ rfl,rfl,_,rfl⟩⟩
theorem QaY (h:PA X es t):PE X (.List es pos) (QfV t):=by
  intro pins s σ H Q I hq
  refine wpAny_List_spliced (thn (h pos pins s σ H _ I hq) fun us s1 ⟨xs,H1,I1,r,z,q⟩=>⟨by rw [<- r.length];exact z,?_⟩)
  have hf:H1 s1.heap.objs.size = none:=I1.hok.fresh (Nat.le_refl _)
  refine ⟨.ref s1.heap.objs.size,upd H1 s1.heap.objs.size (.lst xs),I1.laid (t':=s1.toks) (fun b u e=>Heap.get?_push_of_some _ e) (Nat.le_refl _) ?_,rfl,q _ hf⟩
  exact ⟨z,us,0,r,Heap.get?_push_size _ rfl⟩
end
abbrev Sp:=List V -> Hp -> VK -> XK -> Prop
abbrev CXT:=List Env -> Hp -> Shared -> XK -> Value -> Shared -> Prop
structure Env0 (P:Program) (w:World) (K:PySem.W.Frag) (mg:Str -> Option Value) (base:Heap) (A:Around) (outer:List Env) (s:Shared) (H:Hp):Prop where
  frames:A.frames = some outer
  mod:Mod K mg base
  bs:∀ b o,base.get? b = some o -> s.heap.get? b = some o /\ H b = none
  bsz:base.objs.size <= s.heap.objs.size
  funs:s.heap.FunFrames base outer
  frf:∀ b ∈ frs outer,H b = none
  hok:HOk P w H s.heap
  bare:AllBare s.gens
def CE (outer:List Env) (P:Program) (w:World) (H:Hp) (s:Shared) (Q:VK) (u:Value) (s':Shared):Prop :=
  ∃ v H',s'.os = s.os /\ AllBare s'.gens /\ Un (frs outer) [] H H' s.heap s'.heap /\ HOk P w H' s'.heap /\ RelV v u /\ Q v H'
def CR (CX:CXT) (outer:List Env) (P:Program) (w:World) (H:Hp) (s:Shared) (Q:VK) (E:XK) (r:Result) (s':Shared):Prop :=
  match r with
  | .ok (.ret u)=>CE outer P w H s Q u s'
  | .ok _=>False
  | .error e=>CX outer H s E e s'
structure qC (P:Program) (w:World) (K:PySem.W.Frag) (mg:Str -> Option Value) (base:Heap) (CX:CXT) (k:Nat) (f:Addr) (fd:FuncData) (ps:List Str) (sp:Sp):Prop where
  len:∀ vs H Q E,sp vs H Q E -> vs.length = ps.length
  run:∀ (A:Around) (outer:List Env) (s:Shared) (H:Hp) (args:Args) (us:List Value) (vs:List V) (Q:VK) (E:XK),Room k A -> Env0 P w K mg base A outer s H -> BindsTo s fd args (ps.zip us) -> Vals vs us -> sp vs H Q E ->
    codeAny (model P w) A (.call (.ref f) args) (CR CX outer P w H s Q E) s
theorem Env0.make {P:Program} {w:World} {K:PySem.W.Frag} {mg:Str -> Option Value} {base:Heap} {A:Around} {outer:List Env} {s:Shared} {H:Hp} (e:Env0 P w K mg base A outer s H) (C:Addr) (us:List Value) (kw:List (Str × Value)) :
    Env0 P w K mg base (A.under (.builtin "type.__call__" ⟨.ref C :: us,kw⟩)) outer s H:=⟨by first | exact e.frames | (simpa [Around.under,Code.envs,Code.isFrame,pushEnvs] using e.frames),e.mod,e.bs,e.bsz,e.funs,e.frf,e.hok,e.bare⟩
section
variable {X:Cx} {pins:List (Addr × Obj)} {σ:St} {H:Hp} {s s':Shared}
theorem Inv.env0 (I:Inv X pins σ H s):Env0 X.prog X.w X.K X.mg X.base X.A X.stack s H :=
  ⟨I.ok.frames,I.ok.mod,I.bs,Nat.le_trans I.ok.bsz I.sz,I.stack,I.stkFree,I.hok,I.bare⟩
theorem Inv.after {Q:VK} {u:Value} (I:Inv X pins σ H s) (h:CE X.stack X.prog X.w H s Q u s'):EP X pins σ Q u s':=by
  obtain ⟨v,H',os,bare,un,hok,r,q⟩:=h
  obtain ⟨hh,g,d,t,os'⟩:=s'
  obtain rfl:os' = s.os:=os
  exact ⟨v,H',I.call (h':=hh) (g':=g) (d':=d) (t':=t) (ch:=[]) un hok bare (fun b z=>absurd z (by simp)),r,q⟩
end
def Qfk (sp:Sp) (dvs:List V) (E:XK) (t:TA):TE:=fun σ H Q=>t σ H fun vs H1=>sp (vs ++ dvs) H1 Q E
def Qbw (C:Addr) (m:Str) (sp:Sp) (dvs:List V) (E:XK) (ta:TE) (t:TA):TE:=fun σ H Q=>ta σ H fun x H1=>∃ a dx fs,x = .ref a /\ H1 a = some (.ins C dx fs) /\ fs.lookup m = none /\
  t σ H1 fun vs H2=>sp (x :: (vs ++ dvs)) H2 Q E
def Binds (K:PySem.W.Frag) (fd:FuncData) (ps:List Str) (ds:List Value):Prop :=
  ∀ (s:Shared) (us:List Value),K.In s.heap -> (us ++ ds).length = ps.length -> BindsTo s fd ⟨us,[]⟩ (ps.zip (us ++ ds))
theorem Binds.all {K:PySem.W.Frag} {fd:FuncData} {ps:List Str} (h:∀ us:List Value,us.length = ps.length -> bindArgs fd ⟨us,[]⟩ = pure (ps.zip us)):Binds K fd ps []:=fun s us _ hl=>by
  rw [List.append_nil] at hl ⊢
  exact .of_eq (h us hl)
def Yu (CX:CXT) (X:Cx) (E:XK):Prop:=∀ (pins:List (Addr × Obj)) (σ:St) (H:Hp) (s:Shared) (e:Value) (s':Shared),Inv X pins σ H s -> CX X.stack H s E e s' -> X.xe e s'
section
variable {X:Cx} {CX:CXT} {k:Nat} {f C:Addr} {fd:FuncData} {ps:List Str} {sp:Sp} {dvs:List V} {ds:List Value} {E:XK} {x m:Str} {p pos apos:Pos} {e o:Expr} {es:List Expr} {ta:TE} {t:TA}
theorem vQ {pins:List (Addr × Obj)} {σ:St} {H:Hp} {s:Shared} {Q:VK} {us:List Value} {vs:List V} (F:qC X.prog X.w X.K X.mg X.base CX k f fd ps sp) (hr:Room k X.A) (hb:Binds X.K fd ps ds) (hd:Vals dvs ds) (hx:Yu CX X E)
    (I:Inv X pins σ H s) (r:Vals vs us) (h:sp (vs ++ dvs) H Q E):wpAny (model X.prog X.w) X.A (call (.ref f) us) (EP X pins σ Q) X.xe s:=by
  have r2:Vals (vs ++ dvs) (us ++ ds):=r.append hd
  have hl:(us ++ ds).length = ps.length:=by rw [<- r2.length];exact F.len _ _ _ _ h
  refine wpAny_call (codeAny_mono (F.run X.A X.stack s H ⟨us,[]⟩ (us ++ ds) (vs ++ dvs) Q E hr I.env0 (hb s us I.kIn hl) r2 h) fun r s' hq=>?_)
  cases r with
  | error e=>exact hx pins σ H s e s' I hq
  | ok fl =>
    cases fl with
    | ret u=>exact I.after hq
    | next=>exact False.elim hq
    | brk=>exact False.elim hq
    | cont=>exact False.elim hq
theorem Qcf (F:qC X.prog X.w X.K X.mg X.base CX k f fd ps sp) (hr:Room k X.A) (hg:Gl X x) (hm:X.mg x = some (.ref f)) (hk:PySem.W.keepIn X.K (.ref f) = true) (hb:Binds X.K fd ps ds) (hd:Vals dvs ds) (hx:Yu CX X E)
    (ha:PA X (e :: es) t) (hdb:(x == ("__debug__" : Str)) = false:=by decide) (he:starEach (e :: es) X.env = (false,eval e X.env) :: starEach es X.env:=by rfl) (hpl:(backTo pos (starEach es X.env)).any (·.1) = false:=by rfl) :
    PE X (.Call (.Name x p) (e :: es) [] pos) (Qfk sp dvs E t):=by
  intro pins s σ H Q I h
  refine wpAny_Call_Name_kw (Kf I hg hm ?_ hdb)
  refine PySem.W.callWith_K (h₀:=X.base) I.ok.mod.kin hk (thn (ha pos pins s σ H _ I h) fun us s1 ⟨vs,H1,I1,r,q⟩=>⟨I1.kIn,?_⟩) he hpl
  exact vQ F hr hb hd hx I1 r q
theorem Qci {pl:Sem Bool} (he:PE X o ta) (c:Cls X.K C) (hm:G0 X.K C m f) (F:qC X.prog X.w X.K X.mg X.base CX k f fd ps sp) (hr:Room k X.A) (hb:Binds X.K fd ps ds) (hd:Vals dvs ds) (hx:Yu CX X E) (ha:PA X (e :: es) t)
    (hst:starEach (e :: es) X.env = (false,eval e X.env) :: starEach es X.env:=by rfl) (hpl:(backTo pos (starEach es X.env)).any (·.1) = false:=by rfl)
    (ht:eval (.Call (.Attribute o m apos) (e :: es) [] pos) X.env = (do
      let ov <- eval o X.env
      standAt apos.atName
      let (f,first) <- holding [ov] (getMethod ov m pl)
      callWith pos f first (backTo pos (starEach (e :: es) X.env)) (backToKw pos (keywordEach [] X.env))):=by rfl) :
    PE X (.Call (.Attribute o m apos) (e :: es) [] pos) (Qbw C m sp dvs E ta t):=by
  intro pins s σ H Q I h
  refine PySem.W.methodCall_KW (pl:=pl) (thn (he pins s σ H _ I h) fun u s1 ⟨x,H1,I1,rx,a,dx,fs,ex,ea,l,q⟩=>?_) ht
  subst ex
  obtain rfl:u = Value.ref a:=rx
  refine zO I1 ea c hm l ?_
  refine PySem.W.callWith_K (first:=[.ref a]) (h₀:=X.base) I.ok.mod.kin hm.kp (thn (ha pos pins s1 σ H1 _ I1 q) fun us s2 ⟨vs,H2,I2,r,q2⟩=>⟨I2.kIn,?_⟩) hst hpl
  exact vQ (us:=.ref a :: us) (vs:=.ref a :: vs) F hr hb hd hx I2 (.cons rfl r) q2
theorem QaZ {pl:Sem Bool} (he:PE X o ta) (c:Cls X.K C) (hm:G0 X.K C m f) (F:qC X.prog X.w X.K X.mg X.base CX k f fd ps sp) (hr:Room k X.A) (hb:Binds X.K fd ps ds) (hd:Vals dvs ds) (hx:Yu CX X E)
    (ht:eval (.Call (.Attribute o m apos) [] [] pos) X.env = (do
      let ov <- eval o X.env
      standAt apos.atName
      let (f,first) <- holding [ov] (getMethod ov m pl)
      callWith pos f first (backTo pos (starEach [] X.env)) (backToKw pos (keywordEach [] X.env))):=by rfl) :
    PE X (.Call (.Attribute o m apos) [] [] pos) (Qbw C m sp dvs E ta Qfo):=by
  intro pins s σ H Q I h
  refine PySem.W.methodCall_KW (pl:=pl) (thn (he pins s σ H _ I h) fun u s1 ⟨x,H1,I1,rx,a,dx,fs,ex,ea,l,q⟩=>?_) ht
  subst ex
  obtain rfl:u = Value.ref a:=rx
  refine zO I1 ea c hm l ?_
  exact PySem.W.callWith_K0 (first:=[.ref a]) I1.kIn hm.kp (vQ (us:=[.ref a]) (vs:=[.ref a]) F hr hb hd hx I1 (.cons rfl .nil) q)
structure Mk (K:PySem.W.Frag) (C f:Addr):Prop where
  makes:PySem.W.makesIn K C = true
  init:PySem.W.findIn K (.ref C) "__init__" = some (some (.ref f))
  fn:PySem.W.isFn K (.ref f) = true
  kp:PySem.W.keepIn K (.ref C) = true
end
section
variable {X:Cx} {CX:CXT} {k:Nat} {f C:Addr} {fd:FuncData} {ps ks:List Str} {sp:Sp} {E:XK} {x m:Str} {p pos apos kpos:Pos} {e o:Expr} {es:List Expr} {kws:List Keyword} {te ta:TE} {t tk:TA} {nm:Option Str}
variable {g:List Value -> List Value -> List Value} {gV:List V -> List V -> List V}
end
structure Qv (N P:List Str) (sc:Scope):Prop where
  kind:sc.kind = .function
  co:sc.isCoroutine = false
  gen:sc.isGenerator = false
  nd:N.Nodup
  pre:N.take P.length = P
  par:∀ x ∈ P,sc.names.lookup x = some .local ∨ sc.names.lookup x = some .cell
  nofree:∀ y ∈ sc.names,y.2 ≠ .free
theorem V3 {kindOf:Str -> Option NameKind} {x:Str}:∀ {binds:List (Str × Value)} {m:Str -> Option Value},(∀ v,(x,v) ∉ binds) -> bindL kindOf binds m x = m x
  | [],_,_=>rfl
  | (n,v) :: r,m,h=>by
    unfold bindL
    rw [V3 fun w hw=>h w (List.mem_cons_of_mem _ hw)]
    split
    . have:x ≠ n:=by rintro rfl;exact h v List.mem_cons_self
      simp [this]
    . rfl
theorem V1 {kindOf:Str -> Option NameKind} {x:Str}:∀ {binds:List (Str × Value)} {m:Str -> Option Value},(∀ v,(x,v) ∉ binds) -> bindC kindOf binds m x = m x
  | [],_,_=>rfl
  | (n,v) :: r,m,h=>by
    unfold bindC
    rw [V1 fun w hw=>h w (List.mem_cons_of_mem _ hw)]
    split
    . rfl
    . have:x ≠ n:=by rintro rfl;exact h v List.mem_cons_self
      simp [this]
theorem V2 {kindOf:Str -> Option NameKind} {x:Str} {v:Value}:∀ {P:List Str} {vs:List Value} {i:Nat} {m:Str -> Option Value},P.Nodup -> P[i]? = some x -> vs[i]? = some v -> kindOf x = some .local ->
    bindL kindOf (P.zip vs) m x = some v
  | [],_,_,_,_,h,_,_=>by simp at h
  | _ :: _,[],_,_,_,_,h,_=>by simp at h
  | p :: P,w :: vs,0,m,nd,h1,h2,hk=>by
    simp at h1 h2;subst h1;subst h2
    show bindL kindOf ((p,w) :: P.zip vs) m p = _
    unfold bindL
    rw [V3 fun v hv=>(List.nodup_cons.mp nd).1 (List.of_mem_zip hv).1,if_pos hk]
    simp
  | p :: P,w :: vs,i + 1,m,nd,h1,h2,hk=>by
    show bindL kindOf ((p,w) :: P.zip vs) m x = _
    unfold bindL
    exact V2 (i:=i) (List.nodup_cons.mp nd).2 (by simpa using h1) (by simpa using h2) hk
theorem V0 {kindOf:Str -> Option NameKind} {x:Str} {v:Value}:∀ {P:List Str} {vs:List Value} {i:Nat} {m:Str -> Option Value},P.Nodup -> P[i]? = some x -> vs[i]? = some v -> kindOf x ≠ some .local ->
    bindC kindOf (P.zip vs) m x = some v
  | [],_,_,_,_,h,_,_=>by simp at h
  | _ :: _,[],_,_,_,_,h,_=>by simp at h
  | p :: P,w :: vs,0,m,nd,h1,h2,hk=>by
    simp at h1 h2;subst h1;subst h2
    show bindC kindOf ((p,w) :: P.zip vs) m p = _
    unfold bindC
    rw [V1 fun v hv=>(List.nodup_cons.mp nd).1 (List.of_mem_zip hv).1,if_neg hk]
    simp
  | p :: P,w :: vs,i + 1,m,nd,h1,h2,hk=>by
    show bindC kindOf ((p,w) :: P.zip vs) m x = _
    unfold bindC
    exact V0 (i:=i) (List.nodup_cons.mp nd).2 (by simpa using h1) (by simpa using h2) hk
def start (N:List Str) (vs:List V):St:=vs.map some ++ List.replicate (N.length - vs.length) none
def xW (CX:CXT) (P:Program) (w:World) (K:PySem.W.Frag) (mg:Str -> Option Value) (base:Heap) (N:List Str) (qual:Str) (scope:Scope) (f:Addr) (cd:Value) (A:Around) (outer:List Env) (s:Shared) (H:Hp) (E:XK):Cx where
  prog:=P
  w:=w
  K:=K
  mg:=mg
  base:=base
  A:=A.deeper (envOfC qual scope s.heap.objs.size f cd)
  N:=N
  s₀:=s
  H₀:=H
  env:=envOfC qual scope s.heap.objs.size f cd
  outer:=outer
  stack:=envOfC qual scope s.heap.objs.size f cd :: outer
  ex:=[]
  calm:=true
  fn:=fun _=>true
  pn:=[]
  xe:=fun e s'=>wpAny (model P w) (A.deeper (envOfC qual scope s.heap.objs.size f cd)) (leaving (envOfC qual scope s.heap.objs.size f cd) e) (fun _ s''=>CX outer H s E e s'') (fun e' s''=>CX outer H s E e' s'') s'
theorem KU {sc:Scope} {n:Nat} {x:Str} (h:sc.names.lookup x = some .cell):∃ c,(cellsFrom n sc.names []).lookup x = some c:=by
  have q:=PySem.W.cellsFrom_some sc.names n [] (.inl h)
  exact Option.isSome_iff_exists.mp q
theorem gD {CX:CXT} {P:Program} {w:World} {K:PySem.W.Frag} {mg:Str -> Option Value} {base:Heap} {N ps:List Str} {qual:Str} {scope:Scope} {f:Addr} {cd:Value} {A:Around} {outer:List Env} {s s1:Shared} {H:Hp} {E:XK} {us:List Value} {vs:List V}
    (S:Qv N ps scope) (hd:A.handled = none) (e0:Env0 P w K mg base A outer s H) (hl:vs.length = ps.length) (r:Vals vs us)
    (x:InCallC s s.heap.objs.size (bindL (envOfC qual scope s.heap.objs.size f cd).kindOf (ps.zip us) fun _=>none) (cellsFrom (s.heap.objs.size + 1) scope.names []) (bindC (envOfC qual scope s.heap.objs.size f cd).kindOf (ps.zip us) fun _=>none) s1) :
    Inv (xW CX P w K mg base N qual scope f cd A outer s H E) [] (start N vs) H s1:=by
  have hpl:ps.length <= N.length:=by have:=congrArg List.length S.pre;rw [List.length_take] at this;omega
  obtain ⟨h1,tk,rfl,hk⟩:=x.done
  have noA:∀ b:Addr,b ∉ (xW CX P w K mg base N qual scope f cd A outer s H E).ex:=fun b z=>absurd (show b ∈ ([]:List Addr) from z) (by simp)
  refine ⟨⟨e0.mod,S.kind,rfl,rfl,Nat.le_refl _,fun y z c h1 h2=>?_,fun y hy=>?_,fun y c _ h=>?_,fun _=>hd,Around.frames_deeper e0.frames,.inr ⟨rfl,rfl⟩,fun b z=>absurd z (noA b),e0.bs,e0.bsz,fun b _ _=>noA b,fun b z=>absurd z (noA b),e0.funs,e0.frf⟩,
    rfl,e0.bare,Un.kept hk,⟨_,x.toInCall.ns,fun i y v h1 h2 h3=>?_⟩,fun y c h=>⟨_,x.cell y c h⟩,e0.hok.fresh (Nat.le_refl _),fun y c h=>?_,fun p hp=>absurd (show p ∈ ([]:List (Addr × Obj)) from hp) (by simp),e0.hok.kept hk,?_⟩
  . exact name_of_addr x.apart (PySem.mem_of_lookup h1) (PySem.mem_of_lookup h2)
  . have hy:scope.names.lookup y = some .cell ∨ scope.names.lookup y = some .free:=hy
    rcases hy with hy | hy
    . exact KU hy
    . exact absurd rfl (S.nofree _ (PySem.mem_of_lookup hy))
  . exact Nat.le_of_lt (x.above y c (PySem.mem_of_lookup h))
  . have hi:i < vs.length:=by
      unfold start at h2
      by_cases hi:i < vs.length
      . exact hi
      . rw [List.getElem?_append_right (by simpa using hi)] at h2
        rw [List.getElem?_replicate] at h2
        split at h2 <;> cases h2
    have ha:vs[i]? = some v:=by
      unfold start at h2
      rw [List.getElem?_append_left (by simpa using hi),List.getElem?_map] at h2
      cases e:vs[i]? with
      | none=>rw [e] at h2;cases h2
      | some a=>rw [e] at h2;cases h2;rfl
    obtain ⟨u,hu,rv⟩:=r.get ha
    have hp:ps[i]? = some y:=by
      rw [<- S.pre,List.getElem?_take_of_lt (by omega)];exact h1
    have ndP:ps.Nodup:=by rw [<- S.pre];exact S.nd.sublist (List.take_sublist _ _)
    refine ⟨u,rv,?_⟩
    rcases S.par y (List.mem_of_getElem? hp) with k | k
    . exact .inl ⟨k,V2 ndP hp hu k⟩
    . obtain ⟨c,e⟩:=KU (n:=s.heap.objs.size + 1) k
      refine .inr ⟨.inl k,c,e,?_⟩
      have q:=x.cell y c e
      rw [V0 ndP hp hu (by show scope.names.lookup y ≠ _;rw [k];decide)] at q
      exact q
  . exact e0.hok.fresh (Nat.le_of_lt (x.above y c (PySem.mem_of_lookup h)))
  . unfold start
    show _ = N.length
    rw [List.length_append,List.length_map,List.length_replicate]
    omega
theorem QeN {CX:CXT} {P:Program} {w:World} {K:PySem.W.Frag} {mg:Str -> Option Value} {base:Heap} {k:Nat} {f:Addr} {name qual:Str} {params:Arguments} {body:List Stmt} {scope:Scope} {dV kV doc pm cdv ct oc:Value} {an od:Option Addr}
    {osl:Array (Option Value)} {N ps:List Str} {sp:Sp} (lk:K.lookup f = some ⟨oc,od,.func (PySem.W.fnOf name qual params body scope dV kV doc pm an cdv ct),osl⟩) (hcd:PySem.W.codeIn K cdv qual = true) (S:Qv N ps scope)
    (len:∀ vs H Q E,sp vs H Q E -> vs.length = ps.length)
    (hbody:∀ (A:Around) (outer:List Env) (s:Shared) (H:Hp) (vs:List V) (Q:VK) (E:XK),Room k (A.deeper (envOfC qual scope s.heap.objs.size f cdv)) -> sp vs H Q E ->
      ∃ t,PSs (xW CX P w K mg base N qual scope f cdv A outer s H E) body t /\ t { nx:=fun _ H'=>Q .non H',rt:=Q } (start N vs) H) :
    qC P w K mg base CX (k + 1) f (PySem.W.fnOf name qual params body scope dV kV doc pm an cdv ct) ps sp:=by
  refine ⟨len,fun A outer s H args us vs Q E hr e0 hb r hsp=>?_⟩
  have hl:=len _ _ _ _ hsp
  have KX:K.In s.heap:=e0.mod.kin.keeps fun b o e=>(e0.bs b o e).1
  have lim:s.heap.NoLimit:=e0.mod.nolimit.keeps fun b o e=>(e0.bs b o e).1
  have hkind:∀ y ∈ ps.zip us,scope.names.lookup y.1 = some .local ∨ (scope.names.lookup y.1 = some .cell /\ ((cellsFrom (s.heap.objs.size + 1) scope.names []).lookup y.1).isSome = true):=fun ⟨n,v⟩ hy=>by
    rcases S.par n (List.of_mem_zip hy).1 with q | q
    . exact .inl q
    . exact .inr ⟨q,PySem.W.cellsFrom_some _ _ _ (.inl q)⟩
  refine codeAny_call_function hr.depth (KX _ _ lk) rfl S.co S.gen rfl (PySem.W.codeRec_of KX hcd) (hb _ _ _ _ ?_)
  refine wpAny_newFunctionEnv_cells S.kind hkind fun env he s1 x=>?_
  subst he
  refine ⟨lim.keeps x.toInCall.keep,codeAny_func ?_⟩
  obtain ⟨t,ht,hq⟩:=hbody A outer s H vs Q E (hr.deeper _) hsp
  have I:Inv (xW CX P w K mg base N qual scope f cdv A outer s H E) [] (start N vs) H s1:=gD S hr.hd e0 hl r x
  refine wpAny_mono (ht [] s1 (start N vs) H _ I hq) (fun fl s' hs=>?_) fun e s' hs=>hs
  have fin:∀ {σ':St} {H':Hp} {v:V} {u:Value},Inv (xW CX P w K mg base N qual scope f cdv A outer s H E) [] σ' H' s' -> RelV v u -> Q v H' -> CE outer P w H s Q u s' :=
    fun {σ' H' v u} J rv q=>⟨v,H',J.os,J.bare,J.base,J.hok,rv,q⟩
  cases fl with
  | ret u =>
    obtain ⟨v,σ',H',J,rv,q⟩:=hs
    exact fin J rv q
  | next =>
    obtain ⟨σ',H',J,q⟩:=hs
    exact fin (v:=V.non) (u:=Value.none) J rfl q
  | brk =>
    obtain ⟨_,_,_,q⟩:=hs
    exact False.elim q
  | cont =>
    obtain ⟨_,_,_,q⟩:=hs
    exact False.elim q
end L2
namespace L2
open PySem PySem.Spec PyProof.Rows
section
variable {X:Cx} {x:Str} {p pos:Pos} {e:Expr} {es:List Expr} {t:TA} {id T:String} {r:List V -> Hp -> VK -> Prop}
def tCB (r:List V -> Hp -> VK -> Prop) (t:TA):TE:=fun σ H Q=>t σ H fun vs H1=>r vs H1 Q
theorem QaW (hc:X0 X (.builtin id) r) (hg:Gl X x) (hm:X.mg x = none) (hv:bootBuiltins x = some (.builtin id)) (ha:PA X (e :: es) t) (hn:x ≠ "__name__" := by decide) (hdb:(x == ("__debug__" : Str)) = false:=by decide)
    (he:starEach (e :: es) X.env = (false,eval e X.env) :: starEach es X.env:=by rfl) (hpl:(backTo pos (starEach es X.env)).any (·.1) = false:=by rfl):PE X (.Call (.Name x p) (e :: es) [] pos) (tCB r t):=by
  intro pins s σ H Q I h
  refine wpAny_Call_Name_kw (yR I hg hm hv ?_ hn hdb)
  exact PyProof.Rows.callWith_builtin1 (thn (ha pos pins s σ H _ I h) fun us s1 ⟨vs,H1,I1,r1,q1⟩=>hc pins s1 σ H1 vs us Q I1 r1 q1) he hpl
theorem gO (hc:X0 X (.type T) r) (hg:Gl X x) (hm:X.mg x = none) (hv:bootBuiltins x = some (.type T)) (ha:PA X (e :: es) t) (hn:x ≠ "__name__" := by decide) (hdb:(x == ("__debug__" : Str)) = false:=by decide)
    (he:starEach (e :: es) X.env = (false,eval e X.env) :: starEach es X.env:=by rfl) (hpl:(backTo pos (starEach es X.env)).any (·.1) = false:=by rfl):PE X (.Call (.Name x p) (e :: es) [] pos) (tCB r t):=by
  intro pins s σ H Q I h
  refine wpAny_Call_Name_kw (yR I hg hm hv ?_ hn hdb)
  exact PyProof.Rows.callWith_type1 (thn (ha pos pins s σ H _ I h) fun us s1 ⟨vs,H1,I1,r1,q1⟩=>hc pins s1 σ H1 vs us Q I1 r1 q1) he hpl
end
end L2
namespace HT
open PySem PyProof.Rows
section
open PySem.SeqAt
open PySem.AutoSeq1 (wpAny_loadPart')
open PySem.MeetsSeq PySem.MeetsSeq2 PySem.MeetsSeq3
end
section
variable {prog:Program} {w:World} {A:Around} {E:Value -> Shared -> Prop} {s:Shared}
theorem cat_tup {t b:Addr} {vs ws:List Value} {Q:Value -> Shared -> Prop} (ht:IsTup s.heap t vs.toArray) (hb:IsTup s.heap b ws.toArray) (hv:vs ≠ [])
    (h1:ws = [] -> Q (.ref t) s) (h2:ws ≠ [] -> Q (.ref s.heap.objs.size) { s with heap:=s.heap.push { cls:=.type "tuple", data:=.seq (vs ++ ws).toArray } })
    (hsz:vs.length + ws.length <= sizeLine):wpAny (model prog w) A (binaryOp .Add (.ref t) (.ref b)) Q E s:=by
  obtain ⟨⟨cls,dd,data,sl⟩,ho,hc,n,hd⟩:=id ht
  obtain ⟨⟨cls2,dd2,data2,sl2⟩,ho2,hc2,n2,hd2⟩:=id hb
  simp only at hc hd hc2 hd2
  subst hc hd hc2 hd2
  have e:vs.toArray ++ ws.toArray = (vs ++ ws).toArray:=by simp
  by_cases hw:ws = []
  . exact concat_meets ⟨_,ho,rfl⟩ ⟨_,ho2,rfl⟩ noFill_tuple_add seq_tuple_add PySem.F.slot_tuple_add PySem.F.entry_tuple_add (PySem.F.args_tuple_add_2 _ _)
      (tuple_addW1 t b vs.toArray ws.toArray n n2 dd dd2 sl sl2 (by simpa using hv) (by simp [hw])) ⟨ho,ho2,h1 hw⟩
  . refine concat_meets ⟨_,ho,rfl⟩ ⟨_,ho2,rfl⟩ noFill_tuple_add seq_tuple_add PySem.F.slot_tuple_add PySem.F.entry_tuple_add (PySem.F.args_tuple_add_2 _ _)
      (tuple_addW2 t b vs.toArray ws.toArray n n2 dd dd2 sl sl2 (by simpa using hv) (by simpa using hw) (by rw [List.size_toArray,List.size_toArray];exact hsz)) ⟨ho,ho2,?_⟩
    rw [e]
    exact h2 hw
def sIx (n d:Nat):Option Int -> Nat
  | none=>d
  | some v=>if v < 0 then (v + (n:Int)).toNat else min v.toNat n
theorem sIx_nat (n d k:Nat):sIx n d (some (k:Int)) = min k n:=by
  show (if (k:Int) < 0 then ((k:Int) + (n:Int)).toNat else min (k:Int).toNat n) = min k n
  rw [if_neg (by omega),Int.toNat_natCast]
theorem Qei (n d:Nat) (hd:d <= n) (o:Option Int):sIx n d o <= n:=by
  cases o with
  | none=>exact hd
  | some v =>
    show (if v < 0 then (v + (n:Int)).toNat else min v.toNat n) <= n
    by_cases hv:v < 0
    . rw [if_pos hv];omega
    . rw [if_neg hv];exact Nat.min_le_right _ _
theorem ud (v:Int) (n d:Nat):(if v < 0 then max (v + (n:Int)) 0 else min v (n:Int)) = ((sIx n d (some v):Nat):Int):=by
  show (if v < 0 then max (v + (n:Int)) 0 else min v (n:Int)) = (((if v < 0 then (v + (n:Int)).toNat else min v.toNat n):Nat):Int)
  by_cases hv:v < 0
  . simp only [if_pos hv];omega
  . simp only [if_neg hv];omega
theorem G1 (lo hi:Option Int) (n:Nat):Builtin.Slice.sliceAdjust lo hi 1 (n:Int) = (((sIx n 0 lo:Nat):Int),((sIx n n hi:Nat):Int)):=by
  have h1:¬ ((1:Int) < 0):=by omega
  unfold Builtin.Slice.sliceAdjust
  simp only [h1,if_false]
  refine Prod.ext ?_ ?_
  . cases lo with
    | none=>rfl
    | some v=>exact ud v n 0
  . cases hi with
    | none=>rfl
    | some v=>exact ud v n n
theorem vM (i j:Nat):Builtin.Slice.slicePlaces (i:Int) (j:Int) 1 = j - i:=by
  unfold Builtin.Slice.slicePlaces
  have h1:(1:Int) > 0:=by omega
  simp only [h1,if_true,Int.ediv_one]
  split <;> omega
theorem Vu {v:Value} {o:Option Int} {Q:Option Int -> Shared -> Prop} (p:IsPart v o) (h:Q o s):wpAny (model prog w) A (Builtin.Slice.slicePartIndex v) Q E s:=by
  cases p with
  | none=>exact slicePart_none h
  | int i t=>exact slicePart_int h
theorem sliceApplied_gen {sl:Addr} {vl vu:Value} {lo hi:Option Int} {n:Nat} {Q:Int × Int × Nat -> Shared -> Prop} (hs:s.heap.IsSliceOf sl vl vu .none) (pl:IsPart vl lo) (pu:IsPart vu hi)
    (h:Q (((sIx n 0 lo:Nat):Int),1,sIx n n hi - sIx n 0 lo) s):wpAny (model prog w) A (Builtin.Slice.sliceApplied (.ref sl) (pure (n:Int))) Q E s:=by
  obtain ⟨os,hos,hcs,hds⟩:=id hs
  unfold Builtin.Slice.sliceApplied Builtin.Slice.sliceFields
  refine wpAny_bind (wpAny_bind (wpAny_field hos hds (x:=vl) rfl (wpAny_bind (wpAny_field hos hds (x:=vu) rfl (wpAny_bind (wpAny_field hos hds (x:=.none) rfl (wpAny_pure ?_)))))))
  refine wpAny_bind (slicePart_none ?_)
  show wpAny _ _ (if ((1:Int) == 0) = true then _ else _) _ _ s
  rw [if_neg (by decide)]
  refine wpAny_bind (Vu pl (wpAny_bind (Vu pu (wpAny_bind (wpAny_pure ?_)))))
  show wpAny _ _ (match Builtin.Slice.sliceAdjust lo hi 1 (n:Int) with | (lo,hi)=>pure (lo,(1:Int),Builtin.Slice.slicePlaces lo hi 1)) _ _ s
  rw [G1 lo hi n]
  show wpAny _ _ (pure (((sIx n 0 lo:Nat):Int),(1:Int),Builtin.Slice.slicePlaces ((sIx n 0 lo:Nat):Int) ((sIx n n hi:Nat):Int) 1)) _ _ s
  rw [vM]
  exact wpAny_pure h
theorem Qa5 (xs:Array Value) (i k:Nat):((List.range k).filterMap fun (m:Nat)=>xs[((i:Int) + (m:Int) * 1).toNat]?).toArray = ((xs.toList.drop i).take k).toArray:=by
  have e:(fun (m:Nat)=>xs[((i:Int) + (m:Int) * 1).toNat]?) = fun m=>xs[i + m]?:=by
    funext m
    have:((i:Int) + (m:Int) * 1).toNat = i + m:=by omega
    rw [this]
  rw [e]
  have:=pick_run xs i k
  rw [List.filterMap_map] at this
  have e2:((fun x=>xs[x]?) ∘ fun x=>i + x) = fun m=>xs[i + m]?:=rfl
  rw [e2] at this
  rw [this]
theorem getItem_tuple_cut {t sl:Addr} {items:Array Value} {vl vu:Value} {lo hi:Option Int} {Q:Value -> Shared -> Prop} (ht:IsTup s.heap t items) (hs:s.heap.IsSliceOf sl vl vu .none) (pl:IsPart vl lo) (pu:IsPart vu hi)
    (hw:¬ (sIx items.size 0 lo = 0 /\ sIx items.size items.size hi = items.size))
    (h:Q (.ref s.heap.objs.size) { s with heap:=s.heap.push { cls:=.type "tuple", data:=.seq ((items.toList.drop (sIx items.size 0 lo)).take (sIx items.size items.size hi - sIx items.size 0 lo)).toArray } })
    (hsz:items.size <= sizeLine):wpAny (model prog w) A (getItem (.ref t) (.ref sl)) Q E s:=by
  have htake:sizeOk (.seq ((items.toList.drop (sIx items.size 0 lo)).take (sIx items.size items.size hi - sIx items.size 0 lo)).toArray):=by
    show ((items.toList.drop (sIx items.size 0 lo)).take (sIx items.size items.size hi - sIx items.size 0 lo)).toArray.size <= sizeLine
    rw [List.size_toArray,List.length_take,List.length_drop,Array.length_toList]
    omega
  have hj:sIx items.size items.size hi <= items.size:=Qei _ _ (Nat.le_refl _) hi
  obtain ⟨os,hos,hcs,hds⟩:=id hs
  have hTs:s.TypeIs (.ref sl) "slice" := ⟨os,hos,hcs⟩
  unfold getItem
  try with_reducible refine wpAny_holding ?_
  first | refine wpAny_bind (wpAny_pure ?_) | skip
  refine wpAny_bind (wpAny_sequenceKey ht.typeIs (by decide) ?_)
  refine wpAny_bind (wpAny_callSpecial?_slot (name:=Str.ofString "__getitem__") ht.typeIs PyProof.Rows.slot_tuple_getitem
    (wpAny_call_entry PyProof.Rows.slot_tuple_getitem ht.typeIs entry_tuple_getitem ?_ (args_tuple_getitem _ _)))
  show wpAny _ _ (Builtin.Tuple.tupleItemsOf (.ref t) >>= _) _ _ s
  refine wpAny_bind (tupleItemsOf_ ht ?_)
  refine wpAny_bind (wpAny_typeOf hTs ?_)
  rw [if_pos (by decide)]
  refine wpAny_bind (sliceApplied_gen hs pl pu ?_)
  have hno:¬ ((((sIx items.size 0 lo:Nat):Int) == 0 && (1:Int) == 1 && (sIx items.size items.size hi - sIx items.size 0 lo) == items.size) = true):=by
    intro q
    rw [Bool.and_eq_true,Bool.and_eq_true] at q
    have q1:((sIx items.size 0 lo:Nat):Int) = 0:=eq_of_beq q.1.1
    have q2:sIx items.size items.size hi - sIx items.size 0 lo = items.size:=eq_of_beq q.2
    exact hw ⟨by omega,by omega⟩
  show wpAny _ _ (if (((sIx items.size 0 lo:Nat):Int) == 0 && (1:Int) == 1 && (sIx items.size items.size hi - sIx items.size 0 lo) == items.size) = true then _ else _) _ _ s
  rw [if_neg hno,Qa5]
  first
    | exact wpAny_bind (m:=Builtin.Tuple.tupleExact _) (wpAny_newObj_type (wpAny_pure ⟨_,rfl,wpAny_pure h⟩) htake)
    | exact wpAny_bind (m:=Builtin.Tuple.tupleExact _) (wpAny_newObj_type (wpAny_bind (wpAny_pure (wpAny_pure ⟨_,rfl,wpAny_pure h⟩))) htake)
    | exact wpAny_bind (wpAny_bind (m:=Builtin.Tuple.tupleExact _) (wpAny_newObj_type (wpAny_pure (wpAny_pure ⟨_,rfl,wpAny_pure h⟩)) htake))
    | exact wpAny_bind (wpAny_bind (m:=Builtin.Tuple.tupleExact _) (wpAny_newObj_type (wpAny_pure ⟨_,rfl,wpAny_pure h⟩) htake))
end
end HT
namespace L2
open PySem PySem.Spec PyProof.Rows
abbrev TO:=St -> Hp -> (Option Int -> Hp -> Prop) -> Prop
def PO (X:Cx) (e:Option Expr) (t:TO):Prop :=
  ∀ (pins : List (Addr × Obj)) (s : Shared) (σ : St) (H : Hp) (Q : Option Int -> Hp -> Prop), Inv X pins σ H s -> t σ H Q ->
    wpAny (model X.prog X.w) X.A (evalPart e X.env) (fun u s'=>∃ o H',Inv X pins σ H' s' /\ IsPart u o /\ Q o H') X.xe s
def QcQ:TO:=fun _ H Q=>Q none H
def Qfp (t:TE):TO:=fun σ H Q=>t σ H fun x H1=>∃ i,x = .int i /\ Q (some i) H1
section
variable {X:Cx} {e:Expr} {te:TE} {lo hi:Option Expr} {tl th:TO} {pos p2:Pos}
theorem Qcq:PO X none QcQ:=by
  intro pins s σ H Q I h
  rw [evalPart_none]
  exact wpAny_pure ⟨none,H,I,.none,h⟩
theorem Qcr (h:PE X e te):PO X (some e) (Qfp te):=by
  intro pins s σ H Q I hw
  rw [evalPart_some]
  refine thn (h pins s σ H _ I hw) fun u s1 ⟨x,H1,I1,r1,q1⟩=>?_
  obtain ⟨i,rfl,q⟩:=q1
  obtain ⟨t,rfl⟩:=r1
  exact ⟨some i,H1,I1,.int i t,q⟩
def SlR (X:Cx) (r:V -> Option Int -> Option Int -> Hp -> VK -> Prop):Prop :=
  ∀ (pins : List (Addr × Obj)) (s : Shared) (σ : St) (H : Hp) (x : V) (v vl vu : Value) (lo hi : Option Int) (sl : Addr) (Q : VK), Inv X pins σ H s -> RelV x v -> s.heap.IsSliceOf sl vl vu .none -> IsPart vl lo -> IsPart vu hi -> r x lo hi H Q ->
    ∃ T id,typeLookup (.type T) "__getitem__" = pure (some (.builtin id)) /\ s.TypeIs v T /\ wpAny (model X.prog X.w) X.A (getItem v (.ref sl)) (EP X pins σ Q) X.xe s
def tSl (r:V -> Option Int -> Option Int -> Hp -> VK -> Prop) (te:TE) (tl th:TO):TE:=fun σ H Q=>te σ H fun x H1=>tl σ H1 fun l H2=>th σ H2 fun u H3=>r x l u H3 Q
theorem Qa0 {r:V -> Option Int -> Option Int -> Hp -> VK -> Prop} (hr:SlR X r) (he:PE X e te) (hl:PO X lo tl) (hu:PO X hi th):PE X (.Subscript e (.Slice lo hi none p2) pos) (tSl r te tl th):=by
  intro pins s σ H Q I h
  refine Subscript_ (thn (he pins s σ H _ I h) fun v s1 ⟨x,H1,I1,r1,q1⟩=>?_)
  refine wpAny_Slice (thn (hl pins s1 σ H1 _ I1 q1) fun vl s2 ⟨l,H2,I2,pl,q2⟩=>thn (hu pins s2 σ H2 _ I2 q2) fun vu s3 ⟨u,H3,I3,pu,q3⟩=>?_)
  rw [evalPart_none]
  refine wpAny_pure ?_
  have I4:Inv X pins σ H3 { s3 with heap:=s3.heap.push { cls:=.type "slice", data:=.fields #[vl,vu,.none] } }:=I3.kept (t':=s3.toks) fun b ob q=>Heap.get?_push_of_some _ q
  obtain ⟨T,id,hT,ht,hg⟩:=hr pins { s3 with heap:=s3.heap.push { cls:=.type "slice", data:=.fields #[vl,vu,.none] } } σ H3 x v vl vu l u s3.heap.objs.size Q I4 r1 (Heap.IsSliceOf.new ..) pl pu q3
  show wpAny (model X.prog X.w) X.A (subscriptTail e (.Slice lo hi none p2) v (.ref s3.heap.objs.size)) (EP X pins σ Q) X.xe { s3 with heap:=s3.heap.push { cls:=.type "slice", data:=.fields #[vl,vu,.none] } }
  exact tail_any (ops:=[.ref s3.heap.objs.size,v]) ht hT hg (by with_unfolding_all rfl)
def KZ (xs:List V) (lo hi:Option Int):List V:=(xs.drop (HT.sIx xs.length 0 lo)).take (HT.sIx xs.length xs.length hi - HT.sIx xs.length 0 lo)
theorem xx (xs:List V) (lo hi:Option Int):(KZ xs lo hi).length <= xs.length:=by
  unfold KZ
  rw [List.length_take,List.length_drop]
  omega
def QfO (K:PySem.W.Frag):V -> Option Int -> Option Int -> Hp -> VK -> Prop:=fun x lo hi H Q=>∃ a xs,x = .ref a /\ SqT K H a xs /\
  ¬ (HT.sIx xs.length 0 lo = 0 /\ HT.sIx xs.length xs.length hi = xs.length) /\ ∀ p,H p = none -> Q (.ref p) (upd H p (.tup (KZ xs lo hi)))
theorem Qej:SlR X (QfO X.K):=by
  intro pins s σ H x v vl vu lo hi sl Q I rx hs pl pu h
  obtain ⟨a,xs,rfl,hx,hw,q⟩:=h
  cases rx
  obtain ⟨its,r,ht,hz⟩:=I.tuple hx
  have hlen:its.toArray.size = xs.length:=by rw [List.size_toArray];exact r.length.symm
  refine ⟨"tuple", _,PyProof.Rows.slot_tuple_getitem.lookup,ht.typeIs,?_⟩
  refine HT.getItem_tuple_cut ht hs pl pu (by rw [hlen];exact hw) ?_ (by rw [hlen];exact hz)
  rw [hlen]
  refine ⟨.ref s.heap.objs.size,_,I.laid (t':=s.toks) (o:=.tup (KZ xs lo hi)) (fun b ob q=>Heap.get?_push_of_some _ q) (Nat.le_refl _) ?_,rfl,q _ (I.hok.fresh (Nat.le_refl _))⟩
  exact ⟨Nat.le_trans (xx xs lo hi) hz,_,(r.drop (HT.sIx xs.length 0 lo)).take (HT.sIx xs.length xs.length hi - HT.sIx xs.length 0 lo),IsTup.new _ _⟩
def Qfc (K:PySem.W.Frag):R2:=fun x y H Q=>∃ a b xs ys,x = .ref a /\ y = .ref b /\ SqT K H a xs /\ SqT K H b ys /\ xs ≠ [] /\ xs.length + ys.length <= sizeLine /\
  (ys = [] -> Q (.ref a) H) /\ (ys ≠ [] -> ∀ p,H p = none -> Q (.ref p) (upd H p (.tup (xs ++ ys))))
theorem Vals.nil_iff {xs:List V} {us:List Value} (r:Vals xs us):us = [] ↔ xs = []:=by
  cases r with
  | nil=>simp
  | cons _ _=>simp
theorem Qb9:OpR X (binaryOp .Add) (Qfc X.K):=by
  intro pins s σ H x y v u Q I rx ry h
  obtain ⟨a,b,xs,ys,rfl,rfl,ha,hb,hx,hz,q1,q2⟩:=h
  cases rx
  cases ry
  obtain ⟨its,r1,p1,_⟩:=I.tuple ha
  obtain ⟨its2,r2,p2,_⟩:=I.tuple hb
  refine HT.cat_tup p1 p2 (fun z=>hx (r1.nil_iff.mp z)) (fun z=>⟨.ref a,H,I,rfl,q1 (r2.nil_iff.mp z)⟩) (fun z=>?_) (by rw [<- r1.length,<- r2.length];exact hz)
  refine ⟨.ref s.heap.objs.size,_,I.laid (t':=s.toks) (o:=.tup (xs ++ ys)) (fun b ob q=>Heap.get?_push_of_some _ q) (Nat.le_refl _) ?_,rfl,q2 (fun w=>z (r2.nil_iff.mpr w)) _ (I.hok.fresh (Nat.le_refl _))⟩
  exact ⟨by rw [List.length_append];exact hz,_,r1.append r2,IsTup.new _ _⟩
end
end L2
namespace L2
open PySem PySem.Spec PyProof.Rows
def ixN (n:Nat) (i:Int):Option Nat:=if 0 <= i then (if i < n then some i.toNat else none) else if -(n:Int) <= i then some (i + n).toNat else none
def atI {α:Type} (xs:List α) (i:Int):Option α:=(ixN xs.length i).bind fun j=>xs[j]?
theorem uF {n:Nat} {i:Int} {j:Nat} (h:ixN n i = some j):seqIndex? i n = some j /\ j < n /\ -(n:Int) <= i /\ i < n:=by
  unfold ixN at h
  by_cases h0:0 <= i
  . rw [if_pos h0] at h
    by_cases h1:i < n
    . rw [if_pos h1] at h
      have e:i.toNat = j:=Option.some.inj h
      exact ⟨by rw [seqIndex_of h0 h1,e],by omega,by omega,h1⟩
    . rw [if_neg h1] at h;cases h
  . rw [if_neg h0] at h
    by_cases h1:-(n:Int) <= i
    . rw [if_pos h1] at h
      have e:(i + n).toNat = j:=Option.some.inj h
      exact ⟨by rw [seqIndex_neg (by omega) h1,e],by omega,h1,by omega⟩
    . rw [if_neg h1] at h;cases h
theorem v9 {α:Type} {xs:List α} {i:Int} {v:α} (h:atI xs i = some v):∃ j,seqIndex? i xs.length = some j /\ xs[j]? = some v /\ j < xs.length /\ -(xs.length:Int) <= i /\ i < xs.length:=by
  unfold atI at h
  cases e:ixN xs.length i with
  | none=>rw [e] at h;cases h
  | some j =>
    rw [e] at h
    obtain ⟨h1,h2,h3,h4⟩:=uF e
    exact ⟨j,h1,h,h2,h3,h4⟩
theorem Y6 {α:Type} {xs:List α} {j:Nat} {v:α} (h:xs[j]? = some v):atI xs (j:Int) = some v:=by
  have hj:j < xs.length:=(List.getElem?_eq_some_iff.mp h).1
  have e:ixN xs.length (j:Int) = some j:=by
    unfold ixN
    rw [if_pos (by omega),if_pos (by omega)];simp
  unfold atI;rw [e];exact h
def UL (b:Expr):Prop:=∀ o i,subscripted b false o i = operate [o,i] (getItem o i)
def IxR (X:Cx) (r:R2):Prop :=
  ∀ (value slice : Expr) (pins : List (Addr × Obj)) (s : Shared) (σ : St) (H : Hp) (x y : V) (v u : Value) (Q : VK), Inv X pins σ H s -> RelV x v -> RelV y u -> r x y H Q ->
    subscripted slice false v u = operate [v,u] (getItem v u) -> wpAny (model X.prog X.w) X.A (subscriptTail value slice v u) (EP X pins σ Q) X.xe s
def MtR (X:Cx) (id:String) (r:V -> List V -> Hp -> VK -> Prop):Prop :=
  ∀ (pins : List (Addr × Obj)) (s : Shared) (σ : St) (H : Hp) (x : V) (xs : List V) (v : Value) (us : List Value) (Q : VK), Inv X pins σ H s -> RelV x v -> Vals xs us -> r x xs H Q ->
    wpAny (model X.prog X.w) X.A (call (.builtin id) (v :: us)) (EP X pins σ Q) X.xe s
section
variable {X:Cx} {a b:Expr} {ta tb:TE} {pos:Pos}
theorem Qda {r:R2} (hr:IxR X r) (ha:PE X a ta) (hb:PE X b tb) (hs:UL b):PE X (.Subscript a b pos) (tOp r ta tb):=by
  intro pins s σ H Q I h
  exact Subscript_ (Qdk ha hb I h fun v u s2 x y H2 I2 rx ry q=>hr a b pins s2 σ H2 x y v u Q I2 rx ry q (hs _ _))
def QfL (K:PySem.W.Frag):R2:=fun x y H Q=>∃ p xs i v,x = .ref p /\ y = .int i /\ SqL K H p xs /\ atI xs i = some v /\ Q v H
def QfM (K:PySem.W.Frag):R2:=fun x y H Q=>∃ p xs i v,x = .ref p /\ y = .int i /\ SqT K H p xs /\ atI xs i = some v /\ Q v H
theorem uG:IxR X (QfL X.K):=by
  intro value slice pins s σ H x y v u Q I rx ry h hs
  obtain ⟨p,xs,i,z,rfl,rfl,hq,he,q⟩:=h
  cases rx
  obtain ⟨t,rfl⟩:=ry
  obtain ⟨its,r,pl,hz⟩:=I.list hq
  obtain ⟨j,h1,h2,h3,h4,h5⟩:=v9 he
  obtain ⟨w,ew,rw'⟩:=r.get h2
  have hl:=r.length
  have hn:=Kh
  have fin:EP X pins σ Q w s:=⟨z,H,I,rw',q⟩
  by_cases h0:0 <= i
  . have hj:i.toNat = j:=by
      rw [seqIndex_of h0 h5] at h1
      exact Option.some.inj h1
    exact item_listR pl.isList h0 (by omega) (by rw [hj];simpa using ew) fin hs
  . have hj:(i + (its.toArray.size:Int)).toNat = j:=by
      rw [seqIndex_neg (by omega) h4] at h1
      rw [List.size_toArray,<- hl]
      exact Option.some.inj h1
    exact subscriptTail_builtinR (x:=w) pl.isList.typeIs slot_list_getitem.lookup
      (wpAny_getItem_list_neg (Q:=fun r s'=>r = w /\ EP X pins σ Q r s') pl.isList (by omega) (by rw [List.size_toArray] <;> omega) (by omega) (by rw [hj];simpa using ew) ⟨rfl,fin⟩) hs
theorem Qdy:IxR X (QfM X.K):=by
  intro value slice pins s σ H x y v u Q I rx ry h hs
  obtain ⟨p,xs,i,z,rfl,rfl,hq,he,q⟩:=h
  cases rx
  obtain ⟨t,rfl⟩:=ry
  obtain ⟨its,r,pl,hz⟩:=I.tuple hq
  obtain ⟨j,h1,h2,h3,h4,h5⟩:=v9 he
  obtain ⟨w,ew,rw'⟩:=r.get h2
  have hl:=r.length
  have hn:=Kh
  have fin:EP X pins σ Q w s:=⟨z,H,I,rw',q⟩
  exact subscriptTail_builtinR (x:=w) pl.typeIs slot_tuple_getitem.lookup
    (getItem_tuple (j:=j) (Q:=fun r s'=>r = w /\ EP X pins σ Q r s') pl (by omega) (by omega) (by rw [List.size_toArray,<- hl];exact h1) (by simpa using ew) ⟨rfl,fin⟩) hs
theorem vE (its:List Value) (n j:Nat) (u:Value):Obj.mapSeq (·.setIfInBounds j u) { cls:=.type "list", data:=.seq its.toArray n } = { cls:=.type "list", data:=.seq (its.set j u).toArray n }:=by
  simp [Obj.mapSeq]
theorem Inv.lst {pins:List (Addr × Obj)} {σ:St} {H:Hp} {s:Shared} {p:Addr} {xs:List V} (I:Inv X pins σ H s) (h:H p = some (.lst xs)) :
    ∃ (its:List Value) (n:Nat),Vals xs its /\ s.heap.get? p = some { cls:=.type "list", data:=.seq its.toArray n } /\ xs.length <= sizeLine:=by
  obtain ⟨z,its,n,r,e⟩:=I.hok p _ h
  exact ⟨its,n,r,e,z⟩
theorem Inv.lstUpd {pins:List (Addr × Obj)} {σ:St} {H:Hp} {s:Shared} {p:Addr} {xs ys:List V} {its its':List Value} {n n':Nat} {f:Obj -> Obj} (I:Inv X pins σ H s) (h:H p = some (.lst xs))
    (ho:s.heap.get? p = some { cls:=.type "list", data:=.seq its.toArray n }) (hf:f { cls:=.type "list", data:=.seq its.toArray n } = { cls:=.type "list", data:=.seq its'.toArray n' }) (r:Vals ys its') (hz:ys.length <= sizeLine) (t:Nat) :
    Inv X pins σ (upd H p (.lst ys)) { s with heap:=s.heap.update p f,toks:=t }:=by
  have e:(s.heap.update p f).get? p = some { cls:=.type "list", data:=.seq its'.toArray n' }:=by
    rw [Heap.get?_update_self f ho (by rw [hf] <;> rfl),hf]
  refine I.write (x:=p) (e:=p) (by rw [h];trivial) (.inl rfl) (fun b u hb q=>(Heap.get?_update_other _ _ (Ne.symm hb)).trans q) ⟨_,e⟩ ?_
  exact ⟨hz,its',n',r,e⟩
def Qff:V -> V -> V -> Hp -> (Hp -> Prop) -> Prop:=fun o i v H Q=>∃ p xs k j,o = .ref p /\ i = .int k /\ H p = some (.lst xs) /\ ixN xs.length k = some j /\ Q (upd H p (.lst (xs.set j v)))
theorem Qbk:QbF X Qff:=by
  intro pins s σ H o i v ov iv u Q I ro ri rv h
  obtain ⟨p,xs,k,j,rfl,rfl,hp,hj,q⟩:=h
  cases ro
  obtain ⟨t,rfl⟩:=ri
  obtain ⟨its,n,r,ho,hz⟩:=I.lst hp
  obtain ⟨h1,h2,h3,h4⟩:=uF hj
  have hl:=r.length
  have hn:=Kh
  have I':Inv X pins σ (upd H p (.lst (xs.set j v))) { s with heap:=s.heap.update p (Obj.mapSeq (·.setIfInBounds j u)) } :=
    I.lstUpd hp ho (vE its n j u) (r.set rv j) (by rw [List.length_set];exact hz) s.toks
  by_cases h0:0 <= k
  . have hk:k.toNat = j:=by
      rw [seqIndex_of h0 h4] at h1
      exact Option.some.inj h1
    exact PySem.W.ki_setAt ho h0 (by omega) (by rw [List.size_toArray,<- hl];exact h4) (by rw [hk];exact ⟨_,I',q⟩)
  . have hk:(k + (its.toArray.size:Int)).toNat = j:=by
      rw [seqIndex_neg (by omega) h3] at h1
      rw [List.size_toArray,<- hl]
      exact Option.some.inj h1
    exact PySem.W.ki_setBack ho (by omega) (by rw [List.size_toArray,<- hl];exact h3) (by omega) (by rw [hk];exact ⟨_,I',q⟩)
theorem KD (lo hi:Option Int) (n:Nat):(sliceBounds lo hi none n).1 = ((HT.sIx n 0 lo:Nat):Int) /\ (sliceBounds lo hi none n).2.1 = ((HT.sIx n n hi:Nat):Int) /\ (sliceBounds lo hi none n).2.2 = 1:=by
  refine ⟨?_,?_,rfl⟩
  . cases lo with
    | none=>simp [sliceBounds,HT.sIx]
    | some i =>
      simp only [sliceBounds,HT.sIx,Option.getD_none,show (1:Int) > 0 by decide,if_true]
      by_cases h:i < 0
      . simp only [h,if_true] <;> omega
      . simp only [h,if_false] <;> omega
  . cases hi with
    | none=>simp [sliceBounds,HT.sIx]
    | some i =>
      simp only [sliceBounds,HT.sIx,Option.getD_none,show (1:Int) > 0 by decide,if_true]
      by_cases h:i < 0
      . simp only [h,if_true] <;> omega
      . simp only [h,if_false] <;> omega
theorem VW (its:List Value) (lo hi:Option Int):slicePick its.toArray lo hi none = ((its.drop (HT.sIx its.length 0 lo)).take (HT.sIx its.length its.length hi - HT.sIx its.length 0 lo)).toArray:=by
  obtain ⟨h1,h2,h3⟩:=KD lo hi its.toArray.size
  unfold slicePick
  rw [h1,h2,h3]
  simp only [sliceRange_one,pick_run,List.size_toArray] <;> rfl
def QfN (K:PySem.W.Frag):V -> Option Int -> Option Int -> Hp -> VK -> Prop:=fun x lo hi H Q=>∃ a xs,x = .ref a /\ SqL K H a xs /\ ∀ p,H p = none -> Q (.ref p) (upd H p (.lst (KZ xs lo hi)))
theorem QcM:SlR X (QfN X.K):=by
  intro pins s σ H x v vl vu lo hi sl Q I rx hs pl pu h
  obtain ⟨a,xs,rfl,hx,q⟩:=h
  cases rx
  obtain ⟨its,r,ht,hz⟩:=I.list hx
  have hlen:=r.length
  refine ⟨"list", _,slot_list_getitem.lookup,ht.isList.typeIs,?_⟩
  refine wpAny_getItem_list_slice ht.isList hs pl pu .none (by simp) ?_ (by rw [List.size_toArray] <;> omega)
  rw [VW,<- hlen]
  refine ⟨.ref s.heap.objs.size,_,I.laid (t':=s.toks) (o:=.lst (KZ xs lo hi)) (fun b ob q=>Heap.get?_push_of_some _ q) (Nat.le_refl _) ?_,rfl,q _ (I.hok.fresh (Nat.le_refl _))⟩
  exact ⟨Nat.le_trans (xx xs lo hi) hz,_,0,(r.drop (HT.sIx xs.length 0 lo)).take (HT.sIx xs.length xs.length hi - HT.sIx xs.length 0 lo),Heap.get?_push_size _ rfl⟩
theorem Y8:X0 X (.builtin "len") (fun xs H Q=>∃ p ys,xs = [.ref p] /\ (SqL X.K H p ys ∨ SqT X.K H p ys) /\ Q (.int ys.length) H):=by
  intro pins s σ H xs us Q I r h
  obtain ⟨p,ys,rfl,hq,q⟩:=h
  obtain ⟨u,rfl,rx⟩:=Uz r
  cases rx
  have hn:=Kh
  rcases hq with hq | hq
  . obtain ⟨its,r',pl,hz⟩:=I.list hq
    have hlen:=r'.length
    exact Calls.call_len_list pl.isList (by simp only [List.size_toArray] <;> omega) ⟨.int ys.length,H,I.tok _,⟨s.toks + 1,by rw [List.size_toArray,hlen]⟩,q⟩
  . obtain ⟨its,r',pl,hz⟩:=I.tuple hq
    have hlen:=r'.length
    exact len_tuple pl (by simp only [List.size_toArray] <;> omega) ⟨.int ys.length,H,I.tok _,⟨s.toks + 1,by rw [List.size_toArray,hlen]⟩,q⟩
theorem Yw:X0 X (.type "tuple") (fun xs H Q=>∃ p ys,xs = [.ref p] /\ ((SqL X.K H p ys /\ ∀ l,H l = none -> Q (.ref l) (upd H l (.tup ys))) ∨ (SqT X.K H p ys /\ Q (.ref p) H))):=by
  intro pins s σ H xs us Q I r h
  obtain ⟨p,ys,rfl,h⟩:=h
  obtain ⟨u,rfl,rx⟩:=Uz r
  cases rx
  rcases h with ⟨hq,q⟩ | ⟨hq,q⟩
  . obtain ⟨its,r',pl,hz⟩:=I.list hq
    have hlen:=r'.length
    refine call_tuple_list pl.isList (fun h' kp=>?_) (by simp only [List.size_toArray] <;> omega)
    have I1:Inv X pins σ H { s with heap:=h' }:=I.kept (t':=s.toks) kp
    have I2:Inv X pins σ (upd H h'.objs.size (.tup ys)) { s with heap:=h'.push { cls:=.type "tuple", data:=.seq its.toArray } } :=
      I1.laid (t':=s.toks) (fun b o e=>Heap.get?_push_of_some _ e) (Nat.le_refl _) (show ObjOk X.prog X.w _ _ _ (.tup ys) from ⟨hz,its,r',IsTup.new _ _⟩)
    exact ⟨.ref h'.objs.size,_,I2,rfl,q _ (I1.hok.fresh (Nat.le_refl _))⟩
  . obtain ⟨its,r',pl,hz⟩:=I.tuple hq
    exact call_tuple_same pl ⟨.ref p,H,I,rfl,q⟩
def tyV (K:PySem.W.Frag) (T:String) (x:V) (H:Hp):Prop:=match x with
  | .str _=>T = "str"
  | .int _=>T = "int"
  | .ref p=>(T = "list" /\ ∃ xs,SqL K H p xs) ∨ (T = "tuple" /\ ∃ o,K.lookup p = some o /\ o.cls = .type "tuple" /\ o.dict = none) ∨
      (T = "dict" /\ ((∃ kvs,H p = some (.dK kvs)) ∨ ∃ kvs,H p = some (.dT kvs))) ∨ (T = "set" /\ ∃ S n,H p = some (.set S n))
  | _=>False
theorem Qer {pins:List (Addr × Obj)} {σ:St} {H:Hp} {s:Shared} {T:String} {x:V} {v:Value} (I:Inv X pins σ H s) (r:RelV x v) (ty:tyV X.K T x H) :
    s.TypeIs v T /\ ∀ a,v = .ref a -> ∃ ob,s.heap.get? a = some ob /\ ob.dict = none:=by
  cases x with
  | str z =>
    obtain ⟨t,rfl⟩:=r
    cases (show T = "str" from ty)
    exact ⟨typeIs_str s z t,fun _ e=>nomatch e⟩
  | int i =>
    obtain ⟨t,rfl⟩:=r
    cases (show T = "int" from ty)
    exact ⟨typeIs_int s i t,fun _ e=>nomatch e⟩
  | ref p =>
    cases r
    rcases ty with ⟨rfl,xs,hq⟩ | ⟨rfl,o,hk,hc,hd⟩ | ⟨rfl,hk⟩ | ⟨rfl,S,n,hk⟩
    . obtain ⟨its,_,pl,_⟩:=I.list hq
      refine ⟨pl.isList.typeIs,fun a e=>?_⟩
      cases e
      obtain ⟨o,n,e,c,hd,_⟩:=pl
      exact ⟨o,e,hd⟩
    . refine ⟨⟨o,I.kIn p o hk,hc⟩,fun a e=>?_⟩
      cases e
      exact ⟨o,I.kIn _ o hk,hd⟩
    . have z:∃ o,s.heap.get? p = some o /\ o.ExactDict:=by
        rcases hk with ⟨kvs,hk⟩ | ⟨kvs,hk⟩
        . obtain ⟨_,_,_,_,o,_,_,e,ex,_⟩:=I.hok p _ hk
          exact ⟨o,e,ex⟩
        . obtain ⟨_,_,_,_,o,_,_,e,ex,_⟩:=I.hok p _ hk
          exact ⟨o,e,ex⟩
      obtain ⟨o,e,ex⟩:=z
      refine ⟨⟨o,e,ex.1⟩,fun a e2=>?_⟩
      cases e2
      exact ⟨o,e,ex.2.1⟩
    . obtain ⟨o,_,_,_,e,ex,_⟩:=I.hok p _ hk
      refine ⟨⟨o,e,ex.1⟩,fun a e2=>?_⟩
      cases e2
      exact ⟨o,e,ex.2.1⟩
  | _=>exact False.elim ty
def tBM (K:PySem.W.Frag) (T:String) (r:V -> List V -> Hp -> VK -> Prop) (to:TE) (t:TA):TE:=fun σ H Q=>to σ H fun x H1=>tyV K T x H1 /\ t σ H1 fun xs H2=>r x xs H2 Q
variable {o e:Expr} {es:List Expr} {to:TE} {t:TA} {name:Str} {apos cpos:Pos} {T id:String} {r:V -> List V -> Hp -> VK -> Prop}
theorem Qe8 (pa:PlainAttrs T) (slot:Slot T name id) (hty:typeOf (.builtin id) = pure (.type "method_descriptor")) (hm:MtR X id r) (ho:PE X o to) (ha:PA X (e :: es) t)
    (hbase:attributeBase o name X.env (eval o X.env) = eval o X.env:=by rfl)
    (hfew:((backTo cpos (starEach (e :: es) X.env)).all (fun x=>!x.1) && (backToKw cpos (keywordEach [] X.env)).all (fun x=>x.1.isSome)
      && decide ((e :: es).length + ([]:List Keyword).length + (if ([]:List Keyword).isEmpty then 0 else 1) < 30)) = true:=by rfl)
    (hline:(apos.endLine == cpos.line) = true:=by rfl) (hs:starEach (e :: es) X.env = (false,eval e X.env) :: starEach es X.env:=by rfl) (hplain:(backTo cpos (starEach es X.env)).any (·.1) = false:=by rfl) :
    PE X (.Call (.Attribute o name apos) (e :: es) [] cpos) (tBM X.K T r to t):=by
  intro pins s σ H Q I h
  refine wpAny_Call_method_late hbase hfew hline rfl (thn (ho pins s σ H _ I h) fun v s1 ⟨x,H1,I1,r1,ty,q1⟩=>?_)
  obtain ⟨h1,h2⟩:=Qer I1 r1 ty
  refine ⟨T,id,pa,slot,hty,h1,h2,?_⟩
  have hA:=ha cpos pins s1 σ H1 _ I1 q1
  rw [hs] at hA ⊢
  refine Calls.callWith_builtin (by show (false || (backTo cpos (starEach es X.env)).any (·.1)) = false;rw [hplain] <;> rfl) (Calls.evalArgs_plain ?_)
  exact thn hA fun us s2 ⟨vs,H2,I2,r2,q2⟩=>hm pins s2 σ H2 x vs v us Q I2 r1 r2 q2
/- xs.append(e),list.index on a module's tuple .. are MtR facts of 06m -/
end
end L2
namespace L2
open PySem PySem.Spec PyProof.Rows
def MtM (X:Cx) (id:String) (r:V -> List V -> Hp -> VK -> Prop):Prop :=
  ∀ (pins : List (Addr × Obj)) (s : Shared) (σ : St) (H : Hp) (x : V) (xs : List V) (v : Value) (us : List Value) (Q : VK), Inv X pins σ H s -> RelV x v -> Vals xs us -> r x xs H Q ->
    wpAny (model X.prog X.w) X.A (call (.builtin id) (v :: us)) (EP X pins σ Q) X.xe s
theorem Vals.one:∀ {x:V} {us:List Value},Vals [x] us -> ∃ u,us = [u] /\ RelV x u
  | _,_,.cons r .nil=>⟨_,rfl,r⟩
section
variable {X:Cx} {pins:List (Addr × Obj)} {σ:St} {H:Hp} {s:Shared} {l b:Addr} {xs ys zs:List V}
theorem Inv.lset {its its':List Value} {n:Nat} {f:Array Value -> Array Value} {t':Nat} (I:Inv X pins σ H s) (hH:H l = some (.lst xs))
    (e:s.heap.get? l = some { cls:=.type "list", data:=.seq its.toArray n }) (hf:f its.toArray = its'.toArray) (hv:Vals ys its') (hz:ys.length <= sizeLine) :
    Inv X pins σ (upd H l (.lst ys)) { s with heap:=s.heap.update l (Obj.mapSeq f),toks:=t' }:=by
  have q:=PySem.IsL.update e f
  rw [hf] at q
  refine I.write (x:=l) (e:=l) (by rw [hH];exact trivial) (.inl rfl) (fun b' u hb hu=>(Heap.get?_update_other s.heap (Obj.mapSeq f) (Ne.symm hb)).trans hu) ⟨_,q⟩ ?_
  exact ⟨hz,its',_,hv,q⟩
theorem Inv.lnew {its:List Value} {t':Nat} (I:Inv X pins σ H s) (hv:Vals ys its) (hz:ys.length <= sizeLine) :
    Inv X pins σ (upd H s.heap.objs.size (.lst ys)) { s with heap:=s.heap.push { cls:=.type "list", data:=.seq its.toArray },toks:=t' } :=
  I.laid (fun _ _ q=>Heap.get?_push_of_some _ q) (Nat.le_refl _) ⟨hz,its,0,hv,Heap.get?_push_size _ rfl⟩
theorem Inv.fresh (I:Inv X pins σ H s):H s.heap.objs.size = none:=I.hok.fresh (Nat.le_refl _)
theorem Inv.lstM (I:Inv X pins σ H s) (hH:H l = some (.lst xs)):xs.length <= sizeLine /\ ∃ (its:List Value) (n:Nat),Vals xs its /\ xs.length = its.length /\ s.heap.get? l = some { cls:=.type "list", data:=.seq its.toArray n }:=by
  obtain ⟨z,its,n,r,e⟩:=I.hok l _ hH
  exact ⟨z,its,n,r,r.length,e⟩
theorem QaN {n:Nat} (h:n <= sizeLine):Builtin.List.listTooLong n = false:=by
  unfold Builtin.List.listTooLong
  exact decide_eq_false (by omega)
end
section
variable {X:Cx}
def QcB:V -> List V -> Hp -> VK -> Prop:=fun x vs H Q=>∃ l xs y,x = .ref l /\ vs = [y] /\ H l = some (.lst xs) /\ xs.length < sizeLine /\ Q .non (upd H l (.lst (xs ++ [y])))
theorem Ug:MtM X "list.append" QcB:=by
  intro pins s σ H x vs v us Q I rx rv h
  obtain ⟨l,xs,y,rfl,rfl,hH,hz,q⟩:=h
  cases rx
  obtain ⟨u,rfl,ru⟩:=rv.one
  obtain ⟨z,its,n,r,hl,e⟩:=I.lstM hH
  refine call_meets F.slot_list_append ⟨_,e,rfl⟩ F.entry_list_append (F.args_list_append_2 _ _) (PySem.list_append l its.toArray n u (by rw [List.size_toArray];omega)) ⟨e,?_⟩
  refine ⟨.non,_,I.lset (its':=its ++ [u]) hH e (by simp) (r.append (.cons ru .nil)) ?_,rfl,q⟩
  rw [List.length_append,List.length_singleton]
  omega
def QcC:V -> List V -> Hp -> VK -> Prop:=fun x vs H Q=>∃ l b xs zs,x = .ref l /\ vs = [.ref b] /\ H l = some (.lst xs) /\ H b = some (.lst zs) /\ xs.length + zs.length <= sizeLine /\ Q .non (upd H l (.lst (xs ++ zs)))
theorem gK:MtM X "list.extend" QcC:=by
  intro pins s σ H x vs v us Q I rx rv h
  obtain ⟨l,b,xs,zs,rfl,rfl,hH,hB,hz,q⟩:=h
  cases rx
  obtain ⟨u,rfl,ru⟩:=rv.one
  cases ru
  obtain ⟨z,its,n,r,hl,e⟩:=I.lstM hH
  obtain ⟨z2,its2,n2,r2,hl2,e2⟩:=I.lstM hB
  have hsz:its.toArray.size + its2.toArray.size <= sizeLine:=by rw [List.size_toArray,List.size_toArray];omega
  have hlong:¬ (!its.toArray.isEmpty && Builtin.List.listTooLong (its.toArray.size + its2.toArray.size)) = true:=by
    rw [QaN hsz,Bool.and_false]
    exact Bool.false_ne_true
  refine call_meets F.slot_list_extend ⟨_,e,rfl⟩ F.entry_list_extend (F.args_list_extend_2 _ _)
    (AutoSeq1.list_extend_list_list_0 l its.toArray n b its2.toArray n2 hlong (by rw [List.size_toArray];omega) (by omega)) ⟨e,e2,?_⟩
  refine ⟨.non,_,I.lset (its':=its ++ its2) hH e (by simp) (r.append r2) ?_,rfl,q⟩
  rw [List.length_append]
  omega
end
section
variable {prog:Program} {w:World} {A:Around} {E:Value -> Shared -> Prop} {s:Shared}
end
section
variable {X:Cx}
end
end L2
namespace Att
open PySem PySem.W PySem.Calls PyProof.Rows
theorem x8 {P:Params} {h:Heap}:∀ (ns:List Int) (vs:List Value),WellAll P h vs (ns.map WData.int) -> IntsAre vs ns:=by
  intro ns
  induction ns with
  | nil =>
    intro vs w
    rw [List.map_nil] at w
    cases w
    exact .nil
  | cons n ns ih =>
    intro vs w
    rw [List.map_cons] at w
    cases w with
    | cons a b =>
      cases a
      exact .cons _ _ (ih _ b)
theorem ki {l:OpenLaw} {n:Nat} (hn:l.most = some n) {P:Params} {h:Heap} {args:List WData} {vals:List Value}
    (hpre:l.row.toRowW.claim.pre args = true) (hwl:WellAll P h vals args) :
    ∃ a vs ns,vals = [Value.ref a] /\ args = [WData.list (ns.map WData.int)] /\ h.get? a = some { cls:=.type "list", data:=.seq vs.toArray } /\ IntsAre vs ns /\ ns.length <= n:=by
  have hsh:WShape.hasAll [] args [.list .int] = true:=(pre_splitW hpre).1
  have hc:l.pre.holds [] { args:=args } = true:=(pre_splitW hpre).2
  obtain ⟨d,r,rfl,h1,h2⟩:=hasAllW_cons hsh
  obtain rfl:=hasAllW_nil h2
  obtain ⟨xs,rfl,h3⟩:=hasW_list h1
  obtain ⟨ns,rfl⟩:=items_int h3
  have hlen:ns.length <= n:=by
    unfold OpenLaw.pre at hc
    have h4:(WTm.not (.lt (.lit (.int (n:Int))) (.len (.arg 0)))).holds [] { args:=[.list (ns.map .int)] } = true:=by
      have h4:=(holds_andW hc).1
      rw [hn] at h4
      exact h4
    have h5:=condW_of h4 (w_not (w_lt w_lit (w_len_list (w_arg rfl))))
    rw [List.length_map] at h5
    refine Nat.le_of_not_lt fun q=>?_
    have q':(n:Int) < ((ns.length:Nat):Int):=by omega
    first
      | (rw [decide_eq_true q'] at h5;exact absurd h5 (by decide))
      | (simp at h5;omega)
  cases hwl with
  | cons w1 w2 =>
    cases w2
    cases w1 with
    | list ho hall=>exact ⟨_,_,ns,rfl,rfl,ho,x8 ns _ hall,hlen⟩
theorem gW (l:OpenLaw) (args:List WData):l.row.toRowW.claim.post args (.bool true) args = true :=
  postW_of (r:=l.row.toRowW) (X:=(true == true))
    (show WShape.has [] (.bool true) .bool = true by first | rfl | decide | simp [WShape.has,WShape.arms,WShape.armsAll])
    (show (WTm.eq .res (.lit (.bool true))).value [] { args:=args,res:=some (.bool true),after:=args } = some (.bool (true == true)) from w_eq_bool (w_res rfl) w_lit) rfl
theorem attach_call {l:OpenLaw} {n:Nat} {q:Program} {loose:List Str} {XP:(Str -> Option Value) -> Heap -> Prop} {YP:World -> Heap -> Prop} {d:DefRec}
    (hn:l.most = some n) (hdf:d.params.defaults = [])
    (call:∀ (w:World) (s₀ s₁:Shared) (mg mb:Str -> Option Value) (fa:Addr) (o:Obj) (pm cd doc:Value) (a:Addr) (vs:List Value) (ns:List Int),
      Ground q loose [] XP w s₀ mg mb s₁.heap -> YP w s₁.heap ->
      s₁.heap.get? fa = some o -> o.data = .func (docDef d.name d.params d.body d.scope pm cd doc) -> s₁.heap.CodeRec cd d.name -> mg d.name = some (.ref fa) ->
      s₁.heap.get? a = some { cls:=.type "list", data:=.seq vs.toArray } -> IntsAre vs ns -> ns.length <= n -> s₁.gens = #[] ->
      codeAny (model l.prog w) callerA (.call (.ref fa) ⟨[.ref a],[]⟩) (fun r s'=>r = .ok (.ret (.bool true)) /\ OldK s₁.heap s'.heap /\ s'.os = s₁.os /\ AllBare s'.gens) s₁) :
    WalkO q loose XP YP l.row.toRowW d [] (fun f vs=>PySem.call f vs):=by
  intro w s₀ s₁ mg mb G Y fa o pm cd doc dV kV ho hd hcd hD hmg hg args vals as hpre hlay hrd hwl hlo
  obtain rfl:dV = .none:=Dflts.none hD hdf
  obtain rfl:kV = .none:=Dflts.noKw hD
  obtain ⟨a,vs,ns,rfl,rfl,hobj,hints,hlen⟩:=ki hn hpre hwl
  refine enter_call (codeAny_mono (call w s₀ s₁ mg mb fa o pm cd doc a vs ns G Y ho (fd_plain hd) hcd hmg hobj hints hlen hg) fun r s' hq=>?_)
  obtain ⟨rfl,h2,h3,h4⟩:=hq
  exact ⟨.inl ⟨.bool true,.bool true,[],rfl,fun _=>rfl,.bool true,gW l _,fun _=>⟨List.Pairwise.nil,fun _ hm=>(nomatch hm)⟩⟩,h2,h3,h4⟩
section
variable {prog:Program} {w:World} {A:Around} {E:Value -> Shared -> Prop} {s:Shared} {K:Frag}
def QfF (h:Heap) (L d:Addr):List (Addr × Obj):=(List.range h.objs.size).filterMap fun a=>if a = L ∨ a = d then none else (h.get? a).map fun o=>(a,o)
end
end Att
namespace L2
open PySem PySem.Spec PyProof.Rows
theorem UA:∀ {vs:List Value} {ns:List Int},IntsAre vs ns -> Vals (ns.map V.int) vs
  | _,_,.nil=>.nil
  | _,_,.cons n t h=>.cons ⟨t,rfl⟩ (UA h)
def Qdh (H:Hp):Prop:=∀ b,H b = none ∨ ∃ o xs,H b = some (.frz o (.lst xs))
theorem Qay {P:Program} {w:World} {K:PySem.W.Frag} {mg mb:Str -> Option Value} {CX:CXT} {k:Nat} {fa a:Addr} {fd:FuncData} {x:Str} {sp:Sp} {s₁:Shared} {vs:List Value} {ns:List Int}
    (KX:K.In s₁.heap) (hns:s₁.heap.Ns mainGlobals mg) (hb:s₁.heap.Ns builtinsNs mb) (hbb:∀ x:Str,x ≠ "__name__" -> mb x = bootBuiltins x) (hlim:s₁.heap.NoLimit) (hg:s₁.gens = #[])
    (ha:s₁.heap.get? a = some { cls:=.type "list", data:=.seq vs.toArray }) (hi:IntsAre vs ns) (hl:ns.length <= sizeLine) (hr:Room k callerA)
    (F:∀ base:Heap,K.In base -> base.Ns mainGlobals mg -> qC P w K mg base CX k fa fd [x] sp) (hbind:∀ (s:Shared) (u:Value),BindsTo s fd ⟨[u],[]⟩ [(x,u)])
    (hsp:∀ H:Hp,Qdh H -> SqL K H a (ns.map V.int) -> sp [.ref a] H (fun v _=>v = .bl true) fun _ _ _=>False)
    (hCX:∀ H e s',CX [] H s₁ (fun _ _ _=>False) e s' -> False) :
    codeAny (model P w) callerA (.call (.ref fa) ⟨[.ref a],[]⟩) (fun r s'=>r = .ok (.ret (.bool true)) /\ OldK s₁.heap s'.heap /\ s'.os = s₁.os /\ AllBare s'.gens) s₁:=by
  have rv:=UA hi
  have lenV:=hi.length
  have core:∀ H:Hp,Qdh H -> SqL K H a (ns.map V.int) -> HOk P w H s₁.heap -> (∀ b,H b ≠ none -> b = a) -> (H a ≠ none -> K.lookup a = none) ->
      codeAny (model P w) callerA (.call (.ref fa) ⟨[.ref a],[]⟩) (fun r s'=>r = .ok (.ret (.bool true)) /\ OldK s₁.heap s'.heap /\ s'.os = s₁.os /\ AllBare s'.gens) s₁:=by
    intro H hO hS hok hA hK
    have base_of:∀ {b:Addr} {o:Obj},s₁.heap.get? b = some o -> H b = none -> (U5 s₁.heap H).get? b = some o:=fun e n=>Qaq e n
    have noA:∀ {b:Addr} {o:Obj} {es:Array DictEntry} {ep:Nat},s₁.heap.get? b = some o -> o.data = .dict es ep -> H b = none:=fun {b o es ep} e d=>by
      cases q:H b with
      | none=>rfl
      | some u =>
        have e':b = a:=hA b (by rw [q];simp)
        subst e'
        rw [ha] at e;cases e
        have d':Data.seq vs.toArray _ = Data.dict es ep:=d
        cases d'
    have nsK:∀ {b:Addr} {m:Str -> Option Value},s₁.heap.Ns b m -> (U5 s₁.heap H).Ns b m:=fun {b m} ⟨o,es,ep,e,d,r⟩=>⟨o,es,ep,base_of e (noA e d),d,r⟩
    have hKb:K.In (U5 s₁.heap H):=fun b o e=>base_of (KX b o e) (by
      cases q:H b with
      | none=>rfl
      | some u =>
        have e':b = a:=hA b (by rw [q];simp)
        subst e'
        rw [hK (by rw [q];simp)] at e;cases e)
    have hM:Mod K mg (U5 s₁.heap H):=⟨hKb,nsK hns,⟨mb,nsK hb,hbb⟩,let ⟨mc,h1,h2⟩:=hlim;⟨mc,nsK h1,h2⟩⟩
    have e0:Env0 P w K mg (U5 s₁.heap H) callerA [] s₁ H:=⟨rfl,hM,fun b o e=>Qb7 e,Nat.le_of_eq (gC _ _),trivial,fun b hb=>absurd (show b ∈ ([]:List Addr) from hb) (by simp),hok,.of_eq hg⟩
    refine codeAny_mono ((F _ hKb (nsK hns)).run callerA [] s₁ H ⟨[.ref a],[]⟩ [.ref a] [.ref a] _ _ hr e0 (hbind s₁ (.ref a)) (.cons rfl .nil) (hsp H hO hS)) fun r s' h=>?_
    cases r with
    | error e=>exact (hCX H e s' h).elim
    | ok fl =>
      cases fl with
      | next=>exact False.elim h
      | brk=>exact False.elim h
      | cont=>exact False.elim h
      | ret u =>
        obtain ⟨v,H',os,bare,un,hok',r',q⟩:=h
        have q':v = .bl true:=q
        subst q'
        obtain rfl:u = Value.bool true:=r'
        refine ⟨rfl,OldK.of_keep fun b o e=>?_,os,bare⟩
        cases q:H b with
        | none=>exact un.keep b o e q (by intro z;exact absurd (show b ∈ ([]:List Addr) from z) (by simp)) (by simp)
        | some u =>
          rcases hO b with z | ⟨ob,xs,z⟩
          . rw [q] at z;cases z
          . have z2:=un.frzs b ob _ z
            obtain ⟨e1,_⟩:=hok b _ z
            obtain ⟨e2,_⟩:=hok' b _ z2
            rw [e] at e1;cases e1
            exact e2
  cases hk:K.lookup a with
  | some o =>
    have e:=KX a o hk
    rw [ha] at e
    cases e
    refine core (fun _=>none) (fun _=>.inl rfl) (.inr ⟨_,vs.toArray,_,hk,rfl,rfl,rfl,by rw [List.size_toArray,lenV];exact hl,by simpa using rv⟩) (fun b u z=>by have z':(none:Option HO) = some u:=z;cases z') (fun b z=>absurd rfl z) fun z=>absurd rfl z
  | none =>
    refine core (fun b=>if b = a then some (.frz { cls:=.type "list", data:=.seq vs.toArray } (.lst (ns.map V.int))) else none) (fun b=>?_) (.inl (.inr ⟨{ cls:=.type "list", data:=.seq vs.toArray },if_pos rfl⟩)) (fun b u z=>?_) (fun b z=>?_) fun _=>hk
    . by_cases hb:b = a
      . exact .inr ⟨_,_,if_pos hb⟩
      . exact .inl (if_neg hb)
    . by_cases hb:b = a
      . have z':=(if_pos hb).symm.trans z
        cases z'
        subst hb
        exact ⟨ha,by rw [List.length_map];exact hl,vs,_,rv,ha⟩
      . have z':=(if_neg hb).symm.trans z
        cases z'
    . by_cases hb:b = a
      . exact hb
      . exact absurd (if_neg hb) z
end L2
namespace L2
open PySem PySem.Spec PyProof.Rows
theorem uU {l:PySem.W.OpenLaw} {n k:Nat} {q:Program} {loose:List Str} {XP:(Str -> Option Value) -> Heap -> Prop} {YP:World -> Heap -> Prop} {d:DefRec} {K:Params -> PySem.W.Frag} {CX:World -> CXT} {sp:World -> Sp} {x:Str}
    (hn:l.most = some n) (hn2:n <= sizeLine) (hdf:d.params.defaults = []) (hr:Room k callerA)
    (hY:∀ (w:World) (h:Heap),YP w h -> (K w.params).In h)
    (F:∀ (w:World) (mg:Str -> Option Value) (fa:Addr) (h:Heap),(K w.params).In h -> h.Ns mainGlobals mg -> mg d.name = some (.ref fa) ->
      ∃ fd : FuncData, (∀ (s : Shared) (u : Value), BindsTo s fd ⟨[u], []⟩ [(x, u)]) /\
        ∀ base:Heap,(K w.params).In base -> base.Ns mainGlobals mg -> qC l.prog w (K w.params) mg base (CX w) k fa fd [x] (sp w))
    (hsp:∀ (w:World) (H:Hp) (a:Addr) (ns:List Int),ns.length <= n -> Qdh H -> SqL (K w.params) H a (ns.map V.int) -> sp w [.ref a] H (fun v _=>v = .bl true) fun _ _ _=>False)
    (hCX:∀ (w:World) (H:Hp) (s:Shared) (e:Value) (s':Shared),CX w [] H s (fun _ _ _=>False) e s' -> False) :
    PySem.W.WalkO q loose XP YP l.row.toRowW d [] (fun f vs=>PySem.call f vs):=by
  refine Att.attach_call hn hdf fun w s₀ s₁ mg mb fa o pm cd doc a vs ns G Y ho hd hcd hmg hobj hints hlen hg=>?_
  have KX:=hY w _ Y
  obtain ⟨fd,hb,hF⟩:=F w mg fa _ KX G.T.g hmg
  exact Qay KX G.T.g G.T.b G.T.builtins G.T.nolimit hg hobj hints (Nat.le_trans hlen hn2) hr hF hb (fun H hO hS=>hsp w H a ns hlen hO hS) fun H e s'=>hCX w H s₁ e s'
end L2
/- THE LAST THEOREM (shape; LID, My.* are yours):
   My.Adr: a structure of the addresses that your layer names (classes,functions);My.Txt K t: a structure (Prop) of the equations over K;
   My.txt_mk:{K} {implicit addresses ..} (e1:nsIn K mainGlobals "law" = some (some (.ref f))) (e2:K.lookup f = some ⟨oc,od,.func (fnOf "law" "law" params body scope dV kV doc pm an cdv ct),sl⟩) (e3:codeIn K cdv "law" = true) ..:∃ t,My.Txt K t
set_option maxRecDepth 100000 in
set_option maxHeartbeats 0 in
theorem PySem.Challenge.cw_LID_holds : PySem.Challenge.rw_LID.Holds := by
  w_on;o_law;k_head;(case hw=>w_witness2)
  k_fill
  refine L2.uU (l:=PySem.Challenge.rw_LID) (n:=63) (k:=40) (x := "script") (CX:=fun w=>..) (sp:=fun _=>My.sp_law) rfl (by decide) rfl ⟨rfl,by decide,by decide⟩ (fun w h Y=>PySem.W.kIn_of Y) ?F ?S ?C
  case F =>
    intro w mg fa h KX G hmg
    have T:∃ t,My.Txt (L2.KOf KX) t:=by
      dsimp only [L2.KOf]                          -- K must stand as «<heap const> w.params» for k_is
      refine' My.txt_mk ?e1 ?e2 ?e3 ..
      (case e1=>PySem.W.k_is)                    -- in the order: a name -> its address -> its object -> its parts
      (case e2=>PySem.W.k_is)
      ..
    obtain ⟨t,T⟩:=T
    have e0:=hmg.symm.trans (PySem.W.mg_of KX G T.law)
    cases e0                                       -- fa is the law's own address
    exact ⟨_,fun s u=>.of_eq rfl,fun base kb nb=>My.law_fn T kb nb⟩     -- if «.of_eq rfl» comes too early: refine' ⟨_,?b,fun base kb nb=>My.law_fn T kb nb⟩;exact fun s u=>.of_eq rfl
  case S=>exact fun w H a ns hl hO hS=>..
  case C=>exact ..
(the tactic k_is has no namespace: write k_is) -/
namespace L2
open PySem PySem.Spec PyProof.Rows
def Zy (s:Stmt) (j:Nat):Stmt:=match s with
  | .ClassDef _ _ _ body _ _ _ _ _ _ _=>body.getD j (.Pass ⟨0,0,0,0⟩)
  | _=>.Pass ⟨0,0,0,0⟩
def JJ (s:Stmt):Arguments:=match s with
  | .FunctionDef _ a _ _ _ _ _ _ _ _=>a
  | _=>{ posonlyargs:=[],args:=[],vararg:=none,kwonlyargs:=[],kw_defaults:=[],kwarg:=none,defaults:=[] }
def ZD (s:Stmt):List Stmt:=match s with
  | .FunctionDef _ _ b _ _ _ _ _ _ _=>b
  | _=>[]
def Qp (s:Stmt):Scope:=match s with
  | .FunctionDef _ _ _ _ _ _ sc _ _ _=>sc
  | _=>{ kind:=.function,names:=[],isGenerator:=false,isCoroutine:=false }
abbrev CX0:CXT:=fun _ _ _ _ _ _=>False
abbrev E0:XK:=fun _ _ _=>False
theorem Qx {X:Cx}:Yu CX0 X E0:=fun _ _ _ _ _ _ _ h=>h.elim
structure Fun (K:PySem.W.Frag) (x qual:Str) (st:Stmt) (f:Addr) (fd:FuncData):Prop where
  ex:∃ (oc:Value) (od:Option Addr) (kV doc pm:Value) (an:Option Addr) (cdv ct:Value) (osl:Array (Option Value)),
    fd = PySem.W.fnOf x qual (JJ st) (ZD st) (Qp st) .none kV doc pm an cdv ct /\ K.lookup f = some ⟨oc,od,.func fd,osl⟩ /\ PySem.W.codeIn K cdv qual = true
  kp:PySem.W.keepIn K (.ref f) = true
section
variable {P:Program} {w:World} {K:PySem.W.Frag} {mg:Str -> Option Value} {base:Heap}
theorem Fun.ok {x qual:Str} {st:Stmt} {f:Addr} {fd:FuncData} {N ps:List Str} {k:Nat} {sp:Sp} (F:Fun K x qual st f fd) (S:Qv N ps (Qp st)) (len:∀ vs H Q E,sp vs H Q E -> vs.length = ps.length)
    (hbody:∀ (cdv:Value) (A:Around) (outer:List Env) (s:Shared) (H:Hp) (vs:List V) (Q:VK) (E:XK),Room k (A.deeper (envOfC qual (Qp st) s.heap.objs.size f cdv)) -> sp vs H Q E ->
      ∃ t,PSs (xW CX0 P w K mg base N qual (Qp st) f cdv A outer s H E).nox (ZD st) t /\ t { nx:=fun _ H'=>Q .non H',rt:=Q } (start N vs) H):qC P w K mg base CX0 (k + 1) f fd ps sp:=by
  obtain ⟨oc,od,kV,doc,pm,an,cdv,ct,osl,rfl,lk,hcd⟩:=F.ex
  refine QeN lk hcd S len fun A outer s H vs Q E hr hsp=>?_
  obtain ⟨t,h,q⟩:=hbody cdv A outer s H vs Q E hr hsp
  exact ⟨t,h.nox,q⟩
theorem Fun.binds {x qual:Str} {st:Stmt} {f:Addr} {fd:FuncData} {ps:List Str} (F:Fun K x qual st f fd)
    (h:∀ (kV doc pm:Value) (an:Option Addr) (cdv ct:Value) (us:List Value),us.length = ps.length -> bindArgs (PySem.W.fnOf x qual (JJ st) (ZD st) (Qp st) .none kV doc pm an cdv ct) ⟨us,[]⟩ = pure (ps.zip us)):Binds K fd ps []:=by
  obtain ⟨oc,od,kV,doc,pm,an,cdv,ct,osl,rfl,lk,hcd⟩:=F.ex
  exact .all (h kV doc pm an cdv ct)
theorem U1 {x qual:Str} {st:Stmt} {f:Addr} {oc:Value} {od an:Option Addr} {osl:Array (Option Value)} {kV doc pm cdv ct:Value} (l:K.lookup f = some ⟨oc,od,.func (PySem.W.fnOf x qual (JJ st) (ZD st) (Qp st) .none kV doc pm an cdv ct),osl⟩)
    (c:PySem.W.codeIn K cdv qual = true) (k:PySem.W.keepIn K (.ref f) = true):Fun K x qual st f (PySem.W.fnOf x qual (JJ st) (ZD st) (Qp st) .none kV doc pm an cdv ct):=⟨⟨oc,od,kV,doc,pm,an,cdv,ct,osl,rfl,l,c⟩,k⟩
end
theorem Zf {A:Around} {k:Nat} (hr:Room k A):A.units + 1 < cLine:=Nat.lt_of_le_of_lt (Nat.add_le_add_left (by decide:1 <= 64) _) hr.units
section
variable {X:Cx}
end
theorem vq {A B:Prop} (h:B):if false = true then A else B:=by
  rw [if_neg Bool.false_ne_true]
  exact h
theorem vt {A B:Prop} (h:A):if true = true then A else B:=by
  rw [if_pos rfl]
  exact h
end L2
set_option maxHeartbeats 4000000
namespace L2
open PySem PySem.Spec PyProof.Rows
section
variable {κ:Type} [DecidableEq κ]
def qz (kvs:List (κ × V)) (k:κ):Option V:=(kvs.find? fun kv=>decide (kv.1 = k)).map (·.2)
def jB (kvs:List (κ × V)) (k:κ) (v:V):List (κ × V) :=
  if (kvs.any fun kv=>decide (kv.1 = k)) = true then kvs.map (fun kv=>if kv.1 = k then (kv.1,v) else kv) else kvs ++ [(k,v)]
theorem Vy {p:κ × V} {r:List (κ × V)} {k:κ} (e:p.1 = k):qz (p :: r) k = some p.2:=by simp [qz,List.find?_cons,e]
theorem Vx {p:κ × V} {r:List (κ × V)} {k:κ} (e:¬ p.1 = k):qz (p :: r) k = qz r k:=by simp [qz,List.find?_cons,e]
theorem GT (k:κ):∀ kvs:List (κ × V),(kvs.any fun kv=>decide (kv.1 = k)) = (qz kvs k).isSome
  | []=>rfl
  | p :: r=>by
    rw [List.any_cons]
    by_cases e:p.1 = k
    . simp only [Vy e,decide_eq_true e,Bool.true_or,Option.isSome_some]
    . rw [Vx e,decide_eq_false e,Bool.false_or];exact GT k r
theorem xB (kvs:List (κ × V)) (k:κ) (v:V):(jB kvs k v).length <= kvs.length + 1:=by
  unfold jB
  split
  . rw [List.length_map];omega
  . rw [List.length_append,List.length_cons,List.length_nil];omega
theorem RelO.isSome_eq {o:Option V} {u:Option Value} (r:RelO o u):o.isSome = u.isSome:=by
  cases o with
  | none=>cases u with
    | none=>rfl
    | some _=>exact (show False from r).elim
  | some _=>cases u with
    | none=>exact (show False from r).elim
    | some _=>rfl
theorem RelO.getD {o:Option V} {u:Option Value} {d:V} {d':Value} (r:RelO o u) (rd:RelV d d'):RelV (o.getD d) (u.getD d'):=by
  cases o with
  | none=>cases u with
    | none=>exact rd
    | some _=>exact (show False from r).elim
  | some _=>cases u with
    | none=>exact (show False from r).elim
    | some _=>exact r
theorem KV.val {kvs:List (κ × V)} {vs:List (κ × Value)} (r:KV kvs vs) (k:κ):RelO (qz kvs k) (valueAt vs k):=by
  unfold KV at r
  induction r with
  | nil=>exact True.intro
  | @cons p q ps qs h t ih =>
    obtain ⟨h1,h2⟩:=h
    by_cases e:p.1 = k
    . have e':q.1 = k:=h1.symm.trans e
      have b:valueAt (q :: qs) k = some q.2:=by simp [valueAt,List.find?_cons,e']
      rw [Vy e,b];exact h2
    . have e':¬ q.1 = k:=fun z=>e (h1.trans z)
      have b:valueAt (q :: qs) k = valueAt qs k:=by simp [valueAt,List.find?_cons,e']
      rw [Vx e,b];exact ih
theorem KV.any {kvs:List (κ × V)} {vs:List (κ × Value)} (r:KV kvs vs) (k:κ):(kvs.any fun kv=>decide (kv.1 = k)) = vs.any fun kv=>decide (kv.1 = k):=by
  unfold KV at r
  induction r with
  | nil=>rfl
  | cons h t ih=>rw [List.any_cons,List.any_cons,ih,h.1]
theorem KV.repl {kvs:List (κ × V)} {vs:List (κ × Value)} (r:KV kvs vs) (k:κ) {y:V} {u:Value} (ry:RelV y u) :
    KV (kvs.map fun kv=>if kv.1 = k then (kv.1,y) else kv) (vs.map fun kv=>if kv.1 = k then (kv.1,u) else kv):=by
  unfold KV at r ⊢
  induction r with
  | nil=>exact .nil
  | @cons p q ps qs h t ih =>
    rw [List.map_cons,List.map_cons]
    refine .cons ?_ ih
    obtain ⟨h1,h2⟩:=h
    by_cases e:p.1 = k
    . rw [if_pos e,if_pos (h1.symm.trans e)];exact ⟨h1,ry⟩
    . rw [if_neg e,if_neg (fun z=>e (h1.trans z))];exact ⟨h1,h2⟩
theorem KV.put {kvs:List (κ × V)} {vs:List (κ × Value)} (r:KV kvs vs) (k:κ) {y:V} {u:Value} (ry:RelV y u):KV (jB kvs k y) (stored vs k u):=by
  unfold jB stored
  rw [r.any k]
  by_cases e:(vs.any fun kv=>decide (kv.1 = k)) = true
  . rw [if_pos e,if_pos e];exact r.repl k ry
  . rw [if_neg e,if_neg e];exact Paired.snoc r ⟨rfl,ry⟩
theorem KV.length {kvs:List (κ × V)} {vs:List (κ × Value)} (r:KV kvs vs):kvs.length = vs.length:=Paired.length r
end
theorem Gj {P:Program} {w:World} {k:Key} {u:Value} (r:RelV (kV k) u):(Z6 P w).is k u = true:=by
  cases k with
  | inl i=>obtain ⟨t,e⟩:=(show ∃ t,u = Value.int i t from r);subst e;exact Gp P w i t
  | inr x=>obtain ⟨t,e⟩:=(show ∃ t,u = Value.str x t from r);subst e;exact Gq P w x t
theorem Ub {P:Program} {w:World}:∀ {ks:List Key} {us:List Value},Vals (ks.map kV) us -> ItemsAre (Z6 P w) ks us
  | [],_,r=>by rw [List.map_nil] at r;cases r;exact .nil
  | k :: ks,_,r=>by
    rw [List.map_cons] at r
    cases r with
    | cons h t=>exact .cons (Gj h) (Ub t)
abbrev KT (H:Hp):List (List Key × V) -> List (List Key × Addr × Value) -> Prop:=Paired fun p q=>p.1 = q.1 /\ H q.2.1 = some (.tup (p.1.map kV)) /\ RelV p.2 q.2.2
theorem KT.val {H:Hp} {kvs:List (List Key × V)} {xs:List (List Key × Addr × Value)} (r:KT H kvs xs) (k:List Key):RelO (qz kvs k) ((atKey xs k).map (·.2)):=by
  induction r with
  | nil=>exact True.intro
  | @cons p q ps qs h t ih =>
    obtain ⟨h1,_,h2⟩:=h
    by_cases e:p.1 = k
    . have e':q.1 = k:=h1.symm.trans e
      have b:atKey (q :: qs) k = some q.2:=by simp [atKey,List.find?_cons,e']
      rw [Vy e,b];exact h2
    . have e':¬ q.1 = k:=fun z=>e (h1.trans z)
      have b:atKey (q :: qs) k = atKey qs k:=by simp [atKey,List.find?_cons,e']
      rw [Vx e,b];exact ih
theorem KT.repl {H:Hp} {kvs:List (List Key × V)} {xs:List (List Key × Addr × Value)} (r:KT H kvs xs) (k:List Key) {y:V} {u:Value} (ry:RelV y u) :
    KT H (kvs.map fun kv=>if kv.1 = k then (kv.1,y) else kv) (xs.map (putAt k u)):=by
  induction r with
  | nil=>exact .nil
  | @cons p q ps qs h t ih =>
    rw [List.map_cons,List.map_cons]
    refine .cons ?_ ih
    obtain ⟨h1,h2,h3⟩:=h
    unfold putAt
    by_cases e:p.1 = k
    . rw [if_pos e,if_pos (h1.symm.trans e)];exact ⟨h1,h2,ry⟩
    . rw [if_neg e,if_neg (fun z=>e (h1.trans z))];exact ⟨h1,h2,h3⟩
theorem KT.put {H:Hp} {kvs:List (List Key × V)} {xs:List (List Key × Addr × Value)} (r:KT H kvs xs) (k:List Key) {b:Addr} {y:V} {u:Value} (hb:H b = some (.tup (k.map kV))) (ry:RelV y u) :
    KT H (jB kvs k y) (storedH xs k b u):=by
  have e:(kvs.any fun kv=>decide (kv.1 = k)) = (atKey xs k).isSome:=by
    rw [GT,(r.val k).isSome_eq,Option.isSome_map]
  unfold jB storedH
  rw [e]
  by_cases q:(atKey xs k).isSome = true
  . rw [if_pos q,if_pos q];exact r.repl k ry
  . rw [if_neg q,if_neg q];exact Paired.snoc r ⟨rfl,hb,ry⟩
theorem KT.keeps {H H':Hp} {kvs:List (List Key × V)} {xs:List (List Key × Addr × Value)} (r:KT H kvs xs) (ht:∀ b ys,H b = some (.tup ys) -> H' b = some (.tup ys)):KT H' kvs xs :=
  Paired.mapP r fun _ _ z=>⟨z.1,ht _ _ z.2.1,z.2.2⟩
section
variable {P:Program} {w:World} {H:Hp} {h:Heap} {a:Addr}
theorem Qdc {u:HO} (ok:HOk P w H h) (e:Rd H a u):ObjOk P w H h a u:=e.ok ok
theorem V5 {kvs:List (Key × V)} (ok:HOk P w H h) (e:Rd H a (.dK kvs)):kvs.length <= sizeLine /\ (a == sysModules) = false /\ ∃ vs,KV kvs vs /\ h.DictOf (Z6 P w) a vs :=
  show ObjOk P w H h a (.dK kvs) from Qdc ok e
theorem QeJ {kvs:List (Key × V)} (ok:HOk P w H h) (e:H a = some (.dK kvs)):kvs.length <= sizeLine /\ (a == sysModules) = false /\ ∃ vs,KV kvs vs /\ h.DictOf (Z6 P w) a vs:=V5 ok (.inl e)
theorem yO {ks:List Key} (ok:HOk P w H h) (e:H a = some (.tup (ks.map kV))):(tupleKind (Z6 P w)).is h ks a:=by
  obtain ⟨_,its,r,o,h1,h2,n,h3⟩:=(show ObjOk P w H h a (.tup (ks.map kV)) from ok a _ e)
  exact ⟨o,its.toArray,n,h1,h2,h3,by simpa using Ub r⟩
theorem K5 {kvs:List (List Key × V)} (ok:HOk P w H h) (e:Rd H a (.dT kvs)):kvs.length <= sizeLine /\ (a == sysModules) = false /\
    ∃ xs,KT H kvs xs /\ h.DictOfH (tupleKind (Z6 P w)) a xs:=by
  obtain ⟨z,y,xs,r,o,es,ep,h1,h2,h3,h4,h5⟩:=(show ObjOk P w H h a (.dT kvs) from Qdc ok e)
  refine ⟨z,y,xs,r,o,es,ep,h1,h2,h3,h4,fun x hx=>?_,h5⟩
  have all:∀ {l:List (List Key × V)} {m:List (List Key × Addr × Value)},KT H l m -> ∀ x ∈ m,(tupleKind (Z6 P w)).is h x.1 x.2.1:=by
    intro l m q
    induction q with
    | nil=>intro x hx;exact nomatch hx
    | @cons p q ps qs hq t ih =>
      intro x hx
      rcases List.mem_cons.mp hx with e | hx
      . subst e
        exact yO ok (by rw [<- hq.1];exact hq.2.1)
      . exact ih x hx
  exact all r x hx
theorem qI {kvs:List (List Key × V)} (ok:HOk P w H h) (e:H a = some (.dT kvs)):kvs.length <= sizeLine /\ (a == sysModules) = false /\
    ∃ xs,KT H kvs xs /\ h.DictOfH (tupleKind (Z6 P w)) a xs:=K5 ok (.inl e)
end
def DGet (H:Hp) (a:Addr) (y:V) (r:Option V):Prop :=
  (∃ kvs k,Rd H a (.dK kvs) /\ y = kV k /\ r = qz kvs k) ∨ ∃ kvs k b,Rd H a (.dT kvs) /\ y = .ref b /\ H b = some (.tup (k.map kV)) /\ r = qz kvs k
def DPut (H:Hp) (a:Addr) (y v:V) (H':Hp):Prop :=
  (∃ kvs k,H a = some (.dK kvs) /\ y = kV k /\ kvs.length < sizeLine /\ H' = upd H a (.dK (jB kvs k v))) ∨
  ∃ kvs k b,H a = some (.dT kvs) /\ y = .ref b /\ H b = some (.tup (k.map kV)) /\ kvs.length < sizeLine /\ H' = upd H a (.dT (jB kvs k v))
theorem DGet.k {H:Hp} {a:Addr} {kvs:List (Key × V)} {k:Key} (e:H a = some (.dK kvs)):DGet H a (kV k) (qz kvs k):=.inl ⟨kvs,k,.inl e,rfl,rfl⟩
theorem DPut.k {H:Hp} {a:Addr} {kvs:List (Key × V)} {k:Key} {v:V} (e:H a = some (.dK kvs)) (hl:kvs.length < sizeLine):DPut H a (kV k) v (upd H a (.dK (jB kvs k v))):=.inl ⟨kvs,k,e,rfl,hl,rfl⟩
section
variable {X:Cx} {pins:List (Addr × Obj)} {σ:St} {H:Hp} {s:Shared} {a:Addr} {y v:V} {u r:Value} {o:Option V} {A:Around} {E:Value -> Shared -> Prop}
theorem Inv.big (I:Inv X pins σ H s):sysModules < s.heap.objs.size:=by
  have h:mainGlobals < s.heap.objs.size:=(I.mod.glob.keeps I.bk).lt
  exact Nat.lt_trans (by decide) h
theorem gq {Q:Value -> Shared -> Prop} (hu:A.units + 1 < cLine) (I:Inv X pins σ H s) (g:DGet H a y (some v)) (ry:RelV y u) (h:∀ w' s',Inv X pins σ H s' -> RelV v w' -> Q w' s') :
    wpAny (model X.prog X.w) A (getItem (.ref a) u) Q E s:=by
  rcases g with ⟨kvs,k,e,ey,l⟩ | ⟨kvs,k,b,e,ey,eb,l⟩
  . subst ey
    obtain ⟨z,hd,vs,rel,dd⟩:=V5 I.hok e
    obtain ⟨w',hw,rw'⟩:=RelO.some_of (v:=v) (o:=valueAt vs k) (by rw [l];exact rel.val k)
    exact wpAny_getItem_of (Gj ry) dd.mapOf hw (h w' _ (I.tok _) rw')
  . subst ey
    cases (show u = Value.ref b from ry)
    obtain ⟨z,hd,xs,rel,dd⟩:=K5 I.hok e
    obtain ⟨w',hw,rw'⟩:=RelO.some_of (v:=v) (o:=(atKey xs k).map (·.2)) (by rw [l];exact rel.val k)
    obtain ⟨p,hp,hp2⟩:=Option.map_eq_some_iff.mp hw
    refine wpAny_getItem_heap (tupleKind_room_in1 hu) (yO I.hok eb) dd hp ?_
    rw [hp2]
    exact h w' _ (I.tok _) rw'
theorem uh {h':Heap} {t':Nat} {ob:HO} (I:Inv X pins σ H s) (mu:Mut (H a)) (hs:Heap.SameBut a s.heap h') (he:∃ q,h'.get? a = some q) (new:ObjOk X.prog X.w (upd H a ob) h' a ob) :
    Inv X pins σ (upd H a ob) { s with heap:=h',toks:=t' } :=
  I.write (x:=a) (e:=a) mu (.inl rfl) (fun b q hb z=>(hs.2 b hb).trans z) he new
theorem Qds {P:Program} {w:World} {H':Hp} {h':Heap} {kvs:List (Key × V)} {vs:List (Key × Value)} (z:kvs.length <= sizeLine) (hd:(a == sysModules) = false) (rel:KV kvs vs) (dd:h'.DictOf (Z6 P w) a vs) :
    ObjOk P w H' h' a (.dK kvs):=⟨z,hd,vs,rel,dd⟩
theorem gt {H':Hp} {Q:Unit -> Shared -> Prop} (hu:A.units + 1 < cLine) (I:Inv X pins σ H s) (g:DPut H a y v H') (ry:RelV y u) (rv:RelV v r) (h:∀ s',Inv X pins σ H' s' -> Q () s') :
    wpAny (model X.prog X.w) A (setItem (.ref a) u r) Q E s:=by
  rcases g with ⟨kvs,k,e,ey,l,eH⟩ | ⟨kvs,k,b,e,ey,eb,l,eH⟩
  . subst ey eH
    obtain ⟨z,hd,vs,rel,dd⟩:=QeJ I.hok e
    have hz:vs.length <= sizeLine:=by rw [<- rel.length];exact z
    have hl:(jB kvs k v).length <= sizeLine:=by have:=xB kvs k v;omega
    refine wpAny_setItem_pairs (hsz:=hz) (Gj ry) dd fun h' dd' hs=>h _ ?_
    have he:∃ q,h'.get? a = some q:=let ⟨q,_,_,hq,_⟩:=dd';⟨q,hq⟩
    exact uh I (by rw [e];exact True.intro) hs he (Qds hl hd (rel.put k rv) dd')
  . subst ey eH
    cases (show u = Value.ref b from ry)
    obtain ⟨z,hd,xs,rel,dd⟩:=qI I.hok e
    have hz:xs.length <= sizeLine:=by rw [<- Paired.length rel];exact z
    have hl:(jB kvs k v).length <= sizeLine:=by have:=xB kvs k v;omega
    refine wpAny_setItem_heap (hsz:=hz) (tupleKind_room_in1 hu) (yO I.hok eb) dd fun h' dd' hs=>h _ ?_
    obtain ⟨q,es,ep,hq,h2,h3,h4,_,h5⟩:=dd'
    refine uh I (by rw [e];exact True.intro) hs ⟨q,hq⟩ ⟨hl,hd,_,(rel.put k eb rv).keeps fun c ys ec=>?_,q,es,ep,hq,h2,h3,h4,h5⟩
    rw [QU (QeV ec e (fun z=>nomatch z))]
    exact ec
end
section
variable {X:Cx} {pins:List (Addr × Obj)} {σ:St} {H:Hp} {s:Shared} {a:Addr} {kvs:List (Key × V)} {k:Key} {u:Value} {A:Around} {E:Value -> Shared -> Prop}
theorem QeI {Q:Value -> Shared -> Prop} (I:Inv X pins σ H s) (e:Rd H a (.dK kvs)) (h:∀ t s',Inv X pins σ H s' -> Q (.int kvs.length t) s'):wpAny (model X.prog X.w) A (call (.builtin "len") [.ref a]) Q E s:=by
  obtain ⟨z,hd,vs,rel,dd⟩:=V5 I.hok e
  refine call_len_dict hd dd (by rw [<- rel.length];rw [sizeLine_eq] at z;omega) ?_
  rw [<- rel.length]
  exact h _ _ (I.tok _)
end
theorem K2 {X:Cx} {pins:List (Addr × Obj)} {σ:St} {H:Hp} {s:Shared} {a:Addr} {y:V} {o:Option V} (I:Inv X pins σ H s) (g:DGet H a y o):s.TypeIs (.ref a) "dict" := by
  rcases g with ⟨kvs,k,e,_,_⟩ | ⟨kvs,k,b,e,_,_,_⟩
  . obtain ⟨_,_,vs,_,dd⟩:=V5 I.hok e
    exact dd.typeIs
  . obtain ⟨_,_,xs,_,dd⟩:=K5 I.hok e
    exact dd.typeIs
section
variable {X:Cx} {o i e value:Expr} {pos pos' tpos:Pos} {td ty tv:TE}
end
theorem Qab {P:Program} {w:World} {H:Hp} (h:Heap) (hb:sysModules < h.objs.size):ObjOk P w H (h.push { cls:=.type "dict", data:=.dict #[] }) h.objs.size (.dK []) :=
  ⟨Nat.zero_le _,beq_eq_false_iff_ne.mpr (Ne.symm (Nat.ne_of_lt hb)),[],.nil,Heap.DictOf.new h⟩
section
variable {X:Cx} {pos:Pos}
end
section
variable {X:Cx} {pins:List (Addr × Obj)} {σ:St} {H:Hp} {s:Shared} {a:Addr} {y d:V} {u r:Value} {o:Option V} {A:Around} {E:Value -> Shared -> Prop}
theorem Qdn {Q:Value -> Shared -> Prop} (hu:A.units + 1 < cLine) (I:Inv X pins σ H s) (g:DGet H a y o) (ry:RelV y u) (h:∀ w' s',Inv X pins σ H s' -> RelV (o.getD .non) w' -> Q w' s') :
    wpAny (model X.prog X.w) A (call (.builtin "dict.get") [.ref a,u]) Q E s:=by
  rcases g with ⟨kvs,k,e,ey,l⟩ | ⟨kvs,k,b,e,ey,eb,l⟩
  . subst ey
    obtain ⟨z,hd,vs,rel,dd⟩:=V5 I.hok e
    refine call_meetsIn PySem.F.slot_dict_get dd.typeIs PySem.F.entry_dict_get (PySem.F.args_dict_get_2 _ _) (meets_dict_get (Z6 X.prog X.w) a (Gj ry) hd) ⟨_,dd.mapOf,h _ _ (I.tok _) ?_⟩
    rw [l]
    exact (rel.val k).getD rfl
  . subst ey
    cases (show u = Value.ref b from ry)
    obtain ⟨z,hd,xs,rel,dd⟩:=K5 I.hok e
    refine call_meetsIn PySem.F.slot_dict_get dd.typeIs PySem.F.entry_dict_get (PySem.F.args_dict_get_2 _ _) (meetsH_dict_get (tupleKind (Z6 X.prog X.w)) a b hd) ⟨tupleKind_room_in1 hu,k,xs,yO I.hok eb,dd,h _ _ (I.tok _) ?_⟩
    rw [l]
    exact (rel.val k).getD rfl
theorem Qdo {Q:Value -> Shared -> Prop} (hu:A.units + 1 < cLine) (I:Inv X pins σ H s) (g:DGet H a y o) (ry:RelV y u) (rd:RelV d r) (h:∀ w' s',Inv X pins σ H s' -> RelV (o.getD d) w' -> Q w' s') :
    wpAny (model X.prog X.w) A (call (.builtin "dict.get") [.ref a,u,r]) Q E s:=by
  rcases g with ⟨kvs,k,e,ey,l⟩ | ⟨kvs,k,b,e,ey,eb,l⟩
  . subst ey
    obtain ⟨z,hd,vs,rel,dd⟩:=V5 I.hok e
    refine call_meetsIn PySem.F.slot_dict_get dd.typeIs PySem.F.entry_dict_get (PySem.F.args_dict_get_3 _ _ _) (meets_dict_get_default (Z6 X.prog X.w) a (Gj ry) hd r) ⟨_,dd.mapOf,h _ _ (I.tok _) ?_⟩
    rw [l]
    exact (rel.val k).getD rd
  . subst ey
    cases (show u = Value.ref b from ry)
    obtain ⟨z,hd,xs,rel,dd⟩:=K5 I.hok e
    refine call_meetsIn PySem.F.slot_dict_get dd.typeIs PySem.F.entry_dict_get (PySem.F.args_dict_get_3 _ _ _) (meetsH_dict_get_default (tupleKind (Z6 X.prog X.w)) a b hd r) ⟨tupleKind_room_in1 hu,k,xs,yO I.hok eb,dd,h _ _ (I.tok _) ?_⟩
    rw [l]
    exact (rel.val k).getD rd
end
section
variable {X:Cx} {o e f:Expr} {apos cpos:Pos} {td ty tx:TE}
end
section
variable {X:Cx} {pins:List (Addr × Obj)} {σ:St} {H:Hp} {s:Shared} {a:Addr} {kvs:List (Key × V)} {A:Around} {E:Value -> Shared -> Prop}
end
section
variable {X:Cx} {pins:List (Addr × Obj)} {σ:St} {H:Hp} {s:Shared} {a:Addr} {y:V} {u:Value} {A:Around} {E:Value -> Shared -> Prop}
end
section
variable {X:Cx}
theorem gh:X0 X (.builtin "len") (fun xs H Q=>∃ a kvs,xs = [V.ref a] /\ H a = some (.dK kvs) /\ Q (.int kvs.length) H):=by
  intro pins s σ H xs us Q I r h
  obtain ⟨a,kvs,rfl,ha,q⟩:=h
  obtain ⟨u,rfl,ru⟩:=Uz r
  cases ru
  exact QeI I (.inl ha) fun t s' I'=>⟨.int kvs.length,H,I',⟨t,rfl⟩,q⟩
end
section
variable {κ:Type} [DecidableEq κ]
end
end L2
namespace D
open PySem PySem.Spec PyProof.Rows L2
abbrev St:=L2.St
inductive DV where
  | non | bl (b:Bool) | int (i:Int) | str (x:Str) | tup (xs:List DV) | lst (xs:List DV) | ref (i:Nat)
inductive OV where
  | lst (xs:List DV)
  | dic (kvs:List (Key × DV))
  | ins (c:Str) (fs:List (Str × DV))
abbrev Hs:=List OV
abbrev M:=StateT Hs Option
mutual
def RepV (K:PySem.W.Frag) (ρ:List Addr) (B:Addr -> Prop) (H:Hp):DV -> V -> Prop
  | .non,v=>v = .non
  | .bl b,v=>v = .bl b
  | .int i,v=>v = .int i
  | .str x,v=>v = .str x
  | .tup ds,v=>∃ a xs,v = .ref a /\ ¬ B a /\ SqT K H a xs /\ RepL K ρ B H ds xs
  | .lst ds,v=>∃ a xs,v = .ref a /\ ¬ B a /\ SqL K H a xs /\ RepL K ρ B H ds xs
  | .ref i,v=>∃ a,v = .ref a /\ ρ[i]? = some a
def RepL (K:PySem.W.Frag) (ρ:List Addr) (B:Addr -> Prop) (H:Hp):List DV -> List V -> Prop
  | [],xs=>xs = []
  | d :: ds,xs=>∃ x r,xs = x :: r /\ RepV K ρ B H d x /\ RepL K ρ B H ds r
end
def ORep (K:PySem.W.Frag) (ρ:List Addr) (B:Addr -> Prop) (H:Hp) (a:Addr):OV -> Prop
  | .lst ds=>∃ xs,H a = some (.lst xs) /\ RepL K ρ B H ds xs
  | .dic kvs=>∃ xs:List (Key × V),H a = some (.dK xs) /\ xs.map (·.1) = kvs.map (·.1) /\ RepL K ρ B H (kvs.map (·.2)) (xs.map (·.2))
  | .ins c fs=>∃ (C dx:Addr) (xs:List (Str × V)),PySem.W.nsIn K mainGlobals c = some (some (.ref C)) /\ H a = some (.ins C dx xs) /\ xs.map (·.1) = fs.map (·.1) /\ RepL K ρ B H (fs.map (·.2)) (xs.map (·.2))
structure Gr (K:PySem.W.Frag) (ρ:List Addr) (B:Addr -> Prop) (H:Hp) (ρ':List Addr) (B':Addr -> Prop) (H':Hp):Prop where
  pre:ρ <+: ρ'
  ban:∀ a,B a -> B' a
  new:∀ a,B' a -> B a ∨ (H a = none /\ K.lookup a = none)
  rnew:∀ a ∈ ρ',a ∈ ρ ∨ H a = none
  keep:∀ a o,a ∉ ρ -> H a = some o -> H' a = some o
  trk:∀ a,H' a = none -> H a = none
structure WOk (K:PySem.W.Frag) (ρ:List Addr) (B:Addr -> Prop) (hp:Hs) (H:Hp):Prop where
  len:ρ.length = hp.length
  nd:ρ.Nodup
  obj:∀ (i:Nat) (a:Addr) (o:OV),ρ[i]? = some a -> hp[i]? = some o -> ORep K ρ B H a o
  rb:∀ a ∈ ρ,B a
  bt:∀ a,B a -> H a ≠ none
  bk:∀ a,B a -> K.lookup a = none
section
variable {K:PySem.W.Frag} {ρ ρ' ρ'':List Addr} {B B' B'':Addr -> Prop} {H H' H'':Hp}
theorem Gr.refl:Gr K ρ B H ρ B H:=⟨List.prefix_rfl,fun _ h=>h,fun _ h=>.inl h,fun _ h=>.inl h,fun _ _ _ h=>h,fun _ h=>h⟩
theorem Gr.trans (a:Gr K ρ B H ρ' B' H') (b:Gr K ρ' B' H' ρ'' B'' H''):Gr K ρ B H ρ'' B'' H'' where
  pre:=a.pre.trans b.pre
  ban:=fun x h=>b.ban x (a.ban x h)
  new:=fun x h=>(b.new x h).elim (a.new x) fun z=>.inr ⟨a.trk x z.1,z.2⟩
  rnew:=fun x h=>(b.rnew x h).elim (a.rnew x) fun z=>.inr (a.trk x z)
  keep:=fun x o hn h=>b.keep x o (fun z=>(a.rnew x z).elim hn (fun z=>by rw [h] at z;cases z)) (a.keep x o hn h)
  trk:=fun x h=>a.trk x (b.trk x h)
structure Gs (K:PySem.W.Frag) (ρ:List Addr) (B:Addr -> Prop) (H:Hp) (ρ':List Addr) (B':Addr -> Prop) (H':Hp):Prop where
  pre:ρ <+: ρ'
  new:∀ a,B' a -> B a ∨ (H a = none /\ K.lookup a = none)
  keep:∀ a o,¬ B a -> H a = some o -> H' a = some o
  trk:∀ a,H' a = none -> H a = none
theorem Gr.gs (rb:∀ a ∈ ρ,B a) (g:Gr K ρ B H ρ' B' H'):Gs K ρ B H ρ' B' H':=⟨g.pre,g.new,fun a o nb h=>g.keep a o (fun z=>nb (rb a z)) h,g.trk⟩
theorem Gs.refl:Gs K ρ B H ρ B H:=⟨List.prefix_rfl,fun _ h=>.inl h,fun _ _ _ h=>h,fun _ h=>h⟩
theorem Gs.trans (a:Gs K ρ B H ρ' B' H') (b:Gs K ρ' B' H' ρ'' B'' H''):Gs K ρ B H ρ'' B'' H'' where
  pre:=a.pre.trans b.pre
  new:=fun x h=>(b.new x h).elim (a.new x) fun z=>.inr ⟨a.trk x z.1,z.2⟩
  keep:=fun x o nb h=>b.keep x o (fun z=>(a.new x z).elim nb fun q=>by rw [h] at q;cases q.1) (a.keep x o nb h)
  trk:=fun x h=>a.trk x (b.trk x h)
theorem SqT.trk {a:Addr} {xs:List V} (h:SqT K H a xs):H a ≠ none ∨ ∃ o,K.lookup a = some o:=by
  rcases h with (h | ⟨o,h⟩) | ⟨o,_,_,h,_⟩
  . exact .inl (by rw [h];simp)
  . exact .inl (by rw [h];simp)
  . exact .inr ⟨o,h⟩
theorem SqL.trk {a:Addr} {xs:List V} (h:SqL K H a xs):H a ≠ none ∨ ∃ o,K.lookup a = some o:=by
  rcases h with (h | ⟨o,h⟩) | ⟨o,_,_,h,_⟩
  . exact .inl (by rw [h];simp)
  . exact .inl (by rw [h];simp)
  . exact .inr ⟨o,h⟩
theorem Gs.ok {a:Addr} (g:Gs K ρ B H ρ' B' H') (hb:¬ B a) (t:H a ≠ none ∨ ∃ o,K.lookup a = some o):¬ B' a:=fun z =>
  (g.new a z).elim hb fun ⟨n,k⟩=>t.elim (fun q=>q n) fun ⟨o,q⟩=>by rw [k] at q;cases q
theorem Gs.sqT {a:Addr} {xs:List V} (g:Gs K ρ B H ρ' B' H') (hr:¬ B a) (h:SqT K H a xs):SqT K H' a xs:=by
  rcases h with (h | ⟨o,h⟩) | h
  . exact .inl (.inl (g.keep _ _ hr h))
  . exact .inl (.inr ⟨o,g.keep _ _ hr h⟩)
  . exact .inr h
theorem Gs.sqL {a:Addr} {xs:List V} (g:Gs K ρ B H ρ' B' H') (hr:¬ B a) (h:SqL K H a xs):SqL K H' a xs:=by
  rcases h with (h | ⟨o,h⟩) | h
  . exact .inl (.inl (g.keep _ _ hr h))
  . exact .inl (.inr ⟨o,g.keep _ _ hr h⟩)
  . exact .inr h
theorem uO {i:Nat} {a:Addr} (p:ρ <+: ρ') (h:ρ[i]? = some a):ρ'[i]? = some a:=by
  obtain ⟨t,rfl⟩:=p
  rw [List.getElem?_append_left (List.getElem?_eq_some_iff.mp h).1];exact h
mutual
theorem RepV.gs (g:Gs K ρ B H ρ' B' H'):∀ (d:DV) (v:V),RepV K ρ B H d v -> RepV K ρ' B' H' d v
  | .non,_,h=>by unfold RepV at h ⊢;exact h
  | .bl _,_,h=>by unfold RepV at h ⊢;exact h
  | .int _,_,h=>by unfold RepV at h ⊢;exact h
  | .str _,_,h=>by unfold RepV at h ⊢;exact h
  | .ref _,_,h=>by
    unfold RepV at h ⊢
    obtain ⟨a,e,h⟩:=h
    exact ⟨a,e,uO g.pre h⟩
  | .tup ds,_,h=>by
    unfold RepV at h ⊢
    obtain ⟨a,xs,e,nb,sq,rl⟩:=h
    exact ⟨a,xs,e,g.ok nb (SqT.trk sq),g.sqT nb sq,RepL.gs g ds xs rl⟩
  | .lst ds,_,h=>by
    unfold RepV at h ⊢
    obtain ⟨a,xs,e,nb,sq,rl⟩:=h
    exact ⟨a,xs,e,g.ok nb (SqL.trk sq),g.sqL nb sq,RepL.gs g ds xs rl⟩
theorem RepL.gs (g:Gs K ρ B H ρ' B' H'):∀ (ds:List DV) (xs:List V),RepL K ρ B H ds xs -> RepL K ρ' B' H' ds xs
  | [],_,h=>by unfold RepL at h ⊢;exact h
  | d :: ds,_,h=>by
    unfold RepL at h ⊢
    obtain ⟨x,r,e,h1,h2⟩:=h
    exact ⟨x,r,e,RepV.gs g d x h1,RepL.gs g ds r h2⟩
end
theorem RepV.grow (rb:∀ a ∈ ρ,B a) (g:Gr K ρ B H ρ' B' H') (d:DV) (v:V) (h:RepV K ρ B H d v):RepV K ρ' B' H' d v:=RepV.gs (g.gs rb) d v h
theorem RepL.grow (rb:∀ a ∈ ρ,B a) (g:Gr K ρ B H ρ' B' H') (ds:List DV) (xs:List V) (h:RepL K ρ B H ds xs):RepL K ρ' B' H' ds xs:=RepL.gs (g.gs rb) ds xs h
theorem RepL.length:∀ {ds:List DV} {xs:List V},RepL K ρ B H ds xs -> ds.length = xs.length
  | [],_,h=>by unfold RepL at h;subst h;rfl
  | d :: ds,_,h=>by
    unfold RepL at h
    obtain ⟨x,r,rfl,_,h2⟩:=h
    simp [RepL.length h2]
theorem RepL.get:∀ {ds:List DV} {xs:List V} {i:Nat} {d:DV},RepL K ρ B H ds xs -> ds[i]? = some d -> ∃ x,xs[i]? = some x /\ RepV K ρ B H d x
  | [],_,_,_,_,e=>by simp at e
  | d :: ds,_,0,_,h,e=>by
    unfold RepL at h
    obtain ⟨x,r,rfl,h1,_⟩:=h
    simp at e;subst e
    exact ⟨x,rfl,h1⟩
  | d :: ds,_,i + 1,_,h,e=>by
    unfold RepL at h
    obtain ⟨x,r,rfl,_,h2⟩:=h
    obtain ⟨y,h3,h4⟩:=RepL.get h2 (by simpa using e)
    exact ⟨y,by simpa using h3,h4⟩
theorem RepL.nil:RepL K ρ B H [] []:=by unfold RepL;rfl
theorem RepL.cons {d:DV} {x:V} {ds:List DV} {xs:List V} (h:RepV K ρ B H d x) (t:RepL K ρ B H ds xs):RepL K ρ B H (d :: ds) (x :: xs):=by
  unfold RepL;exact ⟨x,xs,rfl,h,t⟩
theorem RepL.append:∀ {ds es:List DV} {xs ys:List V},RepL K ρ B H ds xs -> RepL K ρ B H es ys -> RepL K ρ B H (ds ++ es) (xs ++ ys)
  | [],_,_,_,h,t=>by unfold RepL at h;subst h;exact t
  | d :: ds,_,_,_,h,t=>by
    unfold RepL at h
    obtain ⟨x,r,rfl,h1,h2⟩:=h
    exact RepL.cons h1 (RepL.append h2 t)
theorem RepL.one {d:DV} {x:V} (h:RepV K ρ B H d x):RepL K ρ B H [d] [x]:=RepL.cons h RepL.nil
theorem RepL.take:∀ (n:Nat) {ds:List DV} {xs:List V},RepL K ρ B H ds xs -> RepL K ρ B H (ds.take n) (xs.take n)
  | 0,_,_,_=>by simp;exact RepL.nil
  | _ + 1,[],_,h=>by unfold RepL at h;subst h;simp;exact RepL.nil
  | n + 1,d :: ds,_,h=>by
    unfold RepL at h
    obtain ⟨x,r,rfl,h1,h2⟩:=h
    exact RepL.cons h1 (RepL.take n h2)
theorem RepL.drop:∀ (n:Nat) {ds:List DV} {xs:List V},RepL K ρ B H ds xs -> RepL K ρ B H (ds.drop n) (xs.drop n)
  | 0,_,_,h=>h
  | _ + 1,[],_,h=>by unfold RepL at h;subst h;simp;exact RepL.nil
  | n + 1,d :: ds,_,h=>by
    unfold RepL at h
    obtain ⟨x,r,rfl,h1,h2⟩:=h
    exact RepL.drop n h2
theorem Gr.laid {p:Addr} {o:HO} (h:H p = none):Gr K ρ B H ρ B (upd H p o) where
  pre:=List.prefix_rfl
  ban:=fun _ h=>h
  new:=fun _ h=>.inl h
  rnew:=fun _ h=>.inl h
  keep:=fun a u _ q=>by rw [QU (Zw q h)];exact q
  trk:=fun a q=>by
    by_cases e:a = p
    . subst e;rw [Zh] at q;cases q
    . rw [QU e] at q;exact q
theorem ORep.gs {a:Addr} {o:OV} (g:Gs K ρ B H ρ' B' H') (hk:H' a = H a) (h:ORep K ρ B H a o):ORep K ρ' B' H' a o:=by
  cases o with
  | lst ds =>
    obtain ⟨xs,e,rl⟩:=h
    exact ⟨xs,hk.trans e,RepL.gs g _ _ rl⟩
  | dic kvs =>
    obtain ⟨xs,e,ek,rl⟩:=h
    exact ⟨xs,hk.trans e,ek,RepL.gs g _ _ rl⟩
  | ins c fs =>
    obtain ⟨C,dx,xs,nc,e,ek,rl⟩:=h
    exact ⟨C,dx,xs,nc,hk.trans e,ek,RepL.gs g _ _ rl⟩
theorem WOk.laid {hp:Hs} {p:Addr} {o:HO} (W:WOk K ρ B hp H) (h:H p = none):WOk K ρ B hp (upd H p o) where
  len:=W.len
  nd:=W.nd
  obj:=fun i a u e q=>ORep.gs ((Gr.laid h).gs W.rb) (by
    have hb:=W.bt a (W.rb a (List.mem_of_getElem? e))
    exact QU (fun z=>hb (z ▸ h))) (W.obj i a u e q)
  rb:=W.rb
  bt:=fun a z q=>W.bt a z ((Gr.laid (K:=K) (ρ:=ρ) (B:=B) h).trk a q)
  bk:=W.bk
end
inductive Sl where
  | un | val (d:DV) | acc (ds:List DV)
abbrev En:=List Sl
structure Ent where
  ρ:List Addr
  B:Addr -> Prop
  H:Hp
structure SOk (K:PySem.W.Frag) (Z:Ent) (env:En) (σ:St) (ρ:List Addr) (B:Addr -> Prop) (hp:Hs) (H:Hp):Prop where
  gr:Gr K Z.ρ Z.B Z.H ρ B H
  zb:∀ a,Z.B a -> Z.H a ≠ none
  wo:WOk K ρ B hp H
  slot:∀ (i:Nat) (d:DV),env[i]? = some (.val d) -> ∃ v,σ[i]? = some (some v) /\ RepV K ρ B H d v
  accs:∀ (i:Nat) (ds:List DV),env[i]? = some (.acc ds) -> ∃ a xs,σ[i]? = some (some (.ref a)) /\ H a = some (.lst xs) /\ Z.H a = none /\ B a /\ a ∉ ρ /\ RepL K ρ B H ds xs
  adis:∀ (i j:Nat) (ds es:List DV) (a:Addr),env[i]? = some (.acc ds) -> env[j]? = some (.acc es) -> σ[i]? = some (some (.ref a)) -> σ[j]? = some (some (.ref a)) -> i = j
  len:σ.length = env.length
theorem SOk.grow {K:PySem.W.Frag} {Z:Ent} {env:En} {σ:St} {ρ ρ':List Addr} {B B':Addr -> Prop} {hp hp':Hs} {H H':Hp} (S:SOk K Z env σ ρ B hp H) (g:Gr K ρ B H ρ' B' H') (W:WOk K ρ' B' hp' H'):SOk K Z env σ ρ' B' hp' H' where
  gr:=S.gr.trans g
  zb:=S.zb
  wo:=W
  slot:=fun i d e=>let ⟨v,h1,h2⟩:=S.slot i d e;⟨v,h1,RepV.grow S.wo.rb g d v h2⟩
  accs:=fun i ds e=>by
    obtain ⟨a,xs,h1,h2,h3,h4,h5,h6⟩:=S.accs i ds e
    refine ⟨a,xs,h1,g.keep a _ h5 h2,h3,g.ban a h4,fun z=>?_,RepL.grow S.wo.rb g ds xs h6⟩
    rcases g.rnew a z with q | q
    . exact h5 q
    . rw [h2] at q;cases q
  adis:=S.adis
  len:=S.len
abbrev DEx:=En -> M DV
abbrev DTx:=En -> M Bool
abbrev DAx:=En -> M (List DV)
inductive Fl where
  | nx | rt (d:DV) | bk | ct
abbrev DSx:=En -> M (Fl × En)
def Fol (K:PySem.W.Frag) (ρ:List Addr) (B:Addr -> Prop) (H:Hp) (d:DV) (hp':Hs) (Q:VK):Prop :=
  ∀ v ρ' B' H',Gr K ρ B H ρ' B' H' -> WOk K ρ' B' hp' H' -> RepV K ρ' B' H' d v -> Q v H'
def QeB (K:PySem.W.Frag) (ρ:List Addr) (B:Addr -> Prop) (H:Hp) (hp':Hs) (Q:Hp -> Prop):Prop :=
  ∀ ρ' B' H',Gr K ρ B H ρ' B' H' -> WOk K ρ' B' hp' H' -> Q H'
def Qfv (K:PySem.W.Frag) (ρ:List Addr) (B:Addr -> Prop) (H:Hp) (ds:List DV) (hp':Hs) (Q:List V -> Hp -> Prop):Prop :=
  ∀ vs ρ' B' H',Gr K ρ B H ρ' B' H' -> WOk K ρ' B' hp' H' -> RepL K ρ' B' H' ds vs -> Q vs H'
def tD (K:PySem.W.Frag) (f:DEx):TE:=fun σ H Q=>∃ Z env ρ B hp d hp',SOk K Z env σ ρ B hp H /\ f env hp = some (d,hp') /\ Fol K ρ B H d hp' Q
def tDT (K:PySem.W.Frag) (f:DTx):TT:=fun σ H Q=>∃ Z env ρ B hp d hp',SOk K Z env σ ρ B hp H /\ f env hp = some (d,hp') /\ QeB K ρ B H hp' (Q d)
def tDA (K:PySem.W.Frag) (f:DAx):TA:=fun σ H Q=>∃ Z env ρ B hp ds hp',SOk K Z env σ ρ B hp H /\ f env hp = some (ds,hp') /\ Qfv K ρ B H ds hp' Q
def DE (X:Cx) (e:Expr) (f:DEx):Prop:=PE X e (tD X.K f)
def DT (X:Cx) (e:Expr) (f:DTx):Prop:=PT X e (tDT X.K f)
def DW (X:Cx) (e:Expr) (f:DTx):Prop:=PW X e (tDT X.K f)
def DA (X:Cx) (es:List Expr) (f:DAx):Prop:=PA X es (tDA X.K f)
def FolS (K:PySem.W.Frag) (Z:Ent) (ρ:List Addr) (B:Addr -> Prop) (H:Hp) (fl:Fl) (env':En) (hp':Hs) (D:UH):Prop :=
  ∀ σ' ρ' B' H', Gs K ρ B H ρ' B' H' -> SOk K Z env' σ' ρ' B' hp' H' -> match fl with
    | .nx=>D.nx σ' H'
    | .bk=>D.bk σ' H'
    | .ct=>D.ct σ' H'
    | .rt d=>∀ v,RepV K ρ' B' H' d v -> D.rt v H'
def tDS (K:PySem.W.Frag) (f:DSx):TS:=fun D σ H=>∃ Z env ρ B hp fl env' hp',SOk K Z env σ ρ B hp H /\ f env hp = some ((fl,env'),hp') /\ FolS K Z ρ B H fl env' hp' D
def DS (X:Cx) (st:Stmt) (f:DSx):Prop:=PS X st (tDS X.K f)
def DSs (X:Cx) (st:List Stmt) (f:DSx):Prop:=PSs X st (tDS X.K f)
section
variable {X:Cx}
theorem _root_.L2.PE.imp {e:Expr} {t t':TE} (h:PE X e t) (i:∀ σ H Q,t' σ H Q -> t σ H Q):PE X e t':=fun pins s σ H Q I q=>h pins s σ H Q I (i σ H Q q)
theorem _root_.L2.PT.imp {e:Expr} {t t':TT} (h:PT X e t) (i:∀ σ H Q,t' σ H Q -> t σ H Q):PT X e t':=fun pins s σ H Q I q=>h pins s σ H Q I (i σ H Q q)
theorem _root_.L2.PW.imp {e:Expr} {t t':TT} (h:PW X e t) (i:∀ σ H Q,t' σ H Q -> t σ H Q):PW X e t':=fun wh pins s σ H Q I q=>h wh pins s σ H Q I (i σ H Q q)
theorem _root_.L2.PA.imp {es:List Expr} {t t':TA} (h:PA X es t) (i:∀ σ H Q,t' σ H Q -> t σ H Q):PA X es t':=fun pos pins s σ H Q I q=>h pos pins s σ H Q I (i σ H Q q)
theorem _root_.L2.PS.imp {st:Stmt} {t t':TS} (h:PS X st t) (i:∀ Dn σ H,t' Dn σ H -> t Dn σ H):PS X st t':=fun pins s σ H Dn I q=>h pins s σ H Dn I (i Dn σ H q)
theorem _root_.L2.PSs.imp {st:List Stmt} {t t':TS} (h:PSs X st t) (i:∀ Dn σ H,t' Dn σ H -> t Dn σ H):PSs X st t':=fun pins s σ H Dn I q=>h pins s σ H Dn I (i Dn σ H q)
def kG (K:PySem.W.Frag) (H:Hp):Prop:=∀ a o,H a = some o -> K.lookup a = none
theorem Inv.kfree {pins:List (Addr × Obj)} {σ:St} {H:Hp} {s:Shared} (I:Inv X pins σ H s):kG X.K H:=fun a o e=>by
  cases q:X.K.lookup a with
  | none=>rfl
  | some ob =>
    have:=(I.bs a ob (I.ok.mod.kin a ob q)).2
    rw [e] at this;cases this
theorem _root_.L2.PE.kf {e:Expr} {t:TE} (h:PE X e t):PE X e (fun σ H Q=>t σ H fun v H'=>kG X.K H' -> Q v H'):=fun pins s σ H Q I q =>
  thn (h pins s σ H _ I q) fun u s' ⟨v,H',I',r,z⟩=>⟨v,H',I',r,z (Inv.kfree I')⟩
theorem Qf {α β:Type} {f:M α} {g:α -> M β} {hp hp':Hs} {y:β} (h:(f >>= g) hp = some (y,hp')):∃ x hp1,f hp = some (x,hp1) /\ g x hp1 = some (y,hp'):=by
  change (f hp).bind (fun p=>g p.1 p.2) = some (y,hp') at h
  cases q:f hp with
  | none=>rw [q] at h;cases h
  | some p=>rw [q] at h;exact ⟨p.1,p.2,rfl,h⟩
theorem Qi {α:Type} {x y:α} {hp hp':Hs} (h:(pure x:M α) hp = some (y,hp')):x = y /\ hp = hp':=by
  change some (x,hp) = some (y,hp') at h
  cases h;exact ⟨rfl,rfl⟩
theorem tD.run {K:PySem.W.Frag} {f:DEx} {Z:Ent} {env:En} {σ:St} {ρ:List Addr} {B:Addr -> Prop} {hp hp1:Hs} {H:Hp} {d:DV} {Q:VK} (S:SOk K Z env σ ρ B hp H) (e:f env hp = some (d,hp1))
    (k:∀ v ρ' B' H',Gr K ρ B H ρ' B' H' -> SOk K Z env σ ρ' B' hp1 H' -> RepV K ρ' B' H' d v -> Q v H'):tD K f σ H Q :=
  ⟨Z,env,ρ,B,hp,d,hp1,S,e,fun v ρ' B' H' g W r=>k v ρ' B' H' g (S.grow g W) r⟩
def Qd (i:Nat):DEx:=fun env=>match env[i]? with
  | some (.val d)=>pure d
  | _=>failure
def eC (d:DV):DEx:=fun _=>pure d
theorem gx {i:Nat} {env:En} {hp hp':Hs} {d:DV} (h:Qd i env hp = some (d,hp')):env[i]? = some (.val d) /\ hp = hp':=by
  unfold Qd at h
  cases q:env[i]? with
  | none=>rw [q] at h;cases h
  | some z =>
    rw [q] at h
    cases z with
    | val x=>obtain ⟨rfl,rfl⟩:=Qi h;exact ⟨rfl,rfl⟩
    | un=>cases h
    | acc _=>cases h
theorem Qa (i:Nat) {x:Str} {pos:Pos} (hN:X.N[i]? = some x:=by rfl) (hv:Vis X.env.scope x:=by first | exact Or.inl rfl | exact Or.inr (Or.inl rfl) | exact Or.inr (Or.inr rfl)) (hd:(x == ("__debug__" : Str)) = false:=by decide)
    (hcd:(x == ("__classdict__" : Str)) = false:=by decide):DE X (.Name x pos) (Qd i) :=
  (Qd2 hN hv hd hcd).imp fun σ H Q ⟨Z,env,ρ,B,hp,d,hp',S,e,k⟩=>by
    obtain ⟨e1,rfl⟩:=gx e
    obtain ⟨v,h1,h2⟩:=S.slot i d e1
    exact ⟨v,h1,k v ρ B H Gr.refl S.wo h2⟩
theorem qE {e:Expr} {d:DV} {v:V} (h:PE X e (tC v)) (r:∀ K ρ B H,RepV K ρ B H d v):DE X e (eC d) :=
  h.imp fun σ H Q ⟨Z,env,ρ,B,hp,d',hp',S,e,k⟩=>by
    obtain ⟨rfl,rfl⟩:=Qi e
    exact k v ρ B H Gr.refl S.wo (r _ _ _ _)
theorem Qo {i:Int} {j pos}:DE X (.Constant (.int i) j pos) (eC (.int i)):=qE QdX fun _ _ _ _=>by unfold RepV;rfl
theorem YI {b:Bool} {j pos}:DE X (.Constant (.bool b) j pos) (eC (.bl b)):=qE Qe7 fun _ _ _ _=>by unfold RepV;rfl
theorem Jm {j pos}:DE X (.Constant .none j pos) (eC .non):=qE QdY fun _ _ _ _=>by unfold RepV;rfl
theorem Je {x:Str} {j pos}:DE X (.Constant (.str x) j pos) (eC (.str x)):=qE Qd0 fun _ _ _ _=>by unfold RepV;rfl
theorem QY {x:Str} {i:Int} {t:Tok} {pos:Pos} (hg:Gl X x) (hm:X.mg x = some (.int i t)) (hd:(x == ("__debug__" : Str)) = false:=by decide):DE X (.Name x pos) (eC (.int i)) :=
  qE (uM (v:=.int i) hg hm ⟨t,rfl⟩ hd) fun _ _ _ _=>by unfold RepV;rfl
def tP2 (K:PySem.W.Frag) (g:DV -> DV -> M DV):R2:=fun x y H Q=>∃ ρ B hp dx dy d hp',WOk K ρ B hp H /\ RepV K ρ B H dx x /\ RepV K ρ B H dy y /\ g dx dy hp = some (d,hp') /\ Fol K ρ B H d hp' Q
def P2 (X:Cx) (f:Value -> Value -> Sem Value) (g:DV -> DV -> M DV):Prop:=OpR X f (tP2 X.K g)
def Qn (g:DV -> DV -> M DV) (a b:DEx):DEx:=fun env=>do let x <- a env;let y <- b env;g x y
variable {a b c:Expr} {fa fb fc:DEx} {pos:Pos}
theorem qJ {K:PySem.W.Frag} {g:DV -> DV -> M DV} {σ:St} {H:Hp} {Q:VK} (h:tD K (Qn g fa fb) σ H Q):tOp (tP2 K g) (tD K fa) (tD K fb) σ H Q:=by
  obtain ⟨Z,env,ρ,B,hp,d,hp',S,e,k⟩:=h
  obtain ⟨x,hp1,e1,e2⟩:=Qf e
  obtain ⟨y,hp2,e3,e4⟩:=Qf e2
  refine tD.run S e1 fun v ρ1 B1 H1 g1 S1 r1=>tD.run S1 e3 fun u ρ2 B2 H2 g2 S2 r2=>?_
  exact ⟨ρ2,B2,hp2,x,y,d,hp',S2.wo,RepV.grow S1.wo.rb g2 _ _ r1,r2,e4,fun w ρ' B' H' g W r=>k w ρ' B' H' (g1.trans (g2.trans g)) W r⟩
theorem Qy {op:Operator} {g:DV -> DV -> M DV} (ho:P2 X (binaryOp op) g) (ha:DE X a fa) (hb:DE X b fb):DE X (.BinOp a op b pos) (Qn g fa fb) :=
  (Qe9 ho ha hb).imp fun _ _ _ h=>qJ h
theorem jV {op:CmpOp} {g:DV -> DV -> M DV} (ho:P2 X (compareOp op) g) (ha:DE X a fa) (hb:DE X b fb) (hm:behindInMarks op b = false):DE X (.Compare a [op] [b] pos) (Qn g fa fb) :=
  (Qcg ho ha hb hm).imp fun _ _ _ h=>qJ h
def asB:DV -> M Bool
  | .bl b=>pure b
  | _=>failure
def eB (f:DEx):DTx:=fun env=>do asB (<- f env)
theorem qD {d:DV} {c:Bool} {hp hp':Hs} (h:asB d hp = some (c,hp')):d = .bl c /\ hp = hp':=by
  cases d with
  | bl b=>obtain ⟨rfl,rfl⟩:=Qi h;exact ⟨rfl,rfl⟩
  | _=>cases h
theorem RepV.blI {K:PySem.W.Frag} {ρ:List Addr} {B:Addr -> Prop} {H:Hp} {b:Bool} {v:V} (h:RepV K ρ B H (.bl b) v):v = .bl b:=by unfold RepV at h;exact h
theorem RepV.intI {K:PySem.W.Frag} {ρ:List Addr} {B:Addr -> Prop} {H:Hp} {b:Int} {v:V} (h:RepV K ρ B H (.int b) v):v = .int b:=by unfold RepV at h;exact h
theorem RepV.strI {K:PySem.W.Frag} {ρ:List Addr} {B:Addr -> Prop} {H:Hp} {b:Str} {v:V} (h:RepV K ρ B H (.str b) v):v = .str b:=by unfold RepV at h;exact h
theorem RepV.nonI {K:PySem.W.Frag} {ρ:List Addr} {B:Addr -> Prop} {H:Hp} {v:V} (h:RepV K ρ B H .non v):v = .non:=by unfold RepV at h;exact h
theorem RepV.tupI {K:PySem.W.Frag} {ρ:List Addr} {B:Addr -> Prop} {H:Hp} {ds:List DV} {v:V} (h:RepV K ρ B H (.tup ds) v):∃ a xs,v = .ref a /\ ¬ B a /\ SqT K H a xs /\ RepL K ρ B H ds xs:=by unfold RepV at h;exact h
theorem RepV.lstI {K:PySem.W.Frag} {ρ:List Addr} {B:Addr -> Prop} {H:Hp} {ds:List DV} {v:V} (h:RepV K ρ B H (.lst ds) v):∃ a xs,v = .ref a /\ ¬ B a /\ SqL K H a xs /\ RepL K ρ B H ds xs:=by unfold RepV at h;exact h
theorem RepV.refI {K:PySem.W.Frag} {ρ:List Addr} {B:Addr -> Prop} {H:Hp} {i:Nat} {v:V} (h:RepV K ρ B H (.ref i) v):∃ a,v = .ref a /\ ρ[i]? = some a:=by unfold RepV at h;exact h
section
variable {K:PySem.W.Frag} {ρ:List Addr} {B:Addr -> Prop} {H:Hp}
theorem XL {b:Bool}:RepV K ρ B H (.bl b) (.bl b):=by unfold RepV;rfl
theorem JO {b:Int}:RepV K ρ B H (.int b) (.int b):=by unfold RepV;rfl
theorem zg:RepV K ρ B H .non .non:=by unfold RepV;rfl
theorem zh {a:Addr} {ds:List DV} {xs:List V} (h1:¬ B a) (h2:SqT K H a xs) (h3:RepL K ρ B H ds xs):RepV K ρ B H (.tup ds) (.ref a):=by unfold RepV;exact ⟨a,xs,rfl,h1,h2,h3⟩
theorem Kt {a:Addr} {ds:List DV} {xs:List V} (h1:¬ B a) (h2:SqL K H a xs) (h3:RepL K ρ B H ds xs):RepV K ρ B H (.lst ds) (.ref a):=by unfold RepV;exact ⟨a,xs,rfl,h1,h2,h3⟩
end
theorem qI {e:Expr} {f:DEx} (h:DE X e f) (he:∀ whole,isTrue e X.env whole = (do let v <- whole;standAt e.pos;holding [v] (truthy v)):=by intro _;rfl):DT X e (eB f) :=
  (Qee h he).imp fun σ H Q ⟨Z,env,ρ,B,hp,d,hp',S,e,k⟩=>by
    obtain ⟨x,hp1,e1,e2⟩:=Qf e
    obtain ⟨rfl,rfl⟩:=qD e2
    exact tD.run S e1 fun v ρ1 B1 H1 g1 S1 r1=>⟨d,r1.blI,k ρ1 B1 H1 g1 S1.wo⟩
theorem Zp {op:CmpOp} {g:DV -> DV -> M DV} (ho:P2 X (compareOp op) g) (ha:DE X a fa) (hb:DE X b fb) (hm:behindInMarks op b = false):DT X (.Compare a [op] [b] pos) (eB (Qn g fa fb)) :=
  (Qcx ho ha hb hm).imp fun σ H Q ⟨Z,env,ρ,B,hp,d,hp',S,e,k⟩=>by
    obtain ⟨x,hp1,e1,e2⟩:=Qf e
    obtain ⟨rfl,rfl⟩:=qD e2
    exact qJ (tD.run S e1 fun v ρ1 B1 H1 g1 S1 r1=>⟨d,r1.blI,k ρ1 B1 H1 g1 S1.wo⟩)
def Yh (f g:DTx):DTx:=fun env=>do if <- f env then g env else pure false
def eOr (f g:DTx):DTx:=fun env=>do if <- f env then pure true else g env
def Xw (f:DTx):DTx:=fun env=>do let b <- f env;pure (!b)
def JR (f g:DEx):DEx:=fun env=>do if <- asB (<- f env) then g env else pure (.bl false)
def xY (f g:DEx):DEx:=fun env=>do if <- asB (<- f env) then pure (.bl true) else g env
def qm (f:DEx):DEx:=fun env=>do let b <- asB (<- f env);pure (.bl (!b))
def eIf (c:DTx) (f g:DEx):DEx:=fun env=>do if <- c env then f env else g env
theorem tDT.run {K:PySem.W.Frag} {f:DTx} {Z:Ent} {env:En} {σ:St} {ρ:List Addr} {B:Addr -> Prop} {hp hp1:Hs} {H:Hp} {d:Bool} {Q:Bool -> Hp -> Prop} (S:SOk K Z env σ ρ B hp H) (e:f env hp = some (d,hp1))
    (k:∀ ρ' B' H',Gr K ρ B H ρ' B' H' -> SOk K Z env σ ρ' B' hp1 H' -> Q d H'):tDT K f σ H Q :=
  ⟨Z,env,ρ,B,hp,d,hp1,S,e,fun ρ' B' H' g W=>k ρ' B' H' g (S.grow g W)⟩
variable {ca cb:DTx} {rest:List Expr}
theorem uv (h:DT X a ca):DW X (.BoolOp .And [a] pos) ca:=QcA h
theorem UY (h:DT X a ca):DW X (.BoolOp .Or [a] pos) ca:=Qeh h
theorem Qac (ha:DT X a ca) (hb:DW X (.BoolOp .And (b :: rest) pos) cb):DW X (.BoolOp .And (a :: b :: rest) pos) (Yh ca cb) :=
  (Qeg ha hb).imp fun σ H Q ⟨Z,env,ρ,B,hp,d,hp',S,e,k⟩=>by
    obtain ⟨x,hp1,e1,e2⟩:=Qf e
    refine tDT.run S e1 fun ρ1 B1 H1 g1 S1=>?_
    cases x with
    | true=>exact vt (tDT.run S1 e2 fun ρ2 B2 H2 g2 S2=>k ρ2 B2 H2 (g1.trans g2) S2.wo)
    | false =>
      obtain ⟨rfl,rfl⟩:=Qi e2
      exact vq (k ρ1 B1 H1 g1 S1.wo)
theorem uw (ha:DT X a ca) (hb:DW X (.BoolOp .Or (b :: rest) pos) cb):DW X (.BoolOp .Or (a :: b :: rest) pos) (eOr ca cb) :=
  (Qfb ha hb).imp fun σ H Q ⟨Z,env,ρ,B,hp,d,hp',S,e,k⟩=>by
    obtain ⟨x,hp1,e1,e2⟩:=Qf e
    refine tDT.run S e1 fun ρ1 B1 H1 g1 S1=>?_
    cases x with
    | false=>exact vq (tDT.run S1 e2 fun ρ2 B2 H2 g2 S2=>k ρ2 B2 H2 (g1.trans g2) S2.wo)
    | true =>
      obtain ⟨rfl,rfl⟩:=Qi e2
      exact vt (k ρ1 B1 H1 g1 S1.wo)
theorem DW.pt {e:Expr} {f:DTx} (h:DW X e f):DT X e f:=h _
theorem jZ (h:DT X a ca):DT X (.UnaryOp .Not a pos) (Xw ca) :=
  (Qed h).imp fun σ H Q ⟨Z,env,ρ,B,hp,d,hp',S,e,k⟩=>by
    obtain ⟨x,hp1,e1,e2⟩:=Qf e
    obtain ⟨rfl,rfl⟩:=Qi e2
    exact tDT.run S e1 fun ρ1 B1 H1 g1 S1=>k ρ1 B1 H1 g1 S1.wo
theorem ve {op:BoolOp} (h:DE X a fa):DE X (.BoolOp op [a] pos) fa:=QdZ h
theorem UV (ha:DE X a fa) (hb:DE X (.BoolOp .And (b :: rest) pos) fb):DE X (.BoolOp .And (a :: b :: rest) pos) (JR fa fb) :=
  (QdV ha hb).imp fun σ H Q ⟨Z,env,ρ,B,hp,d,hp',S,e,k⟩=>by
    obtain ⟨x,hp1,e1,e2⟩:=Qf e
    obtain ⟨c,hp2,e3,e4⟩:=Qf e2
    obtain ⟨rfl,rfl⟩:=qD e3
    refine tD.run S e1 fun v ρ1 B1 H1 g1 S1 r1=>⟨c,r1.blI,?_⟩
    cases c with
    | true=>exact vt (tD.run S1 e4 fun v ρ2 B2 H2 g2 S2 r2=>k v ρ2 B2 H2 (g1.trans g2) S2.wo r2)
    | false =>
      obtain ⟨rfl,rfl⟩:=Qi e4
      exact vq (k _ ρ1 B1 H1 g1 S1.wo XL)
theorem Qc2 (hc:DT X c ca) (ha:DE X a fa) (hb:DE X b fb):DE X (.IfExp c a b pos) (eIf ca fa fb) :=
  (QaX hc ha hb).imp fun σ H Q ⟨Z,env,ρ,B,hp,d,hp',S,e,k⟩=>by
    obtain ⟨x,hp1,e1,e2⟩:=Qf e
    refine tDT.run S e1 fun ρ1 B1 H1 g1 S1=>?_
    cases x with
    | true=>exact vt (tD.run S1 e2 fun v ρ2 B2 H2 g2 S2 r2=>k v ρ2 B2 H2 (g1.trans g2) S2.wo r2)
    | false=>exact vq (tD.run S1 e2 fun v ρ2 B2 H2 g2 S2 r2=>k v ρ2 B2 H2 (g1.trans g2) S2.wo r2)
def Qm:DAx:=fun _=>pure []
def Qc (f:DEx) (g:DAx):DAx:=fun env=>do let x <- f env;let xs <- g env;pure (x :: xs)
theorem tDA.run {K:PySem.W.Frag} {f:DAx} {Z:Ent} {env:En} {σ:St} {ρ:List Addr} {B:Addr -> Prop} {hp hp1:Hs} {H:Hp} {ds:List DV} {Q:List V -> Hp -> Prop} (S:SOk K Z env σ ρ B hp H) (e:f env hp = some (ds,hp1))
    (k:∀ vs ρ' B' H',Gr K ρ B H ρ' B' H' -> SOk K Z env σ ρ' B' hp1 H' -> RepL K ρ' B' H' ds vs -> Q vs H'):tDA K f σ H Q :=
  ⟨Z,env,ρ,B,hp,ds,hp1,S,e,fun vs ρ' B' H' g W r=>k vs ρ' B' H' g (S.grow g W) r⟩
theorem Qk:DA X [] Qm:=pa_nil.imp fun σ H Q ⟨Z,env,ρ,B,hp,ds,hp',S,e,k⟩=>by
  obtain ⟨rfl,rfl⟩:=Qi e
  exact k [] ρ B H Gr.refl S.wo RepL.nil
theorem Qb {e:Expr} {es:List Expr} {f:DEx} {g:DAx} (ha:DE X e f) (hr:DA X es g) (hs:starEach (e :: es) X.env = (false,eval e X.env) :: starEach es X.env:=by rfl):DA X (e :: es) (Qc f g) :=
  (jx ha hr hs).imp fun σ H Q ⟨Z,env,ρ,B,hp,ds,hp',S,e,k⟩=>by
    obtain ⟨x,hp1,e1,e2⟩:=Qf e
    obtain ⟨xs,hp2,e3,e4⟩:=Qf e2
    obtain ⟨rfl,rfl⟩:=Qi e4
    exact tD.run S e1 fun v ρ1 B1 H1 g1 S1 r1=>tDA.run S1 e3 fun vs ρ2 B2 H2 g2 S2 r2=>k _ ρ2 B2 H2 (g1.trans g2) S2.wo (RepL.cons (RepV.grow S1.wo.rb g2 _ _ r1) r2)
def lim:Nat:=100000
theorem Kg:lim <= sizeLine:=by decide
def QB (c:Bool):M Unit:=if c then pure () else failure
theorem QJ {c:Bool} {hp hp':Hs} {u:Unit} (h:QB c hp = some (u,hp')):c = true /\ hp = hp':=by
  cases c with
  | true=>obtain ⟨_,rfl⟩:=Qi (show (pure ():M Unit) hp = some (u,hp') from h);exact ⟨rfl,rfl⟩
  | false=>cases h
def zH (ds:List DV):Bool:=decide (ds.length <= lim)
theorem qV {ds:List DV} (h:zH ds = true):ds.length <= sizeLine:=Nat.le_trans (of_decide_eq_true h) Kg
def ZC (f:DAx):DEx:=fun env=>do let xs <- f env;QB (zH xs);pure (.tup xs)
def qc (f:DAx):DEx:=fun env=>do let xs <- f env;QB (zH xs);pure (.lst xs)
theorem jk {K:PySem.W.Frag} {ρ:List Addr} {B:Addr -> Prop} {H:Hp} {hp:Hs} {ds:List DV} {xs:List V} {Q:VK} (W:WOk K ρ B hp H) (r:RepL K ρ B H ds xs) (k:Fol K ρ B H (.tup ds) hp Q):∀ p,H p = none -> Q (.ref p) (upd H p (.tup xs)):=fun p hp' =>
  k _ ρ B _ (Gr.laid hp') (W.laid hp') (zh (fun z=>W.bt p z hp') (SqT.of Zh) (RepL.grow W.rb (Gr.laid hp') _ _ r))
theorem U0 {K:PySem.W.Frag} {ρ:List Addr} {B:Addr -> Prop} {H:Hp} {hp:Hs} {ds:List DV} {xs:List V} {Q:VK} (W:WOk K ρ B hp H) (r:RepL K ρ B H ds xs) (k:Fol K ρ B H (.lst ds) hp Q):∀ p,H p = none -> Q (.ref p) (upd H p (.lst xs)):=fun p hp' =>
  k _ ρ B _ (Gr.laid hp') (W.laid hp') (Kt (fun z=>W.bt p z hp') (SqL.of Zh) (RepL.grow W.rb (Gr.laid hp') _ _ r))
theorem Fol.after {K:PySem.W.Frag} {ρ ρ1:List Addr} {B B1:Addr -> Prop} {H H1:Hp} {hp':Hs} {d:DV} {Q:VK} (g:Gr K ρ B H ρ1 B1 H1) (k:Fol K ρ B H d hp' Q):Fol K ρ1 B1 H1 d hp' Q:=fun v ρ' B' H' g' W r=>k v ρ' B' H' (g.trans g') W r
theorem Zt {es:List Expr} {f:DAx} {x1} (h:DA X es f):DE X (.Tuple es x1 pos) (ZC f) :=
  (Qd1 h).imp fun σ H Q ⟨Z,env,ρ,B,hp,d,hp',S,e,k⟩=>by
    obtain ⟨xs,hp1,e1,e2⟩:=Qf e
    obtain ⟨_,hp2,e3,e4⟩:=Qf e2
    obtain ⟨hs,rfl⟩:=QJ e3
    obtain ⟨rfl,rfl⟩:=Qi e4
    exact tDA.run S e1 fun vs ρ1 B1 H1 g1 S1 r1=>⟨by rw [<- r1.length];exact qV hs,jk S1.wo r1 (k.after g1)⟩
theorem vc {es:List Expr} {f:DAx} (h:DA X es f):DE X (.List es pos) (qc f) :=
  (QaY h).imp fun σ H Q ⟨Z,env,ρ,B,hp,d,hp',S,e,k⟩=>by
    obtain ⟨xs,hp1,e1,e2⟩:=Qf e
    obtain ⟨_,hp2,e3,e4⟩:=Qf e2
    obtain ⟨hs,rfl⟩:=QJ e3
    obtain ⟨rfl,rfl⟩:=Qi e4
    exact tDA.run S e1 fun vs ρ1 B1 H1 g1 S1 r1=>⟨by rw [<- r1.length];exact qV hs,U0 S1.wo r1 (k.after g1)⟩
end
end D
namespace L2
open PySem PySem.Spec PyProof.Rows
def XI (X:Cx) (scope:Scope) (cl:List (Str × Addr)) (C:Addr) (N:List Str) (s₀:Shared) (H₀:Hp) (ex:List Addr):Cx where
  prog:=X.prog
  w:=X.w
  K:=X.K
  mg:=X.mg
  base:=X.base
  A:=X.A
  N:=N
  s₀:=s₀
  H₀:=H₀
  env:=compEnvC scope cl C X.env
  outer:=X.stack
  stack:=X.stack
  ex:=ex
  fn:=fun _=>false
  calm:=X.calm
  pn:=[]
  xe:=fun _ _=>False
def AllP {α:Type} (P:α -> Prop):List α -> Prop
  | []=>True
  | x :: r=>P x /\ AllP P r
theorem AllP.mem {α:Type} {P:α -> Prop}:∀ {l:List α} {x:α},AllP P l -> x ∈ l -> P x
  | [],_,_,h=>nomatch h
  | y :: r,x,⟨h1,h2⟩,h=>(List.mem_cons.mp h).elim (fun e=>e ▸ h1) fun e=>AllP.mem h2 e
def Caps (X:Cx) (scope:Scope) (cl:List (Str × Addr)):List Str -> List Nat -> Prop
  | [],[]=>True
  | y :: ys, i :: is => X.N[i]? = some y /\ (X.env.kindOf y = some .cell ∨ X.env.kindOf y = some .free) /\ (∃ c, cl.lookup y = some c) /\
      (relabel scope X.env).names.lookup y ≠ some .local /\ Caps X scope cl ys is
  | _,_=>False
theorem Caps.get {X:Cx} {scope:Scope} {cl:List (Str × Addr)}:∀ {ys:List Str} {is:List Nat} {j:Nat} {y:Str},Caps X scope cl ys is -> ys[j]? = some y ->
    ∃ i,is[j]? = some i /\ X.N[i]? = some y /\ (X.env.kindOf y = some .cell ∨ X.env.kindOf y = some .free) /\ (∃ c,cl.lookup y = some c) /\ (relabel scope X.env).names.lookup y ≠ some .local
  | [],_,_,_,_,h=>by simp at h
  | y :: ys,[],_,_,h,_=>by simp [Caps] at h
  | y :: ys,i :: is,0,z,⟨h1,h2,h3,h4,_⟩,h=>by simp at h;subst h;exact ⟨i,rfl,h1,h2,h3,h4⟩
  | y :: ys,i :: is,j + 1,z,⟨_,_,_,_,h5⟩,h=>by
    obtain ⟨k,a,b⟩:=Caps.get h5 (by simpa using h)
    exact ⟨k,by simpa using a,b⟩
theorem Caps.length {X:Cx} {scope:Scope} {cl:List (Str × Addr)}:∀ {ys:List Str} {is:List Nat},Caps X scope cl ys is -> ys.length = is.length
  | [],[],_=>rfl
  | [],_ :: _,h=>by simp [Caps] at h
  | _ :: _,[],h=>by simp [Caps] at h
  | _ :: ys,_ :: is,⟨_,_,_,_,h⟩=>by simp [Caps.length h]
structure KL (X:Cx) (x:Str) (scope:Scope) (cl:List (Str × Addr)) (caps:List Str) (idx:List Nat):Prop where
  clos:closureFor scope X.env = pure cl
  cell:∀ y ∈ scope.names,y.2 ≠ .cell
  kind:scope.kind = .function
  names:∀ y ∈ scope.names,y.2 = .local -> scope.names.lookup y.1 = some .local
  hx:scope.names.lookup x = some .local
  cls:AllP (fun p:Str × Addr=>X.env.cells.lookup p.1 = some p.2) cl
  has:((relabel scope X.env).names.all fun p=>!(p.2 == .cell || p.2 == .free) || (cl.lookup p.1).isSome) = true
  cps:Caps X scope cl caps idx
  nd:(x :: caps).Nodup
def cσ (idx:List Nat) (σ:St) (o:Option V):St:=o :: idx.map fun i=>(σ[i]?).join
def PTs (X:Cx) (ifs:List Expr) (t:TT):Prop :=
  ∀ (pins : List (Addr × Obj)) (s : Shared) (σ : St) (H : Hp) (Q : Bool -> Hp -> Prop), Inv X pins σ H s -> t σ H Q ->
    wpAny (model X.prog X.w) X.A (forIn ifs true fun c r=>if r = true then do let ok <- isTrue c X.env (eval c X.env);pure (ForInStep.yield ok) else pure (ForInStep.yield r)) (TP X pins σ Q) X.xe s
theorem Qcy {X:Cx}:PTs X [] (fun _ H Q=>Q true H):=fun pins s σ H Q I h=>wpAny_tests_nil ⟨H,I,h⟩
theorem Qcz {X:Cx} {c:Expr} {t:TT} (h:PT X c t):PTs X [c] t:=fun pins s σ H Q I q=>wpAny_tests_one (h pins s σ H Q I q)
section
variable {prog:Program} {w:World} {A:Around} {R:Result -> Shared -> Prop} {s:Shared}
theorem UU {elt target iter:Expr} {ifs:List Expr} {scope:Scope} {pos:Pos} {it acc:Value} {env:Env} (I:Nat -> Shared -> Prop)
    (turn:∀ n s,I n s -> wpAny (model prog w) A (pyNext it) (fun r s₁=>match r with
      | none=>R (.ok .next) s₁
      | some v=>wpAny (model prog w) A (letOwnedTupleGo target it v) (fun _ s₁'=>wpAny (model prog w) A (assign target env v) (fun _ s₂ =>
          wpAny (model prog w) A (forIn ifs true fun c r=>if r = true then do let ok <- isTrue c env (eval c env);pure (ForInStep.yield ok) else pure (ForInStep.yield r)) (fun ok s₃ =>
            if ok = true then wpAny (model prog w) A (eval elt env) (fun x s₄ =>
              wpAny (model prog w) A (call (.builtin "list.append") [acc,x]) (fun _ s₅=>∃ m,m < n /\ I m s₅) (fun _ _=>False) s₄) (fun _ _=>False) s₃
            else ∃ m,m < n /\ I m s₃) (fun _ _=>False) s₂) (fun _ _=>False) s₁') (fun _ _=>False) s₁) (fun _ _=>False) s)
    (n:Nat) (h:I n s) :
    codeAny (model prog w) A (.compLoop (.ListComp elt [⟨target,iter,ifs,0⟩] scope pos) 0 it acc env) R s:=by
  refine codeAny_loop rfl I (fun n s hI=>?_) n h
  show wpAny _ A ((compTurn (.ListComp elt [⟨target,iter,ifs,0⟩] scope pos) 0 it acc env).onRaise (fun x=>do noteFrame x env;theTreesLotGoes x)) _ _ s
  refine wpAny_noted ?_
  rw [compTurn_list]
  refine wpAny_bind (wpAny_standAt (wpAny_bind (wpAny_mono (turn n s hI) (fun r s₁ h₁=>?_) fun _ _ h'=>h'.elim)))
  cases r with
  | none=>exact wpAny_pure h₁
  | some v =>
    refine wpAny_bind (wpAny_mono h₁ (fun _ s₁' h₁'=>?_) fun _ _ h'=>h'.elim)
    refine wpAny_bind (wpAny_mono h₁' (fun _ s₂ h₂=>wpAny_bind (wpAny_mono h₂ (fun ok s₃ h₃=>?_) fun _ _ h'=>h'.elim)) fun _ _ h'=>h'.elim)
    cases ok with
    | false=>exact wpAny_pure ⟨rfl,h₃⟩
    | true =>
      exact wpAny_bind (wpAny_bind (wpAny_mono h₃ (fun x s₄ h₄=>wpAny_bind (wpAny_mono h₄ (fun _ s₅ h₅=>wpAny_pure (wpAny_pure ⟨rfl,h₅⟩)) fun _ _ h'=>h'.elim)) fun _ _ h'=>h'.elim))
end
def uT (K:PySem.W.Frag) (wi:TI) (tt:TT) (te:TE) (idx:List Nat):TE:=fun σ H Q=>wi σ H fun J H1=>∀ D,H1 D = none -> K.lookup D = none -> ∃ W:Nat -> Nat -> List V -> Hp -> Prop,(∃ m,W 0 m [] (upd H1 D (.lst []))) /\
  ∀ i m ys H, W i m ys H -> H D = some (.lst ys) /\ ((J.stop i H /\ Q (.ref D) H) ∨ (J.go i H /\ ∀ x H', J.yld i H x H' -> tt (cσ idx σ (some x)) H' fun b H2 =>
    if b = true then te (cσ idx σ (some x)) H2 fun y H3=>H3 D = some (.lst ys) /\ ys.length < sizeLine /\ ∃ m',m' < m /\ W (i + 1) m' (ys ++ [y]) (upd H3 D (.lst (ys ++ [y])))
    else ∃ m',m' < m /\ W (i + 1) m' ys H2))
section
variable {X:Cx} {elt iter:Expr} {x:Str} {px:Pos} {ifs:List Expr} {scope:Scope} {cl:List (Str × Addr)} {pos:Pos} {caps:List Str} {idx:List Nat} {wi:TI} {tt:TT} {te:TE}
theorem KW {E:Value -> Shared -> Prop} {use:Option (Value -> Sem Unit)} {QQ:Value -> Shared -> Prop} {newpos:Pos} (S:KL X x scope cl caps idx) (hc:X.calm = true) (hi:PI X (.Name x px) iter wi)
    (ht:∀ C s₀ H₀ ex,PTs (XI X scope cl C (x :: caps) s₀ H₀ ex) ifs tt) (he:∀ C s₀ H₀ ex,PE (XI X scope cl C (x :: caps) s₀ H₀ ex) elt te)
    {pins:List (Addr × Obj)} {s:Shared} {σ:St} {H:Hp} {Q:VK} (I:Inv X pins σ H s) (h:uT X.K wi tt te idx σ H Q)
    (hE:X.xe = E)
    (hend:∀ (D C:Addr) (H':Hp) (s':Shared) (m:Str -> Option Value),Inv X pins σ H' s' -> Q (.ref D) H' -> s'.heap.Ns C m -> H' C = none -> C ≠ X.env.locals -> X.s₀.heap.objs.size <= C -> (∀ x c,X.env.cells.lookup x = some c -> c ≠ C) -> (∀ p ∈ X.pn ++ pins,p.1 ≠ C) ->
      compPost (model X.prog X.w) X.A E use QQ (.ref D) C (.ok .next) s')
    (hs:∀ x,foldedSetIterable iter X.env x = pure x:=by intro _;rfl) :
    wpAny (model X.prog X.w) X.A (comprehension (.ListComp elt [⟨.Name x px,iter,ifs,0⟩] scope pos) scope X.env newpos (newList []) false (eval iter X.env) use) QQ E s:=by
  subst hE
  refine wpAny_comprehension_free (use:=use) rfl hs S.clos S.kind S.names (thn (hi pins s σ H _ I h) fun xv s1 h1=>thn h1 fun itv s2 h2=>?_)
  obtain ⟨it,fp,tn,J,H2,rfl,I2,T,st2,f2,hQ⟩:=h2
  refine wpAny_newObj_type (wpAny_newFunctionEnv S.cell (by intro y hy;simp at hy) (fun h₁ hns₁ hsb₁=>?_) S.kind)
  dsimp only at hns₁ hsb₁ ⊢
  generalize hH2:s2.heap.push { cls:=.type "list", dict:=none,data:=.seq ([]:List Value).toArray } = hp3 at hns₁ hsb₁ ⊢
  have hC:hp3.objs.size = s2.heap.objs.size + 1:=by rw [<- hH2,Heap.size_push]
  have keep3:∀ b o,s2.heap.get? b = some o -> hp3.get? b = some o:=fun b o e=>hH2 ▸ Heap.get?_push_of_some _ e
  have hDf:H2 s2.heap.objs.size = none:=I2.hok.fresh (Nat.le_refl _)
  have I3:Inv X pins σ (upd H2 s2.heap.objs.size (.lst [])) { s2 with heap:=hp3 } :=
    I2.laid (t':=s2.toks) keep3 (Nat.le_refl _) ⟨Nat.zero_le _,[],_,.nil,hH2 ▸ Heap.get?_push_size _ rfl⟩
  have hDk:X.K.lookup s2.heap.objs.size = none:=by
    cases q:X.K.lookup s2.heap.objs.size with
    | none=>rfl
    | some o=>exact absurd (Heap.lt_size (I2.kIn _ o q)) (Nat.lt_irrefl _)
  obtain ⟨W,⟨m0,w0⟩,turn⟩:=hQ _ hDf hDk
  generalize hDd:s2.heap.objs.size = D at *
  generalize hCc:hp3.objs.size = C at *
  have ltC:∀ b o,hp3.get? b = some o -> b ≠ C:=fun b o e=>by rw [<- hCc];exact Nat.ne_of_lt (Heap.lt_size e)
  have keep4:∀ b o,hp3.get? b = some o -> h₁.get? b = some o:=fun b o e=>hsb₁.extBut b o (ltC b o e) (Heap.get?_push_of_some _ e)
  have s3sz:({ s2 with heap:=hp3 }:Shared).heap.objs.size = C:=hCc
  have clE:∀ y c,cl.lookup y = some c -> X.env.cells.lookup y = some c:=fun y c e=>S.cls.mem (PySem.mem_of_lookup e)
  have fpLt:∀ b ∈ fp,∃ o,s2.heap.get? b = some o:=fun b hb=>let ⟨o,e,_⟩:=T.obj _ _ st2 b hb;⟨o,e⟩
  have fpC:∀ b ∈ fp,b ≠ C:=fun b hb=>let ⟨o,e⟩:=fpLt b hb;ltC b o (keep3 b o e)
  have fpD:∀ b ∈ fp,b ≠ D:=fun b hb=>let ⟨o,e⟩:=fpLt b hb;by rw [<- hDd];exact Nat.ne_of_lt (Heap.lt_size e)
  have fr3:∀ b ∈ fp,(upd H2 D (.lst [])) b = none:=fun b hb=>by rw [QU (fpD b hb)];exact (f2 b hb).1
  have cellLt:∀ y c,X.env.cells.lookup y = some c -> c ≠ C:=fun y c e=>let ⟨v,o,ho,_⟩:=I3.cell y c e;ltC c o ho
  have fpStk:∀ b ∈ fp,b ∉ frs X.stack:=fun b hb z=>(List.mem_cons.mp (I2.stkSub b z)).elim (f2 b hb).2.1 (f2 b hb).2.2.1
  let X':=XI X scope cl C (x :: caps) { s2 with heap:=hp3 } (upd H2 D (.lst [])) fp
  have ok':X'.Ok:=by
    refine ⟨I3.ok.mod,by show (relabel scope X.env).kind = _;exact S.kind,I3.ok.glob,I3.ok.blt,by show hp3.objs.size <= C;rw [hCc];exact Nat.le_refl _,fun y z c h1 h2=>I3.ok.inj y z c (clE y c h1) (clE z c h2),fun y hy=>?_,
      fun y c z=>(by cases z),I3.ok.hd,I3.ok.frames,.inl rfl,fun b hb=>⟨fpC b hb,fun y c e=>(f2 b hb).2.2.2.2.1 y c (clE y c e)⟩,I3.bs,Nat.le_trans I3.ok.bsz I3.sz,
      fun b o e hb=>?_,fun b hb=>fpStk b hb,I3.stack,I3.stkFree⟩
    . have hy':(relabel scope X.env).names.lookup y = some .cell ∨ (relabel scope X.env).names.lookup y = some .free:=hy
      have q:=S.has
      rw [List.all_eq_true] at q
      have:(cl.lookup y).isSome = true:=by
        rcases hy' with z | z
        . have q:=q _ (PySem.mem_of_lookup z);simpa using q
        . have q:=q _ (PySem.mem_of_lookup z);simpa using q
      exact Option.isSome_iff_exists.mp this
    . have:=(f2 b hb).2.2.2.1
      have e3:=(I2.ok.bs b o e).1
      rcases this with z | z
      . exact I2.ok.noex b o e z
      . exact absurd (Nat.lt_of_lt_of_le (Heap.lt_size e3) z) (Nat.lt_irrefl _)
  have capsLen:=S.cps.length
  have I4:Inv X' [] (cσ idx σ none) (upd H2 D (.lst [])) { s2 with heap:=h₁,toks:=s2.toks + ([]:List (Str × Value)).length }:=by
    refine ⟨ok',rfl,I3.bare,Un.kept keep4,⟨_,hns₁,fun i y v e1 e2 e3=>?_⟩,fun y c e=>?_,?_,fun y c e=>I3.freeC y c (clE y c e),fun p hp=>absurd (show p ∈ ([]:List (Addr × Obj)) from hp) (by simp),I3.hok.kept keep4,?_⟩
    . cases i with
      | zero=>exact absurd e2 (by simp [cσ])
      | succ j =>
        obtain ⟨k,h1,h2,h3,⟨c,h4⟩,h5⟩:=S.cps.get (show caps[j]? = some y by have e1':(x :: caps)[j + 1]? = some y:=e1;simpa using e1')
        have e2':(σ[k]?).join = some v:=by simpa [cσ,h1] using e2
        have e2'':σ[k]? = some (some v):=by
          cases q:σ[k]? with
          | none=>rw [q] at e2';cases e2'
          | some z=>rw [q] at e2';exact congrArg some e2'
        obtain ⟨mL,hnL,hl⟩:=I3.loc
        have vis:Vis X.env.scope y:=by rcases h3 with z | z;exact .inr (.inl z);exact .inr (.inr z)
        obtain ⟨u,r,l⟩:=hl k y v h2 e2'' vis
        refine ⟨u,r,.inr ⟨?_,c,h4,?_⟩⟩
        . have e3':(relabel scope X.env).names.lookup y = some .local ∨ (relabel scope X.env).names.lookup y = some .cell ∨ (relabel scope X.env).names.lookup y = some .free:=e3
          rcases e3' with z | z | z
          . exact absurd z h5
          . exact .inl z
          . exact .inr z
        . rcases l with ⟨z,_⟩ | ⟨_,c',e,z⟩
          . rcases h3 with q | q <;> · rw [q] at z;cases z
          . rw [clE y c h4] at e;cases e
            obtain ⟨o,ho,hd⟩:=z
            exact ⟨o,keep4 _ _ ho,hd⟩
    . obtain ⟨v,o,ho,hd⟩:=I3.cell y c (clE y c e)
      exact ⟨v,o,keep4 _ _ ho,hd⟩
    . exact I3.hok.fresh (by show hp3.objs.size <= C;rw [hCc];exact Nat.le_refl _)
    . simp [cσ,X',XI,capsLen]
  have st4:tn 0 h₁:=T.keep _ _ _ st2 fun b _ o e=>keep4 b o (keep3 b o e)
  have fpX:∀ {H':Hp} {pins':List (Addr × Obj)},(∀ b ∈ fp,H' b = none) -> (pins' = []) -> ∀ b ∈ fp,VH X' pins' H' b:=fun hn e b hb=>by
    subst e
    exact ⟨hn b hb,fpC b hb,fpStk b hb,.inl hb,fun y c e=>(f2 b hb).2.2.2.2.1 y c (clE y c e),fun p hp=>absurd (show p ∈ ([]:List (Addr × Obj)) from hp) (by simp)⟩
  have loop:∀ s₃:Shared,s₃ = { s2 with heap:=h₁,toks:=s2.toks + ([]:List (Str × Value)).length } ->
      codeAny (model X.prog X.w) X.A (.compLoop (.ListComp elt [⟨.Name x px,iter,ifs,0⟩] scope pos) 0 (.ref it) (.ref D) (compEnvC scope cl C X.env)) (compPost (model X.prog X.w) X.A X.xe use QQ (.ref D) C) s₃:=by
    rintro s₃ rfl
    refine UU (fun n s'=>∃ i o H' ys,Inv X' [] (cσ idx σ o) H' s' /\ tn i s'.heap /\ (∀ b ∈ fp,H' b = none) /\ W i n ys H') ?_ m0 ⟨0,none,_,[],I4,st4,fr3,w0⟩
    rintro n s5 ⟨i,o,H5,ys,I5,st5,fr5,w5⟩
    obtain ⟨hD,tw⟩:=turn i n ys H5 w5
    rcases tw with ⟨stop,q⟩ | ⟨go,step⟩
    . refine thn (T.done X' rfl rfl rfl hc i [] s5 _ H5 _ I5 (fpX fr5 rfl) st5 stop) fun r s6 ⟨hr,I6⟩=>?_
      subst hr
      obtain ⟨m6,hn6,_⟩:=I6.loc
      have I7:Inv X pins σ H5 s6:=I3.call' (s':=s6) (ch:=fp) I6.os I6.base I6.hok I6.bare fun b hb=>⟨(f2 b hb).2.2.2.1,(f2 b hb).2.1,(f2 b hb).2.2.2.2.1,(f2 b hb).2.2.2.2.2⟩
      refine hend D C H5 s6 m6 I7 q hn6 I6.free ?_ ?_ cellLt fun p hp=>?_
      . rw [<- hCc];exact Nat.ne_of_gt I3.lt
      . rw [<- hCc];exact I3.sz
      . exact ltC p.1 p.2 (I3.pin p hp).1
    . refine thn (T.item X' rfl rfl rfl hc i [] s5 _ H5 _ I5 (fpX fr5 rfl) st5 go) fun r s6 ⟨u,hr,h6⟩=>?_
      subst hr
      refine thn h6 fun _ s7 ⟨y,H7,I7,r7,y7,st7,fr7⟩=>?_
      have I7':=I7.pinned (fpX fr7 rfl) (T.obj _ _ st7)
      refine thn (Ko (X:=X') (i:=0) S.nd rfl (.inl (lookup_relabel_local S.hx)) (.inr (lookup_relabel_local S.hx)) _ s7 _ H7 y u (fun σ' H'=>σ' = cσ idx σ (some y) /\ H' = H7) I7' r7 ⟨rfl,rfl⟩) fun _ s8 ⟨σ8,H8,I8,e8,e8'⟩=>?_
      subst e8
      subst e8'
      have again:∀ {H9:Hp} {s9:Shared} {ys':List V},Inv X' ([] ++ Vb fp s7.heap) (cσ idx σ (some y)) H9 s9 -> (∃ m',m' < n /\ W (i + 1) m' ys' H9) ->
          ∃ m,m < n /\ ∃ i o H' ys,Inv X' [] (cσ idx σ o) H' s9 /\ tn i s9.heap /\ (∀ b ∈ fp,H' b = none) /\ W i m ys H':=fun {H9 s9 ys'} I9 ⟨m',hm,w9⟩=>by
        refine ⟨m',hm,i + 1,some y,H9,ys',I9.unpinned,T.keep _ _ _ st7 fun b hb o e=>(I9.pin (b,o) (List.mem_append_right _ (List.mem_append_right _ (qf hb e)))).1,fun b hb=>?_,w9⟩
        obtain ⟨o,e,d⟩:=T.obj _ _ st7 b hb
        exact (I9.pin (b,o) (List.mem_append_right _ (List.mem_append_right _ (qf hb e)))).2.1
      refine thn (ht _ _ _ _ _ s8 _ H8 _ I8 (step y H8 y7)) fun ok s9 ⟨H9,I9,q9⟩=>?_
      cases ok with
      | false=>exact again I9 (by rw [if_neg Bool.false_ne_true] at q9;exact q9)
      | true =>
        rw [if_pos rfl] at q9 ⊢
        refine thn (he _ _ _ _ _ s9 _ H9 _ I9 q9) fun v s10 ⟨z,H10,I10,r10,hD10,hlen,m',hm,w10⟩=>?_
        refine thn (Ug (X:=X') _ s10 _ H10 (.ref D) [z] (.ref D) [v] (fun _ H'=>H' = upd H10 D (.lst (ys ++ [z]))) I10 rfl (.cons r10 .nil) ⟨D,ys,z,rfl,rfl,hD10,hlen,rfl⟩) fun _ s11 ⟨_,H11,I11,_,e11⟩=>?_
        subst e11
        exact again I11 ⟨m',hm,w10⟩
  exact codeAny_compStart_list (loop _ rfl) (T.self X.A 0 _ _ _ st4 (loop _ rfl))
end
end L2
namespace L2
open PySem PySem.Spec PyProof.Rows
section
variable {X:Cx} {elt iter:Expr} {x:Str} {px:Pos} {ifs:List Expr} {scope:Scope} {cl:List (Str × Addr)} {pos:Pos} {caps:List Str} {idx:List Nat} {wi:TI} {tt:TT} {te:TE}
theorem Qch (S:KL X x scope cl caps idx) (hc:X.calm = true) (hi:PI X (.Name x px) iter wi)
    (ht:∀ C s₀ H₀ ex,PTs (XI X scope cl C (x :: caps) s₀ H₀ ex) ifs tt) (he:∀ C s₀ H₀ ex,PE (XI X scope cl C (x :: caps) s₀ H₀ ex) elt te)
    (hs:∀ x,foldedSetIterable iter X.env x = pure x:=by intro _;rfl):PE X (.ListComp elt [⟨.Name x px,iter,ifs,0⟩] scope pos) (uT X.K wi tt te idx):=by
  intro pins s σ H Q I h
  rw [eval_ListComp]
  refine KW (use:=none) S hc hi ht he I h rfl (fun D C H' s' m I' q hn hC h1 h2 h3 h4=>?_) hs
  show ∃ m,s'.heap.Ns C m /\ ∀ h',Heap.SameBut C s'.heap h' -> EP X pins σ Q (.ref D) { s' with heap:=h' }
  exact ⟨m,hn,fun h' hs=>⟨.ref D,H',I'.turned (t':=s'.toks) (fun b o hb e=>hs.extBut b o hb e) hC (Ne.symm (Ne.symm h1)) (.inr h2) h3 h4,rfl,q⟩⟩
theorem Qcu {i:Nat} {y:Str} {py spos:Pos} (S:KL X x scope cl caps idx) (hc:X.calm = true) (hi:PI X (.Name x px) iter wi)
    (ht:∀ C s₀ H₀ ex,PTs (XI X scope cl C (x :: caps) s₀ H₀ ex) ifs tt) (he:∀ C s₀ H₀ ex,PE (XI X scope cl C (x :: caps) s₀ H₀ ex) elt te)
    (hN:X.N.Nodup) (hy:X.N[i]? = some y) (hx:Loc X.env.scope y) (hsw:swapsWith (.ListComp elt [⟨.Name x px,iter,ifs,0⟩] scope pos) (some (.Name y py)) spos.line X.env = pure true)
    (hf:X.fn y = true ∨ X.env.scope.names.lookup y = some .local:=by first | exact .inl rfl | exact .inr rfl | assumption)
    (hs:∀ x,foldedSetIterable iter X.env x = pure x:=by intro _;rfl):PS X (.Assign [.Name y py] (.ListComp elt [⟨.Name x px,iter,ifs,0⟩] scope pos) spos) (QcP (uT X.K wi tt te idx) (uB i)):=by
  intro pins s σ H D I h
  rw [exec_Assign_Name_used _ _ _ _ hsw]
  refine wpAny_bind (wpAny_standAt (wpAny_bind ?_))
  show wpAny _ X.A (do let _ <- comprehension (.ListComp elt [⟨.Name x px,iter,ifs,0⟩] scope pos) scope X.env _ (newList []) false (eval iter X.env) (some (assign (.Name y py) X.env))) _ _ s
  refine wpAny_bind (wpAny_mono (KW (use:=some (assign (.Name y py) X.env)) (QQ:=fun _ s'=>SP X pins D .next s') S hc hi ht he I h rfl (fun Da C H' s' m I' q hn hC h1 h2 h3 h4=>?_) hs) (fun _ s' hq=>wpAny_pure (wpAny_pure hq)) fun _ _ e=>e)
  show wpAny _ X.A (assign (.Name y py) X.env (.ref Da)) (fun _ s''=>∃ m,s''.heap.Ns C m /\ ∀ h',Heap.SameBut C s''.heap h' -> SP X pins D .next { s'' with heap:=h' }) _ s'
  refine wpAny_assign_Name (Ux I' hN hy hx (v:=.ref Da) rfl (fun s'' I'' ⟨a,hs,ha⟩=>?_) hf)
  refine ⟨m,hn.sameBut hs ?_,fun h' hs'=>⟨_,H',I''.turned (t':=s''.toks) (fun b o hb e=>hs'.extBut b o hb e) hC h1 (.inr h2) h3 h4,q⟩⟩
  rcases ha with rfl | ha
  . exact h1
  . exact Ne.symm (h3 _ _ ha)
end
end L2
namespace D
open PySem PySem.Spec PyProof.Rows L2
section
variable {K:PySem.W.Frag} {Z:Ent} {env:En} {σ:St} {ρ ρ':List Addr} {B B':Addr -> Prop} {hp hp':Hs} {H H':Hp}
theorem SOk.set {i:Nat} {d:DV} {v:V} (S:SOk K Z env σ ρ B hp H) (r:RepV K ρ B H d v):SOk K Z (env.set i (.val d)) (σ.set i (some v)) ρ B hp H where
  gr:=S.gr
  zb:=S.zb
  wo:=S.wo
  slot:=fun j e h=>by
    by_cases hj:j = i
    . subst hj
      have hl:j < env.length:=by have:=(List.getElem?_eq_some_iff.mp h).1;simpa using this
      rw [List.getElem?_set_self hl] at h;cases h
      exact ⟨v,List.getElem?_set_self (by rw [S.len];exact hl),r⟩
    . rw [List.getElem?_set_ne (Ne.symm hj)] at h ⊢
      exact S.slot j e h
  accs:=fun j ds h=>by
    by_cases hj:j = i
    . subst hj
      have hl:j < env.length:=by have:=(List.getElem?_eq_some_iff.mp h).1;simpa using this
      rw [List.getElem?_set_self hl] at h;cases h
    . rw [List.getElem?_set_ne (Ne.symm hj)] at h ⊢
      exact S.accs j ds h
  adis:=fun j k ds es a h1 h2 h3 h4=>by
    have nj:∀ {j:Nat} {ds:List DV},(env.set i (.val d))[j]? = some (.acc ds) -> j ≠ i:=fun {j ds} h e=>by
      subst e
      have hl:j < env.length:=by have:=(List.getElem?_eq_some_iff.mp h).1;simpa using this
      rw [List.getElem?_set_self hl] at h;cases h
    have hj:=nj h1
    have hk:=nj h2
    rw [List.getElem?_set_ne (Ne.symm hj)] at h1 h3
    rw [List.getElem?_set_ne (Ne.symm hk)] at h2 h4
    exact S.adis j k ds es a h1 h2 h3 h4
  len:=by simp [S.len]
end
section
variable {X:Cx} {e a b c:Expr} {f fa fb:DEx} {ca cb:DTx} {pos:Pos} {st:Stmt} {sts rest:List Stmt} {s s':DSx}
theorem FolS.after {K:PySem.W.Frag} {Z:Ent} {ρ ρ1:List Addr} {B B1:Addr -> Prop} {H H1:Hp} {fl:Fl} {env':En} {hp':Hs} {D:UH} (g:Gs K ρ B H ρ1 B1 H1) (k:FolS K Z ρ B H fl env' hp' D):FolS K Z ρ1 B1 H1 fl env' hp' D :=
  fun σ' ρ' B' H' g' S=>k σ' ρ' B' H' (g.trans g') S
def ZH:DSx:=fun env=>pure (.nx,env)
def Qs (f g:DSx):DSx:=fun env=>do
  let r <- f env
  match r.1 with
  | .nx=>g r.2
  | _=>pure r
def sIf (c:DTx) (f g:DSx):DSx:=fun env=>do if <- c env then f env else g env
def QP (f:DEx):DSx:=fun env=>do let d <- f env;pure (.rt d,env)
def qr:DSx:=fun env=>pure (.rt .non,env)
def Ji (f:DEx):DSx:=fun env=>do let _ <- f env;pure (.nx,env)
def QL (i:Nat) (f:DEx):DSx:=fun env=>do let d <- f env;pure (.nx,env.set i (.val d))
theorem Q1:DSs X [] ZH:=pss_nil.imp fun D σ H ⟨Z,env,ρ,B,hp,fl,env',hp',S,e,k⟩=>by
  obtain ⟨e1,rfl⟩:=Qi e
  cases e1
  exact k σ ρ B H Gs.refl S
theorem Qbh {K:PySem.W.Frag} {D:UH} {σ:St} {H:Hp} (h:tDS K (Qs s s') D σ H):Qfq (tDS K s) (tDS K s') D σ H:=by
  obtain ⟨Z,env,ρ,B,hp,fl,env',hp',S,e,k⟩:=h
  obtain ⟨⟨f1,env1⟩,hp1,e1,e2⟩:=Qf e
  refine ⟨Z,env,ρ,B,hp,f1,env1,hp1,S,e1,fun σ' ρ' B' H' g S'=>?_⟩
  cases f1 with
  | nx=>exact ⟨Z,env1,ρ',B',hp1,fl,env',hp',S',e2,k.after g⟩
  | rt d=>obtain ⟨z,rfl⟩:=Qi e2;cases z;exact k σ' ρ' B' H' g S'
  | bk=>obtain ⟨z,rfl⟩:=Qi e2;cases z;exact k σ' ρ' B' H' g S'
  | ct=>obtain ⟨z,rfl⟩:=Qi e2;cases z;exact k σ' ρ' B' H' g S'
theorem Qh (h1:DS X st s) (h2:DSs X rest s'):DSs X (st :: rest) (Qs s s'):=(Qa9 h1 h2).imp fun _ _ _ h=>Qbh h
theorem Qq (h1:DS X st s):DSs X [st] s:=Qcw h1
theorem Z2 {x y:List Stmt} (hc:DT X c ca) (h1:DSs X x s) (h2:DSs X y s'):DS X (.If c x y pos) (sIf ca s s') :=
  (Qfa hc h1 h2).imp fun D σ H ⟨Z,env,ρ,B,hp,fl,env',hp',S,e,k⟩=>by
    obtain ⟨x,hp1,e1,e2⟩:=Qf e
    refine tDT.run S e1 fun ρ1 B1 H1 g1 S1=>?_
    cases x with
    | true=>exact vt ⟨Z,env,ρ1,B1,hp1,fl,env',hp',S1,e2,k.after (g1.gs S.wo.rb)⟩
    | false=>exact vq ⟨Z,env,ρ1,B1,hp1,fl,env',hp',S1,e2,k.after (g1.gs S.wo.rb)⟩
theorem Qz (h:DE X e f):DS X (.Return (some e) pos) (QP f) :=
  (Qeb h).imp fun D σ H ⟨Z,env,ρ,B,hp,fl,env',hp',S,e,k⟩=>by
    obtain ⟨d,hp1,e1,e2⟩:=Qf e
    obtain ⟨z,rfl⟩:=Qi e2;cases z
    exact tD.run S e1 fun v ρ1 B1 H1 g1 S1 r1=>k σ ρ1 B1 H1 (g1.gs S.wo.rb) S1 v r1
theorem JW (h:DE X e f) (hs:swapsWith e none pos.line X.env = pure false:=by rfl):DS X (.Expr e pos) (Ji f) :=
  (Qcv h hs).imp fun D σ H ⟨Z,env,ρ,B,hp,fl,env',hp',S,e,k⟩=>by
    obtain ⟨d,hp1,e1,e2⟩:=Qf e
    obtain ⟨z,rfl⟩:=Qi e2;cases z
    exact tD.run S e1 fun v ρ1 B1 H1 g1 S1 r1=>k σ ρ1 B1 H1 (g1.gs S.wo.rb) S1
theorem GE {K:PySem.W.Frag} {D:UH} {σ:St} {H:Hp} {i:Nat} {t:TE} (ht:∀ σ H Q,tD K f σ H Q -> t σ H Q) (h:tDS K (QL i f) D σ H):QcP t (uB i) D σ H:=by
  obtain ⟨Z,env,ρ,B,hp,fl,env',hp',S,e,k⟩:=h
  obtain ⟨d,hp1,e1,e2⟩:=Qf e
  obtain ⟨z,rfl⟩:=Qi e2;cases z
  exact ht _ _ _ (tD.run S e1 fun v ρ1 B1 H1 g1 S1 r1=>k _ ρ1 B1 H1 (g1.gs S.wo.rb) (S1.set r1))
theorem QN (i:Nat) {x:Str} {pos':Pos} (hN:X.N.Nodup) (he:DE X e f) (hi:X.N[i]? = some x:=by rfl) (hx:Loc X.env.scope x:=by first | exact Or.inl rfl | exact Or.inr rfl) (hs:swapsWith e (some (.Name x pos')) pos.line X.env = pure false:=by rfl)
    (hf:X.fn x = true ∨ X.env.scope.names.lookup x = some .local:=by first | exact .inl rfl | exact .inr rfl | assumption):DS X (.Assign [.Name x pos'] e pos) (QL i f) :=
  (Qec hN hi hx he hs hf).imp fun _ _ _ h=>GE (fun _ _ _ q=>q) h
abbrev DGx:=DV -> En -> M En
def tDG (K:PySem.W.Frag) (g:DGx):TG:=fun v σ H Q=>∃ Z env ρ B hp d env' hp',SOk K Z env σ ρ B hp H /\ RepV K ρ B H d v /\ g d env hp = some (env',hp') /\ ∀ σ' ρ' B' H',Gs K ρ B H ρ' B' H' -> SOk K Z env' σ' ρ' B' hp' H' -> Q σ' H'
def gN (i:Nat):DGx:=fun d env=>pure (env.set i (.val d))
theorem Xm (i:Nat) {x:Str} (hN:X.N.Nodup) (hi:X.N[i]? = some x:=by rfl) (hx:Loc X.env.scope x:=by first | exact Or.inl rfl | exact Or.inr rfl) (hf:X.fn x = true ∨ X.env.scope.names.lookup x = some .local:=by first | exact .inl rfl | exact .inr rfl | assumption):PG X (.Name x pos) (tDG X.K (gN i)):=by
  intro pins s σ H v u Q I r h
  refine Ko hN hi hx hf pins s σ H v u Q I r ?_
  obtain ⟨Z,env,ρ,B,hp,d,env',hp',S,rd,e,k⟩:=h
  obtain ⟨rfl,rfl⟩:=Qi e
  exact k _ ρ B H Gs.refl (S.set rd)
def uY (K:PySem.W.Frag) (ρ:List Addr) (B:Addr -> Prop) (H:Hp) (ds:List DV) (J:It):Prop :=
  ∀ ρ1 B1 H1,Gs K ρ B H ρ1 B1 H1 -> (∀ b ∈ ρ1,B1 b) -> (∀ a,B1 a -> H1 a ≠ none) -> (∀ (i:Nat) (d:DV),ds[i]? = some d -> J.go i H1 /\ ∀ x H',J.yld i H1 x H' -> RepV K ρ1 B1 H' d x /\ (H' = H1 ∨ ∃ p o,H1 p = none /\ H' = upd H1 p o)) /\ J.stop ds.length H1
abbrev DIx:=En -> M (List DV)
def tDI (K:PySem.W.Frag) (f:DIx):TI:=fun σ H R=>∃ Z env ρ B hp ds hp',SOk K Z env σ ρ B hp H /\ f env hp = some (ds,hp') /\ ∀ J ρ' B' H',Gr K ρ B H ρ' B' H' -> WOk K ρ' B' hp' H' -> uY K ρ' B' H' ds J -> R J H'
def DI (X:Cx) (tg iter:Expr) (f:DIx):Prop:=PI X tg iter (tDI X.K f)
def VY:DV -> M (List DV)
  | .tup ds=>pure ds
  | _=>failure
def iTp (f:DEx):DIx:=fun env=>do VY (<- f env)
theorem XZ {d:DV} {ds:List DV} {hp hp':Hs} (h:VY d hp = some (ds,hp')):d = .tup ds /\ hp = hp':=by
  cases d with
  | tup xs=>obtain ⟨rfl,rfl⟩:=Qi h;exact ⟨rfl,rfl⟩
  | _=>cases h
theorem Qb3 {K:PySem.W.Frag} {ρ:List Addr} {B:Addr -> Prop} {H:Hp} {ds:List DV} {a:Addr} {xs:List V} (nb:¬ B a) (sq:SqL K H a xs) (rl:RepL K ρ B H ds xs):uY K ρ B H ds (Itl K a):=fun ρ1 B1 H1 g _ _=>by
  have sq1:=g.sqL nb sq
  have rl1:=RepL.gs g _ _ rl
  refine ⟨fun i d e=>?_,xs,sq1,by rw [rl1.length];exact Nat.le_refl _⟩
  obtain ⟨x,hx,r⟩:=rl1.get e
  refine ⟨⟨xs,x,sq1,hx⟩,fun y H' ⟨e',q⟩=>?_⟩
  subst e'
  have:=q xs sq1
  rw [hx] at this;cases this
  exact ⟨r,.inl rfl⟩
theorem Qdx {K:PySem.W.Frag} {ρ:List Addr} {B:Addr -> Prop} {H:Hp} {ds:List DV} {a:Addr} {xs:List V} (nb:¬ B a) (sq:SqT K H a xs) (rl:RepL K ρ B H ds xs):uY K ρ B H ds (Itt K a):=fun ρ1 B1 H1 g _ _=>by
  have sq1:=g.sqT nb sq
  have rl1:=RepL.gs g _ _ rl
  refine ⟨fun i d e=>?_,xs,sq1,by rw [rl1.length];exact Nat.le_refl _⟩
  obtain ⟨x,hx,r⟩:=rl1.get e
  refine ⟨⟨xs,x,sq1,hx⟩,fun y H' ⟨e',q⟩=>?_⟩
  subst e'
  have:=q xs sq1
  rw [hx] at this;cases this
  exact ⟨r,.inl rfl⟩
def QW (lo:Int) (n:Nat):List DV:=(List.range n).map fun (i:Nat)=>.int (lo + (i:Int))
theorem Qat {K:PySem.W.Frag} {ρ:List Addr} {B:Addr -> Prop} {H:Hp} {lo:Int} {n:Nat}:uY K ρ B H (QW lo n) (Itr lo n):=fun ρ1 B1 H1 g _ _=>by
  refine ⟨fun i d e=>?_,by show n <= _;simp [QW]⟩
  have hi:i < n:=by have:=(List.getElem?_eq_some_iff.mp e).1;simpa [QW] using this
  refine ⟨hi,fun y H' ⟨e',q⟩=>?_⟩
  subst e' q
  have:d = .int (lo + i):=by simp [QW,hi] at e;exact e.symm
  subst this
  exact ⟨JO,.inl rfl⟩
variable {tg iter:Expr}
theorem _root_.L2.PI.imp {wi wi':TI} (h:PI X tg iter wi) (i:∀ σ H R,wi' σ H R -> wi σ H R):PI X tg iter wi':=fun pins s σ H R I q=>h pins s σ H R I (i σ H R q)
theorem vg (h:DE X iter f):DI X tg iter (iTp f):=(Qd7 h).imp fun σ H R ⟨Z,env,ρ,B,hp,ds,hp',S,e,k⟩=>by
  obtain ⟨d,hp1,e1,e2⟩:=Qf e
  obtain ⟨rfl,rfl⟩:=XZ e2
  refine tD.run S e1 fun v ρ1 B1 H1 g1 S1 r1=>?_
  obtain ⟨a,xs,rfl,nb,sq,rl⟩:=r1.tupI
  exact ⟨a,rfl,⟨xs,sq⟩,k _ ρ1 B1 H1 g1 S1.wo (Qdx nb sq rl)⟩
def Vv (j:Int):Bool:=decide (-(2 ^ 62) <= j /\ j < 2 ^ 62)
def gY:List DV -> M (List DV)
  | [.int j]=>do QB (Vv j);pure (QW 0 j.toNat)
  | _=>failure
def zo (f:DAx):DIx:=fun env=>do gY (<- f env)
theorem gZ {ds out:List DV} {hp hp':Hs} (h:gY ds hp = some (out,hp')):∃ j:Int,ds = [.int j] /\ Vv j = true /\ out = QW 0 j.toNat /\ hp = hp':=by
  unfold gY at h
  split at h
  . obtain ⟨u,hp1,e1,e2⟩:=Qf h
    obtain ⟨h1,rfl⟩:=QJ e1
    obtain ⟨rfl,rfl⟩:=Qi e2
    exact ⟨_,rfl,h1,rfl,rfl⟩
  . cases h
theorem RepL.ints1 {K:PySem.W.Frag} {ρ:List Addr} {B:Addr -> Prop} {H:Hp} {j:Int} {vs:List V} (h:RepL K ρ B H [.int j] vs):vs = [.int j]:=by
  unfold RepL at h
  obtain ⟨x,r,rfl,h1,h2⟩:=h
  unfold RepL at h2
  rw [h1.intI,h2]
theorem RepL.ints2 {K:PySem.W.Frag} {ρ:List Addr} {B:Addr -> Prop} {H:Hp} {i j:Int} {vs:List V} (h:RepL K ρ B H [.int i,.int j] vs):vs = [.int i,.int j]:=by
  unfold RepL at h
  obtain ⟨x,r,rfl,h1,h2⟩:=h
  rw [h1.intI,h2.ints1]
theorem JK {x:Expr} {p:Pos} {f:DAx} (hg:Gl X "range") (hm:X.mg "range" = none) (ha:DA X [x] f) (hs:starEach [x] X.env = [(false,eval x X.env)]:=by rfl):DI X tg (.Call (.Name "range" p) [x] [] pos) (zo f) :=
  (gS hg hm ha hs).imp fun σ H R ⟨Z,env,ρ,B,hp,ds,hp',S,e,k⟩=>by
    obtain ⟨d,hp1,e1,e2⟩:=Qf e
    obtain ⟨j,rfl,h1,rfl,rfl⟩:=gZ e2
    refine tDA.run S e1 fun vs ρ1 B1 H1 g1 S1 r1=>?_
    have h1':=of_decide_eq_true h1
    exact ⟨j,r1.ints1,h1'.1,h1'.2,k _ ρ1 B1 H1 g1 S1.wo Qat⟩
def Yx (b:DV -> DSx):List DV -> DSx
  | [],env=>pure (.nx,env)
  | d :: ds,env=>do
    let r <- b d env
    match r.1 with
    | .nx=>Yx b ds r.2
    | .ct=>Yx b ds r.2
    | .bk=>pure (.nx,r.2)
    | .rt x=>pure (.rt x,r.2)
def Vf (f:DIx) (g:DGx) (body:DSx):DSx:=fun env=>do let ds <- f env;Yx (fun d env=>do let env' <- g d env;body env') ds env
theorem vZ {K:PySem.W.Frag} {ρ:List Addr} {B:Addr -> Prop} {H:Hp} {p:Addr} {o:HO} (rb:∀ a ∈ ρ,B a) (h:H p = none):Gs K ρ B H ρ B (upd H p o):=(Gr.laid h).gs rb
theorem qH {body:List Stmt} {fi:DIx} {g:DGx} {sb:DSx} (hp:PassesOwn (model X.prog X.w) X.A X.env X.xe) (hc:X.calm = true) (hi:DI X tg iter fi) (hg:PG X tg (tDG X.K g)) (hb:DSs X body sb)
    (hs:∀ x,foldedSetIterable iter X.env x = pure x:=by intro _;rfl):DS X (.For tg iter body [] pos) (Vf fi g sb) :=
  (Qa7 hp hc hi hg hb hs).imp fun D σ H ⟨Z,env,ρ,B,hp,fl,env',hp',S,e,k⟩=>by
    obtain ⟨ds,hp1,e1,e2⟩:=Qf e
    refine ⟨Z,env,ρ,B,hp,ds,hp1,S,e1,fun J ρ1 B1 H1 g1 W1 it=>?_⟩
    have k1:=k.after (g1.gs S.wo.rb)
    refine ⟨fun i m σ H=>m = ds.length - i /\ i <= ds.length /\ ∃ env ρ B hp,SOk X.K Z env σ ρ B hp H /\ Gs X.K ρ1 B1 H1 ρ B H /\ Yx (fun d env=>do let env' <- g d env;sb env') (ds.drop i) env hp = some ((fl,env'),hp'),
      ⟨ds.length,rfl,Nat.zero_le _,env,ρ1,B1,hp1,S.grow g1 W1,Gs.refl,by simpa using e2⟩,?_⟩
    rintro i m σ H ⟨rfl,hi,env2,ρ2,B2,hp2,S2,g2,e3⟩
    obtain ⟨itg,its⟩:=it ρ2 B2 H g2 S2.wo.rb S2.wo.bt
    by_cases hlt:i < ds.length
    . have hd:ds[i]? = some ds[i]:=List.getElem?_eq_getElem hlt
      obtain ⟨go,yl⟩:=itg i _ hd
      rw [List.drop_eq_getElem_cons hlt] at e3
      obtain ⟨⟨f1,env4⟩,hp4,e4,e5⟩:=Qf e3
      obtain ⟨env3,hp3,e6,e7⟩:=Qf e4
      refine .inr ⟨go,fun σ' H'=>∃ env ρ B hp,SOk X.K Z env σ' ρ B hp H' /\ Gs X.K ρ1 B1 H1 ρ B H' /\ Yx (fun d env=>do let env' <- g d env;sb env') (ds.drop (i + 1)) env hp = some ((fl,env'),hp'),
        fun σ' H' q=>⟨ds.length - (i + 1),by omega,rfl,hlt,q⟩,fun x H' y=>?_⟩
      obtain ⟨rx,hx⟩:=yl x H' y
      have S3:SOk X.K Z env2 σ ρ2 B2 hp2 H' /\ Gs X.K ρ2 B2 H ρ2 B2 H':=by
        rcases hx with rfl | ⟨p,o,hn,rfl⟩
        . exact ⟨S2,Gs.refl⟩
        . exact ⟨S2.grow (Gr.laid hn) (S2.wo.laid hn),vZ S2.wo.rb hn⟩
      refine ⟨Z,env2,ρ2,B2,hp2,ds[i],env3,hp3,S3.1,rx,e6,fun σ5 ρ5 B5 H5 g5 S5=>⟨Z,env3,ρ5,B5,hp3,f1,env4,hp4,S5,e7,fun σ6 ρ6 B6 H6 g6 S6=>?_⟩⟩
      have G6:=g2.trans (S3.2.trans (g5.trans g6))
      cases f1 with
      | nx=>exact ⟨env4,ρ6,B6,hp4,S6,G6,e5⟩
      | ct=>exact ⟨env4,ρ6,B6,hp4,S6,G6,e5⟩
      | bk=>obtain ⟨z,rfl⟩:=Qi e5;cases z;exact k1 σ6 ρ6 B6 H6 G6 S6
      | rt d=>obtain ⟨z,rfl⟩:=Qi e5;cases z;exact k1 σ6 ρ6 B6 H6 G6 S6
    . have e:i = ds.length:=by omega
      subst e
      rw [List.drop_length] at e3
      obtain ⟨z,rfl⟩:=Qi e3;cases z
      exact .inl ⟨its,k1 σ ρ2 B2 H g2 S2⟩
end
end D
namespace D
open PySem PySem.Spec PyProof.Rows L2
section
variable {K:PySem.W.Frag} {Z:Ent} {env:En} {σ:St} {ρ ρ':List Addr} {B B':Addr -> Prop} {hp hp':Hs} {H H':Hp}
def xU (B:Addr -> Prop) (p:Addr):Addr -> Prop:=fun a=>B a ∨ a = p
theorem Gr.banned {p:Addr} {o:HO} (h:H p = none) (kf:K.lookup p = none):Gr K ρ B H ρ (xU B p) (upd H p o) where
  pre:=List.prefix_rfl
  ban:=fun _ h=>.inl h
  new:=fun a z=>z.elim .inl fun e=>.inr (e ▸ ⟨h,kf⟩)
  rnew:=fun _ h=>.inl h
  keep:=fun a u _ q=>by rw [QU (Zw q h)];exact q
  trk:=(Gr.laid (K:=K) (ρ:=ρ) (B:=B) h).trk
theorem WOk.banned {p:Addr} {o:HO} (W:WOk K ρ B hp H) (h:H p = none) (kf:K.lookup p = none):WOk K ρ (xU B p) hp (upd H p o) where
  len:=W.len
  nd:=W.nd
  obj:=fun i a u e q=>ORep.gs ((Gr.banned h kf).gs W.rb) (QU (fun z=>W.bt a (W.rb a (List.mem_of_getElem? e)) (z ▸ h))) (W.obj i a u e q)
  rb:=fun a h=>.inl (W.rb a h)
  bt:=fun a z q=>by
    have q':=(Gr.laid (K:=K) (ρ:=ρ) (B:=B) h).trk a q
    rcases z with z | rfl
    . exact W.bt a z q'
    . rw [Zh] at q;cases q
  bk:=fun a z=>z.elim (W.bk a) fun e=>e ▸ kf
end
section
variable {X:Cx} {e a b c:Expr} {f fa fb:DEx} {ca cb:DTx} {pos:Pos} {st:Stmt} {sts rest:List Stmt} {s s':DSx}
def ya (i:Nat):DSx:=fun env=>pure (.nx,env.set i (.acc []))
def jX (i:Nat) (env:En):En:=match env[i]? with
  | some (.acc ds)=>env.set i (.val (.lst ds))
  | _=>env
def yc (i:Nat) (f:DSx):DSx:=fun env=>f (jX i env)
def yb (i:Nat) (f:DEx):DSx:=fun env=>do
  let d <- f env
  match env[i]? with
  | some (.acc ds)=>if ds.length < lim then pure (.nx,env.set i (.acc (ds ++ [d]))) else failure
  | _=>failure
def kS:Sl -> Sl
  | .val d=>.val d
  | _=>.un
def cE (idx:List Nat) (env:En) (d:DV):En:=.val d :: idx.map fun i=>kS ((env[i]?).getD .un)
def VX:DTx:=fun _=>pure true
variable {elt iter:Expr} {x:Str} {px:Pos} {ifs:List Expr} {scope:Scope} {cl:List (Str × Addr)} {caps:List Str} {idx:List Nat} {src:DIx} {te:DTx}
theorem cσ_ok {K:PySem.W.Frag} {Z:Ent} {env:En} {σ:St} {ρ ρ1:List Addr} {B B1:Addr -> Prop} {hp hp1:Hs} {H H1:Hp} {d:DV} {v:V} (S:SOk K Z env σ ρ B hp H) (g:Gs K ρ B H ρ1 B1 H1) (W:WOk K ρ1 B1 hp1 H1) (r:RepV K ρ1 B1 H1 d v) :
    SOk K ⟨ρ1,B1,H1⟩ (cE idx env d) (cσ idx σ (some v)) ρ1 B1 hp1 H1:=by
  refine ⟨Gr.refl,W.bt,W,fun i e h=>?_,fun i es h=>?_,fun i j es es' a h=>?_,by simp [cE,cσ]⟩
  . cases i with
    | zero =>
      have:d = e:=by simpa [cE] using h
      subst this
      exact ⟨v,by simp [cσ],r⟩
    | succ i =>
      cases q:idx[i]? with
      | none=>simp [cE,q] at h
      | some k =>
        have h':kS ((env[k]?).getD .un) = .val e:=by simpa [cE,q] using h
        cases z:env[k]? with
        | none=>rw [z] at h';cases h'
        | some sl =>
          rw [z] at h'
          cases sl with
          | un=>cases h'
          | acc _=>cases h'
          | val e' =>
            have:e' = e:=by simpa [kS] using h'
            subst this
            obtain ⟨u,h1,h2⟩:=S.slot k e' z
            exact ⟨u,by simp [cσ,q,h1],RepV.gs g _ _ h2⟩
  . exfalso
    cases i with
    | zero=>simp [cE] at h
    | succ i =>
      cases q:idx[i]? with
      | none=>simp [cE,q] at h
      | some k =>
        have h':kS ((env[k]?).getD .un) = .acc es:=by simpa [cE,q] using h
        cases z:(env[k]?).getD .un with
        | un=>rw [z] at h';cases h'
        | acc _=>rw [z] at h';cases h'
        | val _=>rw [z] at h';cases h'
  . exfalso
    cases i with
    | zero=>simp [cE] at h
    | succ i =>
      cases q:idx[i]? with
      | none=>simp [cE,q] at h
      | some k =>
        have h':kS ((env[k]?).getD .un) = .acc es:=by simpa [cE,q] using h
        cases z:(env[k]?).getD .un with
        | un=>rw [z] at h';cases h'
        | acc _=>rw [z] at h';cases h'
        | val _=>rw [z] at h';cases h'
def DTs (X:Cx) (ifs:List Expr) (t:DTx):Prop:=PTs X ifs (tDT X.K t)
theorem yi:DTs X [] VX:=fun pins s σ H Q I ⟨Z,env,ρ,B,hp,d,hp',S,e,k⟩=>by
  obtain ⟨rfl,rfl⟩:=Qi e
  exact Qcy pins s σ H Q I (k ρ B H Gr.refl S.wo)
theorem yj {c:Expr} (h:DT X c te):DTs X [c] te:=Qcz h
def Q7 (n:Nat) (body:DSx):List DV -> M DV:=fun ds=>do
  let r <- body (ds.map .val ++ List.replicate (n - ds.length) .un)
  match r.1 with
  | .nx=>pure .non
  | .rt d=>pure d
  | _=>failure
def spD (K:PySem.W.Frag) (n:Nat) (F:List DV -> M DV):Sp:=fun vs H Q _=>vs.length = n /\ ∃ ρ B hp ds d hp',WOk K ρ B hp H /\ RepL K ρ B H ds vs /\ F ds hp = some (d,hp') /\ Fol K ρ B H d hp' Q
structure Has (P:Program) (w:World) (K:PySem.W.Frag) (mg:Str -> Option Value) (base:Heap) (x:Str) (k n:Nat) (F:List DV -> M DV):Prop where
  ex:∃ (g:Addr) (fd:FuncData) (ps:List Str),qC P w K mg base CX0 k g fd ps (spD K n F) /\ Binds K fd ps [] /\ PySem.W.keepIn K (.ref g) = true /\ mg x = some (.ref g)
theorem xk {K:PySem.W.Frag} {ρ:List Addr} {B:Addr -> Prop} {hp:Hs} {H:Hp} {ds:List DV} {vs:List V} {N:List Str} (W:WOk K ρ B hp H) (r:RepL K ρ B H ds vs) :
    SOk K ⟨ρ,B,H⟩ (ds.map .val ++ List.replicate (N.length - ds.length) .un) (L2.start N vs) ρ B hp H:=by
  have hl:=r.length
  have at_:∀ {i:Nat} {z:Sl},(ds.map Sl.val ++ List.replicate (N.length - ds.length) Sl.un)[i]? = some z -> z = .un ∨ ∃ d,ds[i]? = some d /\ z = .val d:=fun {i z} h=>by
    by_cases hi:i < ds.length
    . rw [List.getElem?_append_left (by simpa using hi),List.getElem?_map,List.getElem?_eq_getElem hi] at h
      cases h
      exact .inr ⟨_,List.getElem?_eq_getElem hi,rfl⟩
    . rw [List.getElem?_append_right (by simpa using hi),List.getElem?_replicate] at h
      split at h
      . cases h;exact .inl rfl
      . cases h
  refine ⟨Gr.refl,W.bt,W,fun i d h=>?_,fun i es h=>?_,fun i j es es' a h=>?_,by unfold L2.start;simp;omega⟩
  . rcases at_ h with z | ⟨d',q,z⟩
    . cases z
    . cases z
      obtain ⟨v,h1,h2⟩:=r.get q
      refine ⟨v,?_,h2⟩
      unfold L2.start
      have hi:i < vs.length:=(List.getElem?_eq_some_iff.mp h1).1
      rw [List.getElem?_append_left (by simpa using hi),List.getElem?_map,h1]
      rfl
  . rcases at_ h with z | ⟨d',q,z⟩ <;> cases z
  . rcases at_ h with z | ⟨d',q,z⟩ <;> cases z
theorem Qdv {P:Program} {w:World} {K:PySem.W.Frag} {mg:Str -> Option Value} {base:Heap} {x:Str} {stm:Stmt} {g:Addr} {fd:FuncData} {N ps:List Str} {k:Nat} {body:DSx} (F:Fun K x x stm g fd) (Sc:Qv N ps (Qp stm)) (hm:mg x = some (.ref g))
    (hb:∀ (kV doc pm:Value) (an:Option Addr) (cdv ct:Value) (us:List Value),us.length = ps.length -> bindArgs (PySem.W.fnOf x x (JJ stm) (ZD stm) (Qp stm) .none kV doc pm an cdv ct) ⟨us,[]⟩ = pure (ps.zip us))
    (h:∀ (cdv:Value) (A:Around) (outer:List Env) (s:Shared) (H:Hp) (E:XK),Room k (A.deeper (envOfC x (Qp stm) s.heap.objs.size g cdv)) -> DSs (xW CX0 P w K mg base N x (Qp stm) g cdv A outer s H E).nox (ZD stm) body) :
    Has P w K mg base x (k + 1) ps.length (Q7 N.length body):=by
  refine ⟨g,fd,ps,F.ok Sc (fun vs H Q E h=>h.1) (fun cdv A outer s H vs Q E hr sp=>?_),F.binds hb,F.kp,hm⟩
  obtain ⟨hn,ρ,B,hp,ds,d,hp',W,r,e,k⟩:=sp
  obtain ⟨⟨fl,env'⟩,hp1,e1,e2⟩:=Qf e
  refine ⟨_,h cdv A outer s H E hr,⟨ρ,B,H⟩,_,ρ,B,hp,fl,env',hp1,xk W r,e1,fun σ' ρ' B' H' g' S'=>?_⟩
  cases fl with
  | nx=>obtain ⟨rfl,rfl⟩:=Qi e2;exact k .non ρ' B' H' S'.gr S'.wo zg
  | rt x=>obtain ⟨rfl,rfl⟩:=Qi e2;exact fun v rv=>k v ρ' B' H' S'.gr S'.wo rv
  | bk=>cases e2
  | ct=>cases e2
def Qt (n:Nat) (F:List DV -> M DV) (a:DAx):DEx:=fun env=>do
  let ds <- a env
  QB (decide (ds.length = n))
  F ds
theorem QC {y:Str} {k j n:Nat} {F:List DV -> M DV} {e:Expr} {es:List Expr} {fa:DAx} {p:Pos} (h:Has X.prog X.w X.K X.mg X.base y j n F) (hr:Room k X.A) (hj:j <= k) (hx:Yu CX0 X E0) (ha:DA X (e :: es) fa) (hg:Gl X y:=by rfl)
    (hdb:(y == ("__debug__" : Str)) = false:=by decide) (he:starEach (e :: es) X.env = (false,eval e X.env) :: starEach es X.env:=by rfl) (hpl:(backTo pos (starEach es X.env)).any (·.1) = false:=by rfl):DE X (.Call (.Name y p) (e :: es) [] pos) (Qt n F fa):=by
  obtain ⟨g,fd,ps,F',hb,hk,hm⟩:=h.ex
  refine L2.PE.imp (Qcf F' (hr.mono hj) hg hm hk hb .nil hx ha hdb he hpl) fun σ H Q ⟨Z,env,ρ,B,hp,d,hp',S,e,k⟩=>?_
  obtain ⟨ds,hp1,e1,e2⟩:=Qf e
  obtain ⟨_,hp2,e3,e4⟩:=Qf e2
  obtain ⟨hl,rfl⟩:=QJ e3
  refine tDA.run S e1 fun vs ρ1 B1 H1 g1 S1 r1=>?_
  refine ⟨by rw [List.append_nil,<- r1.length];exact of_decide_eq_true hl,ρ1,B1,hp1,ds,d,hp',S1.wo,by rw [List.append_nil];exact r1,e4,k.after g1⟩
end
end D
namespace D
open PySem PySem.Spec PyProof.Rows L2
section
variable {X:Cx} {e a b c:Expr} {f fa fb fc:DEx} {ca cb:DTx} {pos:Pos}
def qv (C:Int -> Int -> Bool) (g:Int -> Int -> DV):DV -> DV -> M DV
  | .int i,.int j=>if C i j then pure (g i j) else failure
  | _,_=>failure
theorem xb {C:Int -> Int -> Bool} {g:Int -> Int -> DV} {x y d:DV} {hp hp':Hs} (h:qv C g x y hp = some (d,hp')):∃ i j,x = .int i /\ y = .int j /\ C i j = true /\ d = g i j /\ hp = hp':=by
  unfold qv at h
  split at h
  . rename_i i j
    by_cases hc:C i j = true
    . rw [if_pos hc] at h
      obtain ⟨rfl,rfl⟩:=Qi h
      exact ⟨i,j,rfl,rfl,hc,rfl,rfl⟩
    . rw [if_neg hc] at h;cases h
  . cases h
theorem Kn {g:Value -> Value -> Sem Value} {C:Int -> Int -> Bool} {P:Int -> Int -> Prop} {q:Int -> Int -> Int} (ho:OpR X g (rI P fun i j=>.int (q i j))) (hC:∀ i j,C i j = true -> P i j):P2 X g (qv C fun i j=>.int (q i j)):=by
  intro pins s σ H x y v u Q I rx ry h
  refine ho pins s σ H x y v u Q I rx ry ?_
  obtain ⟨ρ,B,hp,dx,dy,d,hp',W,r1,r2,e,k⟩:=h
  obtain ⟨i,j,rfl,rfl,hc,rfl,rfl⟩:=xb e
  exact ⟨i,j,r1.intI,r2.intI,hC i j hc,k _ ρ B H Gr.refl W JO⟩
theorem Qcc {g:Value -> Value -> Sem Value} {q:Int -> Int -> Int} (ho:OpR X g (rI0 fun i j=>.int (q i j))):P2 X g (qv (fun _ _=>true) fun i j=>.int (q i j)):=by
  intro pins s σ H x y v u Q I rx ry h
  refine ho pins s σ H x y v u Q I rx ry ?_
  obtain ⟨ρ,B,hp,dx,dy,d,hp',W,r1,r2,e,k⟩:=h
  obtain ⟨i,j,rfl,rfl,hc,rfl,rfl⟩:=xb e
  exact ⟨i,j,r1.intI,r2.intI,k _ ρ B H Gr.refl W JO⟩
theorem yn {g:Value -> Value -> Sem Value} {q:Int -> Int -> Bool} (ho:OpR X g (rI0 fun i j=>.bl (q i j))):P2 X g (qv (fun _ _=>true) fun i j=>.bl (q i j)):=by
  intro pins s σ H x y v u Q I rx ry h
  refine ho pins s σ H x y v u Q I rx ry ?_
  obtain ⟨ρ,B,hp,dx,dy,d,hp',W,r1,r2,e,k⟩:=h
  obtain ⟨i,j,rfl,rfl,hc,rfl,rfl⟩:=xb e
  exact ⟨i,j,r1.intI,r2.intI,k _ ρ B H Gr.refl W XL⟩
def Qdl (i j:Int):Bool:=decide ((-(2 ^ 64) < i /\ i < 2 ^ 64) ∨ (-(2 ^ 64) < j /\ j < 2 ^ 64))
def QeF (_ j:Int):Bool:=decide (0 < j /\ j < 1073741824)
def QeG (_ j:Int):Bool:=decide (0 < j)
def Qfy (i j:Int):Bool:=decide (0 <= j /\ j <= 1000000 /\ i.natAbs < 2 ^ 64)
def xr:DV -> DV -> M DV:=qv (fun _ _=>true) fun i j=>.int (i - j)
def qw:DV -> DV -> M DV:=qv Qdl fun i j=>.int (i * j)
def Qaa:DV -> DV -> M DV:=qv QeF fun i j=>.int (i / j)
def yW:DV -> DV -> M DV:=qv QeG fun i j=>.int (i % j)
def qP:DV -> DV -> M DV:=qv Qfy fun i j=>.int (i ^ j.toNat)
def ltD:DV -> DV -> M DV:=qv (fun _ _=>true) fun i j=>.bl (decide (i < j))
def leD:DV -> DV -> M DV:=qv (fun _ _=>true) fun i j=>.bl (decide (i <= j))
def gtD:DV -> DV -> M DV:=qv (fun _ _=>true) fun i j=>.bl (decide (j < i))
def geD:DV -> DV -> M DV:=qv (fun _ _=>true) fun i j=>.bl (decide (j <= i))
theorem xE:P2 X (binaryOp .Sub) xr:=Qcc QdT
theorem jw:P2 X (binaryOp .Mult) qw:=Kn QdR fun i j h=>of_decide_eq_true (p:=(-(2 ^ 64) < i /\ i < 2 ^ 64) ∨ (-(2 ^ 64) < j /\ j < 2 ^ 64)) h
theorem Qc9:P2 X (binaryOp .FloorDiv) Qaa:=Kn Qca fun i j h=>of_decide_eq_true (p:=0 < j /\ j < 1073741824) h
theorem xD:P2 X (binaryOp .Mod) yW:=Kn QdQ fun _ _ h=>of_decide_eq_true h
theorem zB:P2 X (binaryOp .Pow) qP:=Kn QdS fun i j h=>of_decide_eq_true (p:=0 <= j /\ j <= 1000000 /\ i.natAbs < 2 ^ 64) h
theorem Gw:P2 X (compareOp .Lt) ltD:=yn Qe1
theorem QdU:P2 X (compareOp .LtE) leD:=yn Qe0
theorem Qce:P2 X (compareOp .Gt) gtD:=yn QeZ
theorem Qe3:P2 X (compareOp .GtE) geD:=yn QeY
def QeW:DV -> M DV
  | .int i=>pure (.int (-i))
  | _=>failure
def xX (f:DEx):DEx:=fun env=>do QeW (<- f env)
theorem QaP:OpR X (binaryOp .Add) (fun x y H Q=>∃ a b ys,x = .ref a /\ y = .ref b /\ SqT X.K H a [] /\ SqT X.K H b ys /\ ys.length <= sizeLine /\ Q (.ref b) H):=by
  intro pins s σ H x y v u Q I rx ry h
  obtain ⟨a,b,ys,rfl,rfl,ha,hb,hz,q⟩:=h
  cases rx
  cases ry
  obtain ⟨its,r1,p1,_⟩:=I.tuple ha
  obtain ⟨its2,r2,p2,_⟩:=I.tuple hb
  obtain ⟨m,F⟩:=I.fr
  have z:its = []:=by cases r1;rfl
  subst z
  exact add_tuples F (QaL (g:=X.base) (L:=X.env.locals)) p1 p2 (fun _=>⟨.ref b,H,I,rfl,q⟩) (fun n=>absurd rfl n) (fun n=>absurd rfl n) (by have:=r2.length;simp;omega)
def ZJ:DV -> DV -> M DV
  | .int i,.int j=>pure (.int (i + j))
  | .tup xs,.tup ys=>do QB (zH (xs ++ ys));pure (.tup (xs ++ ys))
  | .lst xs,.lst ys=>do QB (zH (xs ++ ys));pure (.lst (xs ++ ys))
  | _,_=>failure
theorem QcD:OpR X (binaryOp .Add) (fun x y H Q=>∃ l b xs zs,x = .ref l /\ y = .ref b /\ SqL X.K H l xs /\ SqL X.K H b zs /\ xs.length + zs.length <= sizeLine /\ ∀ p,H p = none -> Q (.ref p) (upd H p (.lst (xs ++ zs)))):=by
  intro pins s σ H x y v u Q I rx ry h
  obtain ⟨l,b,xs,zs,rfl,rfl,hl,hb,hz,q⟩:=h
  cases rx
  cases ry
  obtain ⟨its,r1,⟨⟨k1,dd1,da1,sl1⟩,n1,e1,c1,d1,s1⟩,_⟩:=I.list hl
  obtain ⟨its2,r2,⟨⟨k2,dd2,da2,sl2⟩,n2,e2,c2,d2,s2⟩,_⟩:=I.list hb
  simp only at c1 d1 s1 c2 d2 s2
  subst c1 d1 s1 c2 d2 s2
  have ea:its.toArray ++ its2.toArray = (its ++ its2).toArray:=by simp
  have hz':its.length + its2.length <= sizeLine:=by rw [<- r1.length,<- r2.length];exact hz
  refine concat_meets (T := "list") ⟨_,e1,rfl⟩ ⟨_,e2,rfl⟩ noFill_list_add seq_list_add PySem.F.slot_list_add PySem.F.entry_list_add (PySem.F.args_list_add_2 _ _) (list_addW l b its.toArray its2.toArray n1 n2 none none sl1 sl2 (by simpa using hz')) ⟨e1,e2,?_⟩
  rw [ea]
  exact ⟨.ref _,_,I.lnew (t':=s.toks) (r1.append r2) (by rw [List.length_append];exact hz),rfl,q _ I.fresh⟩
theorem Z8:P2 X (binaryOp .Add) ZJ:=by
  intro pins s σ H x y v u Q I rx ry h
  obtain ⟨ρ,B,hp,dx,dy,d,hp',W,r1,r2,e,k⟩:=h
  unfold ZJ at e
  split at e
  . obtain ⟨rfl,rfl⟩:=Qi e
    exact QdO pins s σ H x y v u Q I rx ry ⟨_,_,r1.intI,r2.intI,k _ ρ B H Gr.refl W JO⟩
  . rename_i xs ys
    obtain ⟨_,hp1,e1,e2⟩:=Qf e
    obtain ⟨hs,rfl⟩:=QJ e1
    obtain ⟨rfl,rfl⟩:=Qi e2
    obtain ⟨a,vs,rfl,n1,q1,l1⟩:=r1.tupI
    obtain ⟨b,ws,rfl,n2,q2,l2⟩:=r2.tupI
    have hz:vs.length + ws.length <= sizeLine:=by
      have:=qV hs
      rw [List.length_append] at this
      rw [<- l1.length,<- l2.length];exact this
    by_cases hv:vs = []
    . subst hv
      have:xs = []:=by have:=l1.length;cases xs with | nil=>rfl | cons _ _=>simp at this
      subst this
      exact QaP pins s σ H _ _ v u Q I rx ry ⟨a,b,ws,rfl,rfl,q1,q2,by simp at hz;exact hz,k _ ρ B H Gr.refl W (zh n2 q2 l2)⟩
    . refine Qb9 pins s σ H _ _ v u Q I rx ry ⟨a,b,vs,ws,rfl,rfl,q1,q2,hv,hz,fun hw=>?_,fun hw=>jk W (RepL.append l1 l2) k⟩
      subst hw
      have:ys = []:=by have:=l2.length;cases ys with | nil=>rfl | cons _ _=>simp at this
      subst this
      rw [List.append_nil] at k
      exact k _ ρ B H Gr.refl W (zh n1 q1 l1)
  . rename_i xs ys
    obtain ⟨_,hp1,e1,e2⟩:=Qf e
    obtain ⟨hs,rfl⟩:=QJ e1
    obtain ⟨rfl,rfl⟩:=Qi e2
    obtain ⟨a,vs,rfl,n1,q1,l1⟩:=r1.lstI
    obtain ⟨b,ws,rfl,n2,q2,l2⟩:=r2.lstI
    have hz:vs.length + ws.length <= sizeLine:=by
      have:=qV hs
      rw [List.length_append] at this
      rw [<- l1.length,<- l2.length];exact this
    exact QcD pins s σ H _ _ v u Q I rx ry ⟨a,b,vs,ws,rfl,rfl,q1,q2,hz,U0 W (RepL.append l1 l2) k⟩
  . cases e
def isN:DV -> Bool
  | .non=>true
  | _=>false
theorem uD {K:PySem.W.Frag} {ρ:List Addr} {B:Addr -> Prop} {H:Hp} {d:DV} {v:V} (r:RepV K ρ B H d v):decide (v = .non) = isN d:=by
  cases d with
  | non=>rw [r.nonI];rfl
  | bl b=>rw [r.blI];rfl
  | int b=>rw [r.intI];rfl
  | str b=>rw [r.strI];rfl
  | tup b=>obtain ⟨a,xs,rfl,_⟩:=r.tupI;rfl
  | lst b=>obtain ⟨a,xs,rfl,_⟩:=r.lstI;rfl
  | ref b=>obtain ⟨a,rfl,_⟩:=r.refI;rfl
def isD:DV -> DV -> M DV
  | x,.non=>pure (.bl (isN x))
  | .bl p,.bl q=>pure (.bl (p == q))
  | _,_=>failure
def Gi:DV -> DV -> M DV
  | x,.non=>pure (.bl (!isN x))
  | .bl p,.bl q=>pure (.bl (p != q))
  | _,_=>failure
theorem QaR:P2 X (compareOp .Is) isD:=by
  intro pins s σ H x y v u Q I rx ry h
  obtain ⟨ρ,B,hp,dx,dy,d,hp',W,r1,r2,e,k⟩:=h
  unfold isD at e
  split at e
  . obtain ⟨rfl,rfl⟩:=Qi e
    refine QdP pins s σ H x y v u Q I rx ry ⟨r2.nonI,?_⟩
    rw [uD r1]
    exact k _ ρ B H Gr.refl W XL
  . obtain ⟨rfl,rfl⟩:=Qi e
    obtain rfl:=r1.blI
    obtain rfl:=r2.blI
    cases rx;cases ry
    exact is_bool ⟨.bl _,H,I,rfl,k _ ρ B H Gr.refl W XL⟩
  . cases e
theorem QaS:P2 X (compareOp .IsNot) Gi:=by
  intro pins s σ H x y v u Q I rx ry h
  obtain ⟨ρ,B,hp,dx,dy,d,hp',W,r1,r2,e,k⟩:=h
  unfold Gi at e
  split at e
  . obtain ⟨rfl,rfl⟩:=Qi e
    refine Qcb pins s σ H x y v u Q I rx ry ⟨r2.nonI,?_⟩
    rw [uD r1]
    exact k _ ρ B H Gr.refl W XL
  . obtain ⟨rfl,rfl⟩:=Qi e
    obtain rfl:=r1.blI
    obtain rfl:=r2.blI
    cases rx;cases ry
    exact isnot_bool ⟨.bl _,H,I,rfl,k _ ρ B H Gr.refl W XL⟩
  . cases e
theorem UP {K:PySem.W.Frag} {ρ:List Addr} {B:Addr -> Prop} {H:Hp} {ds:List DV} {xs:List V} {i:Int} {d:DV} (r:RepL K ρ B H ds xs) (h:atI ds i = some d):∃ x,atI xs i = some x /\ RepV K ρ B H d x:=by
  unfold atI at h ⊢
  rw [<- r.length]
  cases q:ixN ds.length i with
  | none=>rw [q] at h;cases h
  | some j =>
    rw [q] at h
    exact r.get h
def ixD:DV -> DV -> M DV
  | .tup ds,.int i=>match atI ds i with
    | some d=>pure d
    | none=>failure
  | .lst ds,.int i=>match atI ds i with
    | some d=>pure d
    | none=>failure
  | _,_=>failure
theorem Qe4:IxR X (tP2 X.K ixD):=by
  intro value slice pins s σ H x y v u Q I rx ry h hsub
  obtain ⟨ρ,B,hp,dx,dy,d,hp',W,r1,r2,e,k⟩:=h
  unfold ixD at e
  split at e
  . rename_i ds i
    cases q:atI ds i with
    | none=>rw [q] at e;cases e
    | some d' =>
      rw [q] at e
      obtain ⟨rfl,rfl⟩:=Qi e
      obtain ⟨a,xs,rfl,n1,q1,l1⟩:=r1.tupI
      obtain ⟨z,hz,rz⟩:=UP l1 q
      exact Qdy value slice pins s σ H _ _ v u Q I rx ry ⟨a,xs,i,z,rfl,r2.intI,q1,hz,k _ ρ B H Gr.refl W rz⟩ hsub
  . rename_i ds i
    cases q:atI ds i with
    | none=>rw [q] at e;cases e
    | some d' =>
      rw [q] at e
      obtain ⟨rfl,rfl⟩:=Qi e
      obtain ⟨a,xs,rfl,n1,q1,l1⟩:=r1.lstI
      obtain ⟨z,hz,rz⟩:=UP l1 q
      exact uG value slice pins s σ H _ _ v u Q I rx ry ⟨a,xs,i,z,rfl,r2.intI,q1,hz,k _ ρ B H Gr.refl W rz⟩ hsub
  . cases e
theorem Jw (ha:DE X a fa) (hb:DE X b fb) (hs:UL b:=by intro _ _;rfl):DE X (.Subscript a b pos) (Qn ixD fa fb):=L2.PE.imp (Qda Qe4 ha hb hs) fun _ _ _ h=>qJ h
end
end D
namespace D
open PySem PySem.Spec PyProof.Rows L2
mutual
def toP:DV -> PyData
  | .non=>.none
  | .bl b=>.bool b
  | .int i=>.int i
  | .str x=>.str x
  | .tup xs=>.tuple (toPs xs)
  | .lst xs=>.list (toPs xs)
  | .ref _=>.none
def toPs:List DV -> List PyData
  | []=>[]
  | d :: ds=>toP d :: toPs ds
end
mutual
def Uh:DV -> Bool
  | .ref _=>false
  | .tup xs=>noRefs xs
  | .lst xs=>noRefs xs
  | _=>true
def noRefs:List DV -> Bool
  | []=>true
  | d :: ds=>Uh d && noRefs ds
end
section
variable {X:Cx} {pins:List (Addr × Obj)} {σ:St} {H:Hp} {s:Shared} {ρ:List Addr} {B:Addr -> Prop}
mutual
theorem Vd (I:Inv X pins σ H s):∀ (d:DV) (v:V) (u:Value),RepV X.K ρ B H d v -> RelV v u -> Uh d = true -> ∃ as,Reads s.heap u (toP d) as
  | .non,_,_,r,ru,_=>by obtain rfl:=r.nonI;cases ru;exact ⟨[],by unfold toP;exact .none⟩
  | .bl b,_,_,r,ru,_=>by obtain rfl:=r.blI;cases ru;exact ⟨[],by unfold toP;exact .bool b⟩
  | .int i,_,_,r,ru,_=>by obtain rfl:=r.intI;obtain ⟨t,rfl⟩:=ru;exact ⟨[],by unfold toP;exact .int i t⟩
  | .str x,_,_,r,ru,_=>by obtain rfl:=r.strI;obtain ⟨t,rfl⟩:=ru;exact ⟨[],by unfold toP;exact .str x t⟩
  | .ref _,_,_,_,_,n=>by cases n
  | .tup ds,_,_,r,ru,n=>by
    obtain ⟨a,xs,rfl,_,sq,rl⟩:=r.tupI
    cases ru
    obtain ⟨its,rv,⟨o,e,hc,k,hd⟩,_⟩:=I.tuple sq
    obtain ⟨as,q⟩:=reads_all I ds xs its rl rv (by unfold Uh at n;exact n)
    exact ⟨_,by unfold toP;exact reads_tuple_at e hc hd (by simpa using q)⟩
  | .lst ds,_,_,r,ru,n=>by
    obtain ⟨a,xs,rfl,_,sq,rl⟩:=r.lstI
    cases ru
    obtain ⟨its,rv,⟨o,k,e,hc,_,hd⟩,_⟩:=I.list sq
    obtain ⟨as,q⟩:=reads_all I ds xs its rl rv (by unfold Uh at n;exact n)
    exact ⟨_,by unfold toP;exact reads_list_at e hc hd (by simpa using q)⟩
theorem reads_all (I:Inv X pins σ H s):∀ (ds:List DV) (xs:List V) (us:List Value),RepL X.K ρ B H ds xs -> Vals xs us -> noRefs ds = true -> ∃ as,ReadsAll s.heap us (toPs ds) as
  | [],_,_,r,ru,_=>by unfold RepL at r;subst r;cases ru;exact ⟨[],by unfold toPs;exact .nil⟩
  | d :: ds,_,_,r,ru,n=>by
    unfold RepL at r
    obtain ⟨x,xs,rfl,r1,r2⟩:=r
    cases ru with
    | cons q1 q2 =>
      unfold noRefs at n
      rw [Bool.and_eq_true] at n
      obtain ⟨as,h1⟩:=Vd I d x _ r1 q1 n.1
      obtain ⟨bs,h2⟩:=reads_all I ds xs _ r2 q2 n.2
      exact ⟨_,by unfold toPs;exact .cons h1 h2⟩
end
end
def okP (d:DV):Bool:=Uh d && SeqAt.shaped (toP d)
def eqD:DV -> DV -> M DV:=fun x y=>do QB (okP x && okP y);pure (.bl (PyData.eqv (toP x) (toP y)))
def neD:DV -> DV -> M DV:=fun x y=>do QB (okP x && okP y);pure (.bl (!PyData.eqv (toP x) (toP y)))
section
variable {X:Cx} {e a b c:Expr} {f fa fb fc:DEx} {ca cb:DTx} {pos:Pos}
theorem Qcd (hu:X.A.units + 64 < cLine):P2 X (compareOp .Eq) eqD:=by
  intro pins s σ H x y v u Q I rx ry h
  obtain ⟨ρ,B,hp,dx,dy,d,hp',W,r1,r2,e,k⟩:=h
  obtain ⟨_,hp1,e1,e2⟩:=Qf e
  obtain ⟨hs,rfl⟩:=QJ e1
  obtain ⟨rfl,rfl⟩:=Qi e2
  simp only [okP,Bool.and_eq_true] at hs
  obtain ⟨as,q1⟩:=Vd I dx x v r1 rx hs.1.1
  obtain ⟨bs,q2⟩:=Vd I dy y u r2 ry hs.2.1
  exact eq_dataH q1 q2 hs.1.2 hs.2.2 hu ⟨.bl _,H,I,rfl,k _ ρ B H Gr.refl W XL⟩
def tPn (K:PySem.W.Frag) (g:List DV -> M DV):List V -> Hp -> VK -> Prop:=fun xs H Q=>∃ ρ B hp ds d hp',WOk K ρ B hp H /\ RepL K ρ B H ds xs /\ g ds hp = some (d,hp') /\ Fol K ρ B H d hp' Q
def Jf (g:List DV -> M DV) (a:DAx):DEx:=fun env=>do g (<- a env)
theorem K6 {K:PySem.W.Frag} {g:List DV -> M DV} {fa:DAx} {σ:St} {H:Hp} {Q:VK} (h:tD K (Jf g fa) σ H Q):tCB (tPn K g) (tDA K fa) σ H Q:=by
  obtain ⟨Z,env,ρ,B,hp,d,hp',S,e,k⟩:=h
  obtain ⟨ds,hp1,e1,e2⟩:=Qf e
  exact tDA.run S e1 fun vs ρ1 B1 H1 g1 S1 r1=>⟨ρ1,B1,hp1,ds,d,hp',S1.wo,r1,e2,k.after g1⟩
theorem Xg {x:Str} {id:String} {g:List DV -> M DV} {e:Expr} {es:List Expr} {fa:DAx} {p:Pos} (hc:X0 X (.builtin id) (tPn X.K g)) (hm:X.mg x = none) (hv:bootBuiltins x = some (.builtin id)) (ha:DA X (e :: es) fa) (hg:Gl X x:=by rfl) (hn:x ≠ "__name__" := by decide) (hdb:(x == ("__debug__" : Str)) = false:=by decide)
    (he:starEach (e :: es) X.env = (false,eval e X.env) :: starEach es X.env:=by rfl) (hpl:(backTo pos (starEach es X.env)).any (·.1) = false:=by rfl):DE X (.Call (.Name x p) (e :: es) [] pos) (Jf g fa) :=
  L2.PE.imp (QaW hc hg hm hv ha hn hdb he hpl) fun _ _ _ h=>K6 h
theorem kY {x:Str} {T:String} {g:List DV -> M DV} {e:Expr} {es:List Expr} {fa:DAx} {p:Pos} (hc:X0 X (.type T) (tPn X.K g)) (hm:X.mg x = none) (hv:bootBuiltins x = some (.type T)) (ha:DA X (e :: es) fa) (hg:Gl X x:=by rfl) (hn:x ≠ "__name__" := by decide) (hdb:(x == ("__debug__" : Str)) = false:=by decide)
    (he:starEach (e :: es) X.env = (false,eval e X.env) :: starEach es X.env:=by rfl) (hpl:(backTo pos (starEach es X.env)).any (·.1) = false:=by rfl):DE X (.Call (.Name x p) (e :: es) [] pos) (Jf g fa) :=
  L2.PE.imp (gO hc hg hm hv ha hn hdb he hpl) fun _ _ _ h=>K6 h
theorem RepL.oneI {K:PySem.W.Frag} {ρ:List Addr} {B:Addr -> Prop} {H:Hp} {d:DV} {vs:List V} (h:RepL K ρ B H [d] vs):∃ v,vs = [v] /\ RepV K ρ B H d v:=by
  unfold RepL at h
  obtain ⟨x,r,rfl,h1,h2⟩:=h
  unfold RepL at h2;subst h2
  exact ⟨x,rfl,h1⟩
def qN:List DV -> M DV
  | [.tup ds]=>pure (.int ds.length)
  | [.lst ds]=>pure (.int ds.length)
  | _=>failure
theorem ub:X0 X (.builtin "len") (tPn X.K qN):=by
  intro pins s σ H xs us Q I r h
  obtain ⟨ρ,B,hp,ds,d,hp',W,rl,e,k⟩:=h
  unfold qN at e
  split at e
  . obtain ⟨rfl,rfl⟩:=Qi e
    obtain ⟨v,rfl,rv⟩:=rl.oneI
    obtain ⟨a,ys,rfl,_,sq,l⟩:=rv.tupI
    exact Y8 pins s σ H _ us Q I r ⟨a,ys,rfl,.inr sq,by rw [<- l.length];exact k _ ρ B H Gr.refl W JO⟩
  . obtain ⟨rfl,rfl⟩:=Qi e
    obtain ⟨v,rfl,rv⟩:=rl.oneI
    obtain ⟨a,ys,rfl,_,sq,l⟩:=rv.lstI
    exact Y8 pins s σ H _ us Q I r ⟨a,ys,rfl,.inl sq,by rw [<- l.length];exact k _ ρ B H Gr.refl W JO⟩
  . cases e
def Kk:List DV -> M DV
  | [.int i,.int j]=>pure (.int (if j < i then j else i))
  | _=>failure
theorem kR (hc:X.calm = true):X0 X (.builtin "min") (tPn X.K Kk):=by
  intro pins s σ H xs us Q I r h
  obtain ⟨ρ,B,hp,ds,d,hp',W,rl,e,k⟩:=h
  unfold Kk at e
  split at e
  . obtain ⟨rfl,rfl⟩:=Qi e
    exact gj hc pins s σ H xs us Q I r ⟨_,_,rl.ints2,k _ ρ B H Gr.refl W JO⟩
  . cases e
def Qas:List DV -> M DV
  | [.int i]=>pure (.int i)
  | [.bl k]=>pure (.int (if k then 1 else 0))
  | _=>failure
theorem QeH:X0 X (.type "int") (tPn X.K Qas):=by
  intro pins s σ H xs us Q I r h
  obtain ⟨ρ,B,hp,ds,d,hp',W,rl,e,k⟩:=h
  unfold Qas at e
  split at e
  . obtain ⟨rfl,rfl⟩:=Qi e
    exact V4 pins s σ H xs us Q I r (.inl ⟨_,rl.ints1,k _ ρ B H Gr.refl W JO⟩)
  . obtain ⟨rfl,rfl⟩:=Qi e
    obtain ⟨v,rfl,rv⟩:=rl.oneI
    obtain rfl:=rv.blI
    exact V4 pins s σ H _ us Q I r (.inr ⟨_,rfl,k _ ρ B H Gr.refl W JO⟩)
  . cases e
def Qep:List DV -> M DV
  | [.lst ds]=>pure (.tup ds)
  | [.tup ds]=>pure (.tup ds)
  | _=>failure
theorem QbK:X0 X (.type "tuple") (tPn X.K Qep):=by
  intro pins s σ H xs us Q I r h
  obtain ⟨ρ,B,hp,ds,d,hp',W,rl,e,k⟩:=h
  unfold Qep at e
  split at e
  . obtain ⟨rfl,rfl⟩:=Qi e
    obtain ⟨v,rfl,rv⟩:=rl.oneI
    obtain ⟨a,ys,rfl,_,sq,l⟩:=rv.lstI
    exact Yw pins s σ H _ us Q I r ⟨a,ys,rfl,.inl ⟨sq,jk W l k⟩⟩
  . obtain ⟨rfl,rfl⟩:=Qi e
    obtain ⟨v,rfl,rv⟩:=rl.oneI
    obtain ⟨a,ys,rfl,nb,sq,l⟩:=rv.tupI
    exact Yw pins s σ H _ us Q I r ⟨a,ys,rfl,.inr ⟨sq,k _ ρ B H Gr.refl W (zh nb sq l)⟩⟩
  . cases e
def Y9 (g g':DV -> DV -> M DV) (fa fb fc:DEx):DEx:=fun env=>do
  let x <- fa env
  let y <- fb env
  let z <- g x y
  if <- asB z then
    let u <- fc env
    g' y u
  else pure (.bl false)
end
end D
namespace D
open PySem PySem.Spec PyProof.Rows L2
section
variable {X:Cx} {e a b c:Expr} {f fa fb fc:DEx} {ca cb:DTx} {pos:Pos}
theorem vj {K:PySem.W.Frag} {g g':DV -> DV -> M DV} {σ:St} {H:Hp} {Q:VK} (h:tD K (Y9 g g' fa fb fc) σ H Q):Qbv (tP2 K g) (tP2 K g') (tD K fa) (tD K fb) (tD K fc) σ H Q:=by
  obtain ⟨Z,env,ρ,B,hp,d,hp',S,e,k⟩:=h
  obtain ⟨x,hp1,e1,e⟩:=Qf e
  obtain ⟨y,hp2,e2,e⟩:=Qf e
  obtain ⟨z,hp3,e3,e⟩:=Qf e
  obtain ⟨t,hp4,e4,e⟩:=Qf e
  obtain ⟨rfl,rfl⟩:=qD e4
  refine tD.run S e1 fun v ρ1 B1 H1 g1 S1 r1=>tD.run S1 e2 fun u ρ2 B2 H2 g2 S2 r2=>?_
  refine ⟨ρ2,B2,hp2,x,y,_,_,S2.wo,RepV.grow S1.wo.rb g2 _ _ r1,r2,e3,fun w ρ3 B3 H3 g3 W3 r3=>⟨t,r3.blI,?_⟩⟩
  have S3:=S2.grow g3 W3
  cases t with
  | false =>
    obtain ⟨rfl,rfl⟩:=Qi e
    exact vq (k _ ρ3 B3 H3 (g1.trans (g2.trans g3)) W3 XL)
  | true =>
    obtain ⟨q,hp5,e5,e6⟩:=Qf e
    refine vt (tD.run S3 e5 fun p ρ4 B4 H4 g4 S4 r4=>?_)
    exact ⟨ρ4,B4,hp5,y,q,d,hp',S4.wo,RepV.grow S3.wo.rb g4 _ _ (RepV.grow S2.wo.rb g3 _ _ r2),r4,e6,k.after (g1.trans (g2.trans (g3.trans g4)))⟩
theorem K4 {op op':CmpOp} {g g':DV -> DV -> M DV} (ho:P2 X (compareOp op) g) (ho':P2 X (compareOp op') g') (ha:DE X a fa) (hb:DE X b fb) (hc:DE X c fc) (hm:lastMarks [op,op'] [b,c] = false:=by with_unfolding_all rfl):DT X (.Compare a [op,op'] [b,c] pos) (eB (Y9 g g' fa fb fc)) :=
  L2.PT.imp (Qba ho ho' ha hb hc hm) fun σ H Q ⟨Z,env,ρ,B,hp,d,hp',S,e,k⟩=>by
    obtain ⟨x,hp1,e1,e2⟩:=Qf e
    obtain ⟨rfl,rfl⟩:=qD e2
    exact vj (tD.run S e1 fun v ρ1 B1 H1 g1 S1 r1=>⟨d,r1.blI,k ρ1 B1 H1 g1 S1.wo⟩)
abbrev DOx:=En -> M (Option Int)
def tDO (K:PySem.W.Frag) (f:DOx):TO:=fun σ H Q=>∃ Z env ρ B hp d hp',SOk K Z env σ ρ B hp H /\ f env hp = some (d,hp') /\ QeB K ρ B H hp' (Q d)
def DO (X:Cx) (e:Option Expr) (f:DOx):Prop:=PO X e (tDO X.K f)
def ZM:DOx:=fun _=>pure none
def asI:DV -> M Int
  | .int i=>pure i
  | _=>failure
theorem yu {d:DV} {c:Int} {hp hp':Hs} (h:asI d hp = some (c,hp')):d = .int c /\ hp = hp':=by
  cases d with
  | int b=>obtain ⟨rfl,rfl⟩:=Qi h;exact ⟨rfl,rfl⟩
  | _=>cases h
def ZN (f:DEx):DOx:=fun env=>do let i <- asI (<- f env);pure (some i)
theorem JL:DO X none ZM:=fun pins s σ H Q I ⟨Z,env,ρ,B,hp,d,hp',S,e,k⟩=>by
  obtain ⟨rfl,rfl⟩:=Qi e
  exact Qcq pins s σ H Q I (k ρ B H Gr.refl S.wo)
theorem JM (h:DE X e f):DO X (some e) (ZN f):=fun pins s σ H Q I ⟨Z,env,ρ,B,hp,d,hp',S,e,k⟩=>by
  obtain ⟨x,hp1,e1,e2⟩:=Qf e
  obtain ⟨i,hp2,e3,e4⟩:=Qf e2
  obtain ⟨rfl,rfl⟩:=yu e3
  obtain ⟨rfl,rfl⟩:=Qi e4
  exact Qcr h pins s σ H Q I (tD.run S e1 fun v ρ1 B1 H1 g1 S1 r1=>⟨i,r1.intI,k ρ1 B1 H1 g1 S1.wo⟩)
theorem tDO.run {K:PySem.W.Frag} {f:DOx} {Z:Ent} {env:En} {σ:St} {ρ:List Addr} {B:Addr -> Prop} {hp hp1:Hs} {H:Hp} {d:Option Int} {Q:Option Int -> Hp -> Prop} (S:SOk K Z env σ ρ B hp H) (e:f env hp = some (d,hp1))
    (k:∀ ρ' B' H',Gr K ρ B H ρ' B' H' -> SOk K Z env σ ρ' B' hp1 H' -> Q d H'):tDO K f σ H Q :=
  ⟨Z,env,ρ,B,hp,d,hp1,S,e,fun ρ' B' H' g W=>k ρ' B' H' g (S.grow g W)⟩
def xV (ds:List DV) (lo hi:Option Int):List DV:=(ds.drop (HT.sIx ds.length 0 lo)).take (HT.sIx ds.length ds.length hi - HT.sIx ds.length 0 lo)
theorem KY {K:PySem.W.Frag} {ρ:List Addr} {B:Addr -> Prop} {H:Hp} {ds:List DV} {xs:List V} {lo hi:Option Int} (r:RepL K ρ B H ds xs):RepL K ρ B H (xV ds lo hi) (KZ xs lo hi):=by
  unfold xV KZ
  rw [r.length]
  exact RepL.take _ (RepL.drop _ r)
def slD (d:DV) (lo hi:Option Int):M DV:=match d with
  | .lst ds=>pure (.lst (xV ds lo hi))
  | .tup ds=>pure (.tup (xV ds lo hi))
  | _=>failure
def eSl (f:DEx) (lo hi:DOx):DEx:=fun env=>do let d <- f env;let l <- lo env;let h <- hi env;slD d l h
def tPs (K:PySem.W.Frag):V -> Option Int -> Option Int -> Hp -> VK -> Prop:=fun x lo hi H Q=>∃ ρ B hp d r hp',WOk K ρ B hp H /\ RepV K ρ B H d x /\ slD d lo hi hp = some (r,hp') /\ Fol K ρ B H r hp' Q
theorem GS {prog:Program} {w:World} {A:Around} {E:Value -> Shared -> Prop} {s:Shared} {t sl:Addr} {items:Array Value} {vl vu:Value} {lo hi:Option Int} {Q:Value -> Shared -> Prop} (ht:IsTup s.heap t items) (hs:s.heap.IsSliceOf sl vl vu .none) (pl:IsPart vl lo) (pu:IsPart vu hi)
    (h0:HT.sIx items.size 0 lo = 0) (h1:HT.sIx items.size items.size hi = items.size) (h:Q (.ref t) s):wpAny (model prog w) A (getItem (.ref t) (.ref sl)) Q E s:=by
  obtain ⟨os,hos,hcs,hds⟩:=id hs
  have hTs:s.TypeIs (.ref sl) "slice" := ⟨os,hos,hcs⟩
  unfold getItem
  try with_reducible refine wpAny_holding ?_
  first | refine wpAny_bind (wpAny_pure ?_) | skip
  refine wpAny_bind (wpAny_sequenceKey ht.typeIs (by decide) ?_)
  refine wpAny_bind (wpAny_callSpecial?_slot (name:=Str.ofString "__getitem__") ht.typeIs PyProof.Rows.slot_tuple_getitem (wpAny_call_entry PyProof.Rows.slot_tuple_getitem ht.typeIs entry_tuple_getitem ?_ (args_tuple_getitem _ _)))
  show wpAny _ _ (Builtin.Tuple.tupleItemsOf (.ref t) >>= _) _ _ s
  refine wpAny_bind (tupleItemsOf_ ht ?_)
  refine wpAny_bind (wpAny_typeOf hTs ?_)
  rw [if_pos (by decide)]
  refine wpAny_bind (HT.sliceApplied_gen hs pl pu ?_)
  have yes:(((HT.sIx items.size 0 lo:Nat):Int) == 0 && (1:Int) == 1 && (HT.sIx items.size items.size hi - HT.sIx items.size 0 lo) == items.size) = true:=by rw [h0,h1];simp
  show wpAny _ _ (if (((HT.sIx items.size 0 lo:Nat):Int) == 0 && (1:Int) == 1 && (HT.sIx items.size items.size hi - HT.sIx items.size 0 lo) == items.size) = true then _ else _) _ _ s
  rw [if_pos yes]
  have ex:∀ {Q':Bool -> Shared -> Prop} {A':Around} {E':Value -> Shared -> Prop},Q' true s -> wpAny (model prog w) A' (Builtin.Tuple.tupleIsExact (.ref t)) Q' E' s:=fun {Q' A' E'} q=>by
    unfold Builtin.Tuple.tupleIsExact
    exact wpAny_bind (wpAny_typeOf ht.typeIs (wpAny_pure (by rw [show (Value.type "tuple" == Value.type "tuple") = true from beq_self_eq_true _];exact q)))
  refine wpAny_bind (ex ?_)
  rw [if_pos rfl]
  first
    | exact wpAny_bind (wpAny_rule (wpAny_pure ⟨_,rfl,wpAny_pure h⟩))
    | exact wpAny_bind (wpAny_rule (wpAny_bind (wpAny_pure (wpAny_pure ⟨_,rfl,wpAny_pure h⟩))))
theorem QcN:SlR X (fun x lo hi H Q=>∃ a xs,x = .ref a /\ SqT X.K H a xs /\ (HT.sIx xs.length 0 lo = 0 /\ HT.sIx xs.length xs.length hi = xs.length) /\ Q (.ref a) H):=by
  intro pins s σ H x v vl vu lo hi sl Q I rx hs pl pu h
  obtain ⟨a,xs,rfl,hx,⟨h0,h1⟩,q⟩:=h
  cases rx
  obtain ⟨its,r,ht,hz⟩:=I.tuple hx
  have hlen:its.toArray.size = xs.length:=by rw [List.size_toArray];exact r.length.symm
  exact ⟨"tuple", _,PyProof.Rows.slot_tuple_getitem.lookup,ht.typeIs,GS ht hs pl pu (by rw [hlen];exact h0) (by rw [hlen];exact h1) ⟨.ref a,H,I,rfl,q⟩⟩
theorem gm {α:Type} (ds:List α) (i j:Nat) (h0:i = 0) (h1:j = ds.length):(ds.drop i).take (j - i) = ds:=by subst h0 h1;simp
theorem QfH:SlR X (tPs X.K):=by
  intro pins s σ H x v vl vu lo hi sl Q I rx hs pl pu h
  obtain ⟨ρ,B,hp,d,r,hp',W,rv,e,k⟩:=h
  cases d with
  | lst ds =>
    obtain ⟨rfl,rfl⟩:=Qi e
    obtain ⟨a,xs,rfl,nb,sq,rl⟩:=rv.lstI
    exact QcM pins s σ H _ v vl vu lo hi sl Q I rx hs pl pu ⟨a,xs,rfl,sq,U0 W (KY rl) k⟩
  | tup ds =>
    obtain ⟨rfl,rfl⟩:=Qi e
    obtain ⟨a,xs,rfl,nb,sq,rl⟩:=rv.tupI
    by_cases hw:HT.sIx xs.length 0 lo = 0 /\ HT.sIx xs.length xs.length hi = xs.length
    . refine QcN pins s σ H _ v vl vu lo hi sl Q I rx hs pl pu ⟨a,xs,rfl,sq,hw,?_⟩
      have:xV ds lo hi = ds:=by unfold xV;exact gm ds _ _ (by rw [rl.length];exact hw.1) (by rw [rl.length];exact hw.2)
      rw [this] at k
      exact k _ ρ B H Gr.refl W (zh nb sq rl)
    . exact Qej pins s σ H _ v vl vu lo hi sl Q I rx hs pl pu ⟨a,xs,rfl,sq,hw,jk W (KY rl) k⟩
  | non=>cases e
  | bl _=>cases e
  | int _=>cases e
  | str _=>cases e
  | ref _=>cases e
theorem YJ {lo hi:Option Expr} {ol oh:DOx} {p2:Pos} (h:DE X e f) (hl:DO X lo ol) (hh:DO X hi oh):DE X (.Subscript e (.Slice lo hi none p2) pos) (eSl f ol oh) :=
  L2.PE.imp (Qa0 QfH h hl hh) fun σ H Q ⟨Z,env,ρ,B,hp,d,hp',S,e,k⟩=>by
    obtain ⟨x,hp1,e1,e⟩:=Qf e
    obtain ⟨l,hp2,e2,e⟩:=Qf e
    obtain ⟨u,hp3,e3,e⟩:=Qf e
    refine tD.run S e1 fun v ρ1 B1 H1 g1 S1 r1=>tDO.run S1 e2 fun ρ2 B2 H2 g2 S2=>tDO.run S2 e3 fun ρ3 B3 H3 g3 S3=>?_
    exact ⟨ρ3,B3,hp3,x,d,hp',S3.wo,RepV.grow S1.wo.rb (g2.trans g3) _ _ r1,e,k.after (g1.trans (g2.trans g3))⟩
theorem QeO {P:Program} {w:World} {K:PySem.W.Frag} {mg:Str -> Option Value} {base:Heap} {x:Str} {stm:Stmt} {g:Addr} {fd:FuncData} {N ps:List Str} {k:Nat} {body:DSx} (F:Fun K x x stm g fd) (Sc:Qv N ps (Qp stm))
    (h:∀ (cdv:Value) (A:Around) (outer:List Env) (s:Shared) (H:Hp) (E:XK),Room k (A.deeper (envOfC x (Qp stm) s.heap.objs.size g cdv)) -> DSs (xW CX0 P w K mg base N x (Qp stm) g cdv A outer s H E).nox (ZD stm) body) :
    qC P w K mg base CX0 (k + 1) g fd ps (spD K ps.length (Q7 N.length body)):=by
  refine F.ok Sc (fun vs H Q E h=>h.1) (fun cdv A outer s H vs Q E hr sp=>?_)
  obtain ⟨hn,ρ,B,hp,ds,d,hp',W,r,e,k⟩:=sp
  obtain ⟨⟨fl,env'⟩,hp1,e1,e2⟩:=Qf e
  refine ⟨_,h cdv A outer s H E hr,⟨ρ,B,H⟩,_,ρ,B,hp,fl,env',hp1,xk W r,e1,fun σ' ρ' B' H' g' S'=>?_⟩
  cases fl with
  | nx=>obtain ⟨rfl,rfl⟩:=Qi e2;exact k .non ρ' B' H' S'.gr S'.wo zg
  | rt x=>obtain ⟨rfl,rfl⟩:=Qi e2;exact fun v rv=>k v ρ' B' H' S'.gr S'.wo rv
  | bk=>cases e2
  | ct=>cases e2
theorem GD {K:PySem.W.Frag} {ρ:List Addr} {B:Addr -> Prop} {H:Hp}:∀ ns:List Int,RepL K ρ B H (ns.map DV.int) (ns.map V.int)
  | []=>RepL.nil
  | _ :: r=>RepL.cons JO (GD r)
theorem QdF {K:PySem.W.Frag} {F:List DV -> M DV} {H:Hp} {a:Addr} {ns:List Int} {E:XK} (h:∃ hp',F [.lst (ns.map .int)] [] = some (.bl true,hp')) (hS:SqL K H a (ns.map V.int)):spD K 1 F [.ref a] H (fun v _=>v = .bl true) E:=by
  obtain ⟨hp',h⟩:=h
  refine ⟨rfl,[],fun _=>False,[],[.lst (ns.map .int)],.bl true,hp',⟨rfl,List.nodup_nil,fun i a o h=>by simp at h,fun a h=>absurd h (by simp),fun a h=>absurd h (fun z=>z),fun a h=>h.elim⟩,RepL.one (Kt (fun z=>z) hS (GD ns)),h,fun v _ _ _ _ _ r=>r.blI⟩
end
end D
namespace L2
open PySem PySem.Spec PyProof.Rows
section
variable {prog:Program} {w:World} {A:Around} {E:Value -> Shared -> Prop} {s:Shared}
theorem XW {p q:Addr} {n:Nat} {xs:Array Value} {v:Value} {Q:Value -> Shared -> Prop} (a1:s.heap.IsTupleIter p q n) (a2:s.heap.IsTuple q xs) (a3:xs[n]? = some v)
    (k:∀ g,g.IsTupleIter p q (n + 1) -> Heap.SameBut p s.heap g -> Q v { s with heap:=g }):wpAny (model prog w) A (Builtin.SmallTypes.nextOf (.ref p)) Q E s:=by
  obtain ⟨ob,b1,b2,b3⟩:=id a1
  obtain ⟨oq,b4,_,m,b5⟩:=a2
  unfold Builtin.SmallTypes.nextOf
  refine wpAny_bind (wpAny_callSpecial?_slot (name:=Str.ofString "__next__") a1.typeIs F.slot_tuple_iterator_next (wpAny_call_entry F.slot_tuple_iterator_next a1.typeIs F.entry_tuple_iterator_next ?_ (F.args_tuple_iterator_next_1 _)))
  show wpAny _ _ (field (.ref p) 0 >>= _) _ _ s
  refine wpAny_bind (wpAny_field b1 b3 (x:=.ref q) rfl ?_)
  show wpAny _ _ (if (Value.ref q == Value.none) = true then _ else _) _ _ s
  rw [if_neg (show ¬ ((Value.ref q == Value.none) = true) from Bool.false_ne_true)]
  show wpAny _ _ (field (.ref p) 1 >>= _) _ _ s
  refine wpAny_bind (wpAny_field b1 b3 (x:=.int n 0) rfl ?_)
  show wpAny _ _ (seqItems? (.ref q) >>= _) _ _ s
  refine wpAny_bind (wpAny_seqItems b4 b5 ?_)
  simp only [Int.toNat_natCast,a3]
  refine wpAny_bind (wpAny_setField b1 b3 (by simp) (wpAny_pure ⟨v,rfl,wpAny_pure (k _ ?_ (Heap.SameBut.update ..))⟩))
  exact ⟨_,Heap.get?_update_self _ b1 (Obj.isFreed_of_fields (Obj.data_mapFields b3 _)),(Obj.cls_mapFields ..).trans b2,by rw [Obj.data_mapFields b3];simp [rawInt]⟩
theorem xu {p q:Addr} {n:Nat} {xs:Array Value} {Q:Value -> Shared -> Prop} (hh:A.handled = none) (a1:s.heap.IsTupleIter p q n) (a2:s.heap.IsTuple q xs) (a3:xs[n]? = none)
    (k:∀ g x,Heap.ExtBut p s.heap g -> (∃ o,g.get? x = some o /\ o.cls = .type "StopIteration") -> E (.ref x) { s with heap:=g }):wpAny (model prog w) A (Builtin.SmallTypes.nextOf (.ref p)) Q E s:=by
  obtain ⟨ob,b1,b2,b3⟩:=id a1
  obtain ⟨oq,b4,_,m,b5⟩:=a2
  unfold Builtin.SmallTypes.nextOf
  refine wpAny_bind (wpAny_callSpecial?_slot (name:=Str.ofString "__next__") a1.typeIs F.slot_tuple_iterator_next (wpAny_call_entry F.slot_tuple_iterator_next a1.typeIs F.entry_tuple_iterator_next ?_ (F.args_tuple_iterator_next_1 _)))
  show wpAny _ _ (field (.ref p) 0 >>= _) _ _ s
  refine wpAny_bind (wpAny_field b1 b3 (x:=.ref q) rfl ?_)
  show wpAny _ _ (if (Value.ref q == Value.none) = true then _ else _) _ _ s
  rw [if_neg (show ¬ ((Value.ref q == Value.none) = true) from Bool.false_ne_true)]
  show wpAny _ _ (field (.ref p) 1 >>= _) _ _ s
  refine wpAny_bind (wpAny_field b1 b3 (x:=.int n 0) rfl ?_)
  show wpAny _ _ (seqItems? (.ref q) >>= _) _ _ s
  refine wpAny_bind (wpAny_seqItems b4 b5 ?_)
  simp only [Int.toNat_natCast,a3]
  refine wpAny_bind (wpAny_rule (wpAny_bind (wpAny_setField b1 b3 (by simp) ?_)))
  show wpAny _ _ (newExc (.type "StopIteration") [] >>= _) _ _ _
  refine wpAny_bind ?_
  simp only [newExc,newTuple]
  refine wpAny_bind (wpAny_newObj_type ?_ (by size_fits))
  refine wpAny_bind (m:=firstArgMember _ _) (wpAny_of_eq (a:=Value.none) (by first | rfl | (simp only [firstArgMember];rfl)) ?_)
  refine wpAny_newObj_type ?_ (by size_fits)
  simp only [raiseNew]
  refine wpAny_bind (wpAny_handled ?_)
  first | rw [show A.in1.handled = none from hh] | rw [hh]
  refine wpAny_bind (wpAny_pure (wpAny_throw ?_))
  exact k _ _ (((Heap.SameBut.update ..).extBut.push _).push _) ⟨_,Heap.get?_push_size _ rfl,rfl⟩
structure ZA (z p o i j a b:Addr):Prop where
  pz:p ≠ z
  oz:o ≠ z
  iz:i ≠ z
  jz:j ≠ z
  po:p ≠ o
  pi:p ≠ i
  pj:p ≠ j
  oi:o ≠ i
  oj:o ≠ j
  ij:i ≠ j
  az:a ≠ z
  ao:a ≠ o
  ai:a ≠ i
  aj:a ≠ j
  bz:b ≠ z
  bo:b ≠ o
  bi:b ≠ i
  bj:b ≠ j
structure ZS (h:Heap) (z p o i j a b:Addr) (n:Nat) (f:Value):Prop where
  zz:IsZip h z p o f
  pp:IsPair h p (.ref i) (.ref j)
  oo:∃ x y,IsPair h o x y
  ii:h.IsTupleIter i a n
  jj:h.IsTupleIter j b n
theorem QcX {z p o i j a b:Addr} {n:Nat} {xs ys:Array Value} {x y:Value} {Q:Value -> Shared -> Prop} (D:ZA z p o i j a b) (S:ZS s.heap z p o i j a b n .none) (ha:s.heap.IsTuple a xs) (hb:s.heap.IsTuple b ys) (hx:xs[n]? = some x) (hy:ys[n]? = some y)
    (k:∀ g,ZS g z p o i j a b (n + 1) (rawInt s.heap.objs.size) -> IsPair g s.heap.objs.size x y -> g.objs.size = s.heap.objs.size + 1 -> (∀ c u,c ≠ z -> c ≠ o -> c ≠ i -> c ≠ j -> s.heap.get? c = some u -> g.get? c = some u) -> Q (.ref s.heap.objs.size) { s with heap:=g }) :
    wpAny (model prog w) A (Builtin.«zip.__next__» ⟨[.ref z],[]⟩) (fun fin s'=>∃ v,fin = .done (.ret v) /\ Q v s') E s:=by
  obtain ⟨zz,pp,⟨u1,u2,oo⟩,ii,jj⟩:=S
  show wpAny _ _ (field (.ref z) 2 >>= _) _ _ _
  refine wpAny_bind (wpAny_field zz rfl (x:=.bool false) rfl ?_)
  show wpAny _ _ (field (.ref z) 3 >>= _) _ _ _
  refine wpAny_bind (wpAny_field zz rfl (x:=.ref p) rfl ?_)
  refine wpAny_bind (wpAny_seqItems pp rfl ?_)
  show wpAny _ _ (Builtin.SmallTypes.ownedTupleIsFree (.ref z) >>= _) _ _ _
  refine wpAny_bind ?_
  unfold Builtin.SmallTypes.ownedTupleIsFree
  refine wpAny_bind (wpAny_field zz rfl (x:=.none) rfl (wpAny_pure ?_))
  simp only [if_true]
  refine wpAny_bind (wpAny_rule ?_)
  refine wpAny_bind (wpAny_field zz rfl (x:=.ref o) rfl ?_)
  refine wpAny_bind (wpAny_setField_rec zz (by simp) fun g1 z1 k1=>?_)
  replace z1:IsZip g1 z p o .ellipsis:=z1
  refine wpAny_bind ?_
  simp only [List.zipIdx_cons,List.zipIdx_nil,List.forIn_cons,List.forIn_nil]
  refine wpAny_bind (wpAny_bind (wpAny_onRaise ?_))
  show wpAny _ _ (Builtin.SmallTypes.nextOf (.ref i) >>= _) _ _ _
  have ht:∀ {g g':Heap} {q c:Addr} {vs:Array Value},Heap.SameBut q g g' -> c ≠ q -> g.IsTuple c vs -> g'.IsTuple c vs:=fun {g g' q c vs} sb hc ⟨ob,e,r⟩=>⟨ob,sb.extBut _ _ hc e,r⟩
  refine wpAny_bind (XW (ii.extBut k1.extBut D.iz) (ht k1 D.az ha) hx fun g2 i2 k2=>wpAny_pure ?_)
  have o2:IsPair g2 o u1 u2:=k2.extBut _ _ D.oi (k1.extBut _ _ D.oz oo)
  refine wpAny_bind (wpAny_seqItems o2 rfl ?_)
  refine wpAny_bind (wpAny_updateSeq_pair o2 fun g3 o3 k3=>?_)
  replace o3:IsPair g3 o x u2:=o3
  refine wpAny_bind (wpAny_letGo (wpAny_pure ?_))
  refine wpAny_bind (wpAny_bind (wpAny_onRaise ?_))
  show wpAny _ _ (Builtin.SmallTypes.nextOf (.ref j) >>= _) _ _ _
  refine wpAny_bind (XW (((jj.extBut k1.extBut D.jz).extBut k2.extBut D.ij.symm).extBut k3.extBut D.oj.symm) (ht k3 D.bo (ht k2 D.bi (ht k1 D.bz hb))) hy fun g4 j4 k4=>wpAny_pure ?_)
  have o4:IsPair g4 o x u2:=k4.extBut _ _ D.oj o3
  refine wpAny_bind (wpAny_seqItems o4 rfl ?_)
  refine wpAny_bind (wpAny_updateSeq_pair o4 fun g5 o5 k5=>?_)
  replace o5:IsPair g5 o x y:=o5
  refine wpAny_bind (wpAny_letGo (wpAny_pure (wpAny_pure ?_)))
  refine wpAny_bind (wpAny_seqItems o5 rfl ?_)
  refine wpAny_bind (wpAny_newTuple ?_)
  have sz:g5.objs.size = s.heap.objs.size:=by rw [k5.1,k4.1,k3.1,k2.1,k1.1]
  have z5:IsZip g5 z p o .ellipsis:=k5.extBut _ _ D.oz.symm (k4.extBut _ _ D.jz.symm (k3.extBut _ _ D.oz.symm (k2.extBut _ _ D.iz.symm z1)))
  have kk:∀ c u,c ≠ z -> c ≠ o -> c ≠ i -> c ≠ j -> s.heap.get? c = some u -> g5.get? c = some u:=fun c u c1 c2 c3 c4 e=>k5.extBut _ _ c2 (k4.extBut _ _ c4 (k3.extBut _ _ c2 (k2.extBut _ _ c3 (k1.extBut _ _ c1 e))))
  have i5:g5.IsTupleIter i a (n + 1):=((i2.extBut k3.extBut D.oi.symm).extBut k4.extBut D.ij).extBut k5.extBut D.oi.symm
  have j5:g5.IsTupleIter j b (n + 1):=j4.extBut k5.extBut D.oj.symm
  have zl:z < g5.objs.size:=Heap.lt_size z5
  show wpAny _ _ (Builtin.SmallTypes.ownedTupleHandOut (.ref z) (.ref g5.objs.size) >>= _) _ _ _
  refine wpAny_bind ?_
  unfold Builtin.SmallTypes.ownedTupleHandOut
  have z6:IsZip (g5.push { cls:=.type "tuple", data:=.seq #[x,y] }) z p o .ellipsis:=Heap.get?_push_of_some _ z5
  refine wpAny_bind (wpAny_setField_rec z6 (by simp) fun g7 z7 k7=>?_)
  replace z7:IsZip g7 z p o (rawInt g5.objs.size):=z7
  refine wpAny_setField_rec z7 (by simp) fun g8 z8 k8=>?_
  replace z8:IsZip g8 z p o (rawInt g5.objs.size):=z8
  have up:∀ c u,c ≠ z -> g5.get? c = some u -> g8.get? c = some u:=fun c u c1 e=>k8.extBut _ _ c1 (k7.extBut _ _ c1 (Heap.get?_push_of_some _ e))
  have t8:IsPair g8 g5.objs.size x y:=k8.extBut _ _ (Nat.ne_of_gt zl) (k7.extBut _ _ (Nat.ne_of_gt zl) (Heap.get?_push_size _ rfl))
  have s8:g8.objs.size = g5.objs.size + 1:=by rw [k8.1,k7.1,Heap.size_push]
  rw [sz] at z8 t8 s8
  refine wpAny_pure ⟨_,rfl,?_⟩
  show Q (.ref g5.objs.size) _
  rw [sz]
  exact k g8 ⟨z8,up _ _ D.pz (kk _ _ D.pz D.po D.pi D.pj pp),⟨x,y,up _ _ D.oz o5⟩,i5.at fun u e=>up _ u D.iz e,j5.at fun u e=>up _ u D.jz e⟩ t8 s8 fun c u c1 c2 c3 c4 e=>up c u c1 (kk c u c1 c2 c3 c4 e)
theorem QcY {z p o i j a b:Addr} {n:Nat} {xs ys:Array Value} {Q:PySem.Fin -> Shared -> Prop} (hh:A.handled = none) (D:ZA z p o i j a b) (S:ZS s.heap z p o i j a b n .none) (ha:s.heap.IsTuple a xs) (hb:s.heap.IsTuple b ys) (he:xs[n]? = none ∨ ys[n]? = none)
    (k:∀ g x,(∀ c u,c ≠ z -> c ≠ o -> c ≠ i -> c ≠ j -> s.heap.get? c = some u -> g.get? c = some u) -> (∃ u,g.get? x = some u /\ u.cls = .type "StopIteration") -> E (.ref x) { s with heap:=g }) :
    wpAny (model prog w) A (Builtin.«zip.__next__» ⟨[.ref z],[]⟩) Q E s:=by
  obtain ⟨zz,pp,⟨u1,u2,oo⟩,ii,jj⟩:=S
  have ht:∀ {g g':Heap} {q c:Addr} {vs:Array Value},Heap.SameBut q g g' -> c ≠ q -> g.IsTuple c vs -> g'.IsTuple c vs:=fun {g g' q c vs} sb hc ⟨ob,e,r⟩=>⟨ob,sb.extBut _ _ hc e,r⟩
  show wpAny _ _ (field (.ref z) 2 >>= _) _ _ _
  refine wpAny_bind (wpAny_field zz rfl (x:=.bool false) rfl ?_)
  show wpAny _ _ (field (.ref z) 3 >>= _) _ _ _
  refine wpAny_bind (wpAny_field zz rfl (x:=.ref p) rfl ?_)
  refine wpAny_bind (wpAny_seqItems pp rfl ?_)
  show wpAny _ _ (Builtin.SmallTypes.ownedTupleIsFree (.ref z) >>= _) _ _ _
  refine wpAny_bind ?_
  unfold Builtin.SmallTypes.ownedTupleIsFree
  refine wpAny_bind (wpAny_field zz rfl (x:=.none) rfl (wpAny_pure ?_))
  simp only [if_true]
  refine wpAny_bind (wpAny_rule ?_)
  refine wpAny_bind (wpAny_field zz rfl (x:=.ref o) rfl ?_)
  refine wpAny_bind (wpAny_setField_rec zz (by simp) fun g1 z1 k1=>?_)
  replace z1:IsZip g1 z p o .ellipsis:=z1
  refine wpAny_bind ?_
  simp only [List.zipIdx_cons,List.zipIdx_nil,List.forIn_cons,List.forIn_nil]
  refine wpAny_bind (wpAny_bind (wpAny_onRaise ?_))
  show wpAny _ _ (Builtin.SmallTypes.nextOf (.ref i) >>= _) _ _ _
  cases hx:xs[n]? with
  | none =>
    refine wpAny_bind (xu hh (ii.extBut k1.extBut D.iz) (ht k1 D.az ha) hx fun g2 x k2 h2=>?_)
    obtain ⟨oe,h3,h4⟩:=h2
    have z2:IsZip g2 z p o .ellipsis:=k2 _ _ D.iz.symm z1
    have xz:x ≠ z:=fun q=>by subst q;rw [z2] at h3;cases h3;simp at h4
    exact wpAny_setField_rec z2 (by simp) fun g3 _ k3=>k g3 x (fun c u c1 _ c3 _ e=>k3.extBut _ _ c1 (k2 _ _ c3 (k1.extBut _ _ c1 e))) ⟨oe,k3.extBut _ _ xz h3,h4⟩
  | some x0 =>
    have hy:ys[n]? = none:=by rcases he with h | h;rw [hx] at h;cases h;exact h
    refine wpAny_bind (XW (ii.extBut k1.extBut D.iz) (ht k1 D.az ha) hx fun g2 i2 k2=>wpAny_pure ?_)
    have o2:IsPair g2 o u1 u2:=k2.extBut _ _ D.oi (k1.extBut _ _ D.oz oo)
    refine wpAny_bind (wpAny_seqItems o2 rfl ?_)
    refine wpAny_bind (wpAny_updateSeq_pair o2 fun g3 o3 k3=>?_)
    refine wpAny_bind (wpAny_letGo (wpAny_pure ?_))
    refine wpAny_bind (wpAny_bind (wpAny_onRaise ?_))
    show wpAny _ _ (Builtin.SmallTypes.nextOf (.ref j) >>= _) _ _ _
    refine wpAny_bind (xu hh (((jj.extBut k1.extBut D.jz).extBut k2.extBut D.ij.symm).extBut k3.extBut D.oj.symm) (ht k3 D.bo (ht k2 D.bi (ht k1 D.bz hb))) hy fun g4 x k4 h2=>?_)
    obtain ⟨oe,h3,h4⟩:=h2
    have z4:IsZip g4 z p o .ellipsis:=k4 _ _ D.jz.symm (k3.extBut _ _ D.oz.symm (k2.extBut _ _ D.iz.symm z1))
    have xz:x ≠ z:=fun q=>by subst q;rw [z4] at h3;cases h3;simp at h4
    exact wpAny_setField_rec z4 (by simp) fun g5 _ k5=>k g5 x (fun c u c1 c2 c3 c4 e=>k5.extBut _ _ c1 (k4 _ _ c4 (k3.extBut _ _ c2 (k2.extBut _ _ c3 (k1.extBut _ _ c1 e))))) ⟨oe,k5.extBut _ _ xz h3,h4⟩
end
end L2
namespace L2
open PySem PySem.Spec PyProof.Rows
section
variable {X:Cx} {pins:List (Addr × Obj)} {σ:L2.St} {H:Hp} {s:Shared} {h':Heap}
theorem Inv.turnL {t':Nat} {fp:List Addr} (I:Inv X pins σ H s) (hf:∀ b ∈ fp,VH X pins H b) (k:∀ b o,b ∉ fp -> s.heap.get? b = some o -> h'.get? b = some o):Inv X pins σ H { s with heap:=h',toks:=t' }:=by
  refine I.step (g':=s.gens) (d':=s.drawn) (ch:=fp) (fun b hb=>⟨(hf b hb).2.2.2.1,(hf b hb).2.1,(hf b hb).2.2.2.2.1,(hf b hb).2.2.2.2.2⟩) (fun b o _ _ hc e _=>k b o hc e) (fun b o _ _ hc e _=>⟨o.slots,k b o hc e⟩) (fun _ _ _ _ n=>n)
    (fun b o hc e=>⟨o,k b o hc e⟩) (fun _ _ e=>e) (fun _ _ _ e=>e) (fun b ps e=>⟨#[],by rw [e];simp⟩) (fun m hm=>?_) (fun b u e=>?_) I.bare
  . obtain ⟨o,es,ep,ho,r⟩:=hm
    exact ⟨o,es,ep,k _ o (fun z=>(hf _ z).2.1 rfl) ho,r⟩
  . have nf:∀ c u,H c = some u -> c ∉ fp:=fun c u q z=>by rw [(hf c z).1] at q;cases q
    refine (I.hok b u e).stay (fun c v hc q=>k c v ?_ q) (fun _ q=>q) fun _ _ q=>q
    rcases hc with z | z
    . rw [z];exact nf b u e
    . exact nf c _ z
theorem Inv.turnNew {t':Nat} {fp:List Addr} {vs:List V} {us:List Value} (I:Inv X pins σ H s) (hf:∀ b ∈ fp,VH X pins H b) (k:∀ b o,b ∉ fp -> s.heap.get? b = some o -> h'.get? b = some o)
    (hv:Vals vs us) (hz:vs.length <= sizeLine) (hT:IsTup h' s.heap.objs.size us.toArray):Inv X pins σ (upd H s.heap.objs.size (.tup vs)) { s with heap:=h',toks:=t' }:=by
  have hn:H s.heap.objs.size = none:=I.hok.fresh (Nat.le_refl _)
  refine I.step (g':=s.gens) (d':=s.drawn) (ch:=fp) (fun b hb=>⟨(hf b hb).2.2.2.1,(hf b hb).2.1,(hf b hb).2.2.2.2.1,(hf b hb).2.2.2.2.2⟩) (fun b o _ _ hc e _=>k b o hc e) (fun b o _ _ hc e _=>⟨o.slots,k b o hc e⟩)
    (fun b o _ e n=>by rw [QU (Nat.ne_of_lt (Heap.lt_size e))];exact n) (fun b o hc e=>⟨o,k b o hc e⟩) (fun b xs e=>by rw [QU (Zw e hn)];exact e) (fun b o u e=>by rw [QU (Zw e hn)];exact e) (fun b ps e=>⟨#[],by rw [QU (Zw e hn),e];simp⟩) (fun m hm=>?_) (fun b u e=>?_) I.bare
  . obtain ⟨o,es,ep,ho,r⟩:=hm
    exact ⟨o,es,ep,k _ o (fun z=>(hf _ z).2.1 rfl) ho,r⟩
  . by_cases hb:b = s.heap.objs.size
    . subst hb
      rw [Zh] at e;cases e
      exact ⟨hz,us,hv,hT⟩
    . rw [QU hb] at e
      have nf:∀ c u,H c = some u -> c ∉ fp:=fun c u q z=>by rw [(hf c z).1] at q;cases q
      refine (I.hok b u e).stay (fun c v hc q=>k c v ?_ q) (fun c q=>by rw [QU (Zw q hn)];exact q) fun c xs q=>by rw [QU (Zw q hn)];exact q
      rcases hc with z | z
      . rw [z];exact nf b u e
      . exact nf c _ z
end
def Itz (K:PySem.W.Frag) (a b:Addr):It :=
  ⟨fun i H=>∃ xs ys x y,SqT K H a xs /\ SqT K H b ys /\ xs[i]? = some x /\ ys[i]? = some y,
   fun i H v H'=>∃ p x y,H p = none /\ (∀ xs,SqT K H a xs -> xs[i]? = some x) /\ (∀ ys,SqT K H b ys -> ys[i]? = some y) /\ v = .ref p /\ H' = upd H p (.tup [x,y]),
   fun i H=>∃ xs ys,SqT K H a xs /\ SqT K H b ys /\ (xs.length <= i ∨ ys.length <= i)⟩
theorem ZS.at {h h':Heap} {z p o i j a b:Addr} {n:Nat} {f:Value} (S:ZS h z p o i j a b n f) (k:∀ c ∈ [z,p,o,i,j],∀ u,h.get? c = some u -> h'.get? c = some u):ZS h' z p o i j a b n f:=by
  obtain ⟨zz,pp,⟨u1,u2,oo⟩,ii,jj⟩:=S
  exact ⟨k z (by simp) _ zz,k p (by simp) _ pp,⟨u1,u2,k o (by simp) _ oo⟩,ii.at fun u e=>k i (by simp) u e,jj.at fun u e=>k j (by simp) u e⟩
theorem Qby {P:Program} {w:World} {K:PySem.W.Frag} {elts:List Expr} {kt:Nat} {pos:Pos} {z p o i j a b:Addr} (D:ZA z p o i j a b):uZ P w K (.Tuple elts kt pos) (Itz K a b) [z,p,o,i,j] z (fun n h=>ZS h z p o i j a b n .none) where
  mem:=by simp
  obj:=fun n h S c hc=>by
    obtain ⟨zz,pp,⟨u1,u2,oo⟩,⟨oi,ei,ci,di⟩,⟨oj,ej,cj,dj⟩⟩:=S
    simp only [List.mem_cons,List.not_mem_nil,or_false] at hc
    rcases hc with rfl | rfl | rfl | rfl | rfl
    . exact ⟨_,zz,fun v q=>by have q':Data.fields _ = Data.cell v:=q;cases q'⟩
    . exact ⟨_,pp,fun v q=>by have q':Data.seq _ _ = Data.cell v:=q;cases q'⟩
    . exact ⟨_,oo,fun v q=>by have q':Data.seq _ _ = Data.cell v:=q;cases q'⟩
    . exact ⟨oi,ei,fun v q=>by rw [di] at q;cases q⟩
    . exact ⟨oj,ej,fun v q=>by rw [dj] at q;cases q⟩
  keep:=fun n h h' S k=>S.at k
  item:=by
    intro X hP hw hK hc n pins s σ H E I hf S hg
    subst hP hw hK
    obtain ⟨xs,ys,x,y,qa,qb,hx,hy⟩:=hg
    obtain ⟨ia,ra,pa,_⟩:=I.tuple qa
    obtain ⟨ib,rb,pb,_⟩:=I.tuple qb
    obtain ⟨u,hu,ru⟩:=ra.get hx
    obtain ⟨v,hv,rv⟩:=rb.get hy
    have hT:s.TypeIs (.ref z) "zip" := ⟨_,S.zz,rfl⟩
    unfold pyNext
    refine wpAny_bind (wpAny_attempt (wpAny_callSpecial?_slot (name:=Str.ofString "__next__") hT F.slot_zip_next (wpAny_call_entry F.slot_zip_next hT F.entry_zip_next
      (QcX D S (show s.heap.IsTuple a ia.toArray from pa) (show s.heap.IsTuple b ib.toArray from pb) (by simpa using hu) (by simpa using hv) fun g S' tp sz kp=>wpAny_pure ?_) (F.args_zip_next_1 _))))
    refine ⟨_,rfl,wpAny_letOwnedTupleGo_zip S'.zz fun g' z' sb=>?_⟩
    have kp':∀ c q,c ∉ [z,p,o,i,j] -> s.heap.get? c = some q -> g'.get? c = some q:=fun c q hc e=>by
      simp only [List.mem_cons,List.not_mem_nil,or_false,not_or] at hc
      exact sb.extBut _ _ hc.1 (kp c q hc.1 hc.2.2.1 hc.2.2.2.1 hc.2.2.2.2 e)
    have zl:z < s.heap.objs.size:=Heap.lt_size S.zz
    have tp':IsPair g' s.heap.objs.size u v:=sb.extBut _ _ (Nat.ne_of_gt zl) tp
    have ne:∀ c ∈ [z,p,o,i,j],c ≠ s.heap.objs.size:=fun c hc e=>by
      have q:=(hf c hc)
      obtain ⟨zz,pp,⟨u1,u2,oo⟩,⟨oi,ei,_⟩,⟨oj,ej,_⟩⟩:=S
      simp only [List.mem_cons,List.not_mem_nil,or_false] at hc
      rcases hc with rfl | rfl | rfl | rfl | rfl
      . exact Nat.ne_of_lt (Heap.lt_size zz) e
      . exact Nat.ne_of_lt (Heap.lt_size pp) e
      . exact Nat.ne_of_lt (Heap.lt_size oo) e
      . exact Nat.ne_of_lt (Heap.lt_size ei) e
      . exact Nat.ne_of_lt (Heap.lt_size ej) e
    refine ⟨.ref s.heap.objs.size,upd H s.heap.objs.size (.tup [x,y]),I.turnNew (t':=s.toks) hf kp' (us:=[u,v]) (.cons ru (.cons rv .nil)) (show 2 <= sizeLine by decide) ⟨_,tp',rfl,_,rfl⟩,rfl,
      ⟨_,x,y,I.hok.fresh (Nat.le_refl _),fun xs' h=>by rw [I.tuple_inj h qa];exact hx,fun ys' h=>by rw [I.tuple_inj h qb];exact hy,rfl,rfl⟩,?_,fun c hc=>?_⟩
    . obtain ⟨_,pp,⟨u1,u2,oo⟩,ii,jj⟩:=S'
      exact ⟨z',sb.extBut _ _ D.pz pp,⟨u1,u2,sb.extBut _ _ D.oz oo⟩,ii.extBut sb.extBut D.iz,jj.extBut sb.extBut D.jz⟩
    . rw [QU (ne c hc)];exact (hf c hc).1
  done:=by
    intro X hP hw hK hc n pins s σ H E I hf S hg
    subst hP hw hK
    obtain ⟨xs,ys,qa,qb,hs⟩:=hg
    obtain ⟨ia,ra,pa,_⟩:=I.tuple qa
    obtain ⟨ib,rb,pb,_⟩:=I.tuple qb
    have l1:=ra.length
    have l2:=rb.length
    have hT:s.TypeIs (.ref z) "zip" := ⟨_,S.zz,rfl⟩
    unfold pyNext
    refine wpAny_bind (wpAny_attempt (wpAny_callSpecial?_slot (name:=Str.ofString "__next__") hT F.slot_zip_next (wpAny_call_entry F.slot_zip_next hT F.entry_zip_next
      (QcY (I.ok.hd hc) D S (show s.heap.IsTuple a ia.toArray from pa) (show s.heap.IsTuple b ib.toArray from pb) (by rcases hs with q | q;exact .inl (by simp;omega);exact .inr (by simp;omega)) fun g x kp hx=>?_) (F.args_zip_next_1 _))))
    obtain ⟨ox,h1,h2⟩:=hx
    refine wpAny_bind (wpAny_isInstance (T := "StopIteration") (b:=true) ⟨ox,h1,h2⟩ isSubtype_stop ?_)
    refine wpAny_pure ⟨rfl,I.turnL (t':=s.toks) hf fun c q hc e=>?_⟩
    simp only [List.mem_cons,List.not_mem_nil,or_false,not_or] at hc
    exact kp c q hc.1 hc.2.2.1 hc.2.2.2.1 hc.2.2.2.2 e
  self:=fun _ _ _ _ _ S h=>wpAny_pyIter_zip S.zz h
abbrev zt1 (h:Heap) (a:Addr):Heap:=h.push { cls:=.type "tuple_iterator", data:=.fields #[.ref a,.int 0 0] }
abbrev zt2 (h:Heap) (a b:Addr):Heap:=(zt1 h a).push { cls:=.type "tuple_iterator", data:=.fields #[.ref b,.int 0 0] }
abbrev zt3 (h:Heap) (a b:Addr):Heap:=(zt2 h a b).push { cls:=.type "tuple", data:=.seq #[.ref h.objs.size,.ref (zt1 h a).objs.size] }
abbrev zt4 (h:Heap) (a b:Addr):Heap:=(zt3 h a b).push { cls:=.type "tuple", data:=.seq #[.none,.none] }
abbrev zt5 (h:Heap) (a b:Addr):Heap:=(zt4 h a b).push { cls:=.type "zip", data:=.fields #[.none,.bool false,.bool false,.ref (zt2 h a b).objs.size,.ref (zt3 h a b).objs.size] }
theorem uX (a b:Addr) (xs ys:Array Value):Meets (Builtin.«zip.__new__» ⟨[.type "zip", .ref a,.ref b],[]⟩) (fun _ R s=>s.heap.IsTuple a xs /\ s.heap.IsTuple b ys /\ R (.ok (.ret (.ref (zt4 s.heap a b).objs.size))) { s with heap:=zt5 s.heap a b }) :=
  .of_wp fun prog w A R s h=>by
    obtain ⟨hp,g,d,tk,os⟩:=s;obtain ⟨q1,q2,h⟩:=h
    have hsub:=sub_zip
    have t1:Heap.IsTuple (Shared.heap ⟨hp,g,d,tk,os⟩) a xs:=q1
    have t2:Heap.IsTuple (Shared.heap ⟨hp.push { cls:=.type "tuple_iterator", data:=.fields #[.ref a,.int 0 0] },g,d,tk,os⟩) b ys:=let ⟨ob,e,r⟩:=q2;⟨ob,Heap.get?_push_of_some _ e,r⟩
    wp_walk using wpAny_pyIter_tuple t1,wpAny_pyIter_tuple t2
    exact ⟨_,rfl,h⟩
section
variable {X:Cx} {elts:List Expr} {kt:Nat} {p2:Pos}
def Qc7 (K:PySem.W.Frag) (ta:TA):TI:=fun σ H R=>ta σ H fun vs H1=>∃ a b xs ys,vs = [.ref a,.ref b] /\ SqT K H1 a xs /\ SqT K H1 b ys /\ R (Itz K a b) H1
theorem Qez {pins:List (Addr × Obj)} {σ:L2.St} {H:Hp} {s:Shared} {R:It -> Hp -> Prop} {E:Value -> Shared -> Prop} {a b:Addr} {xs ys:List V} (I:Inv X pins σ H s) (qa:SqT X.K H a xs) (qb:SqT X.K H b ys) (q:R (Itz X.K a b) H) :
    wpAny (model X.prog X.w) X.A (call (.type "zip") [.ref a,.ref b]) (fun v s1=>wpAny (model X.prog X.w) X.A (pyIter v) (PIE X pins σ (.Tuple elts kt p2) R) E s1) E s:=by
  obtain ⟨ia,ra,pa,_⟩:=I.tuple qa
  obtain ⟨ib,rb,pb,_⟩:=I.tuple qb
  refine callType_new F.called_zip (by decide) (F.typeCall_zip_2 _ _) (F.newCall_zip_2 _ _) (fun obj=>F.args_object_init_3 obj _ _) F.entry_zip_new (uX a b ia.toArray ib.toArray) ⟨show s.heap.IsTuple a ia.toArray from pa,show s.heap.IsTuple b ib.toArray from pb,?_⟩
  have z1:(zt1 s.heap a).objs.size = s.heap.objs.size + 1:=Heap.size_push ..
  have z2:(zt2 s.heap a b).objs.size = s.heap.objs.size + 2:=by rw [Heap.size_push,z1]
  have z3:(zt3 s.heap a b).objs.size = s.heap.objs.size + 3:=by rw [Heap.size_push,z2]
  have z4:(zt4 s.heap a b).objs.size = s.heap.objs.size + 4:=by rw [Heap.size_push,z3]
  have g5:(zt5 s.heap a b).get? (zt4 s.heap a b).objs.size = some _:=Heap.get?_push_size _ rfl
  have g4:(zt5 s.heap a b).get? (zt3 s.heap a b).objs.size = some _:=Heap.get?_push_of_some _ (Heap.get?_push_size _ rfl)
  have g3:(zt5 s.heap a b).get? (zt2 s.heap a b).objs.size = some _:=Heap.get?_push_of_some _ (Heap.get?_push_of_some _ (Heap.get?_push_size _ rfl))
  have g2:(zt5 s.heap a b).get? (zt1 s.heap a).objs.size = some _:=Heap.get?_push_of_some _ (Heap.get?_push_of_some _ (Heap.get?_push_of_some _ (Heap.get?_push_size _ rfl)))
  have g1:(zt5 s.heap a b).get? s.heap.objs.size = some _:=Heap.get?_push_of_some _ (Heap.get?_push_of_some _ (Heap.get?_push_of_some _ (Heap.get?_push_of_some _ (Heap.get?_push_size _ rfl))))
  show _ /\ _
  have kp:∀ c o,s.heap.get? c = some o -> (zt5 s.heap a b).get? c = some o:=fun c o e=>Heap.get?_push_of_some _ (Heap.get?_push_of_some _ (Heap.get?_push_of_some _ (Heap.get?_push_of_some _ (Heap.get?_push_of_some _ e))))
  refine ⟨⟨_,g5,rfl⟩,?_⟩
  rw [z2,z3,z4] at g5
  rw [z1,z2] at g3
  rw [z3] at g4
  rw [z1] at g2
  rw [z4]
  have la:a < s.heap.objs.size:=by obtain ⟨o,e,_⟩:=pa;exact Heap.lt_size e
  have lb:b < s.heap.objs.size:=by obtain ⟨o,e,_⟩:=pb;exact Heap.lt_size e
  have D:ZA (s.heap.objs.size + 4) (s.heap.objs.size + 2) (s.heap.objs.size + 3) s.heap.objs.size (s.heap.objs.size + 1) a b:=by constructor <;> first | exact Nat.ne_of_lt la | exact Nat.ne_of_lt lb | exact Nat.ne_of_lt (Nat.lt_of_lt_of_le la (Nat.le_add_right _ _)) | exact Nat.ne_of_lt (Nat.lt_of_lt_of_le lb (Nat.le_add_right _ _)) | exact Nat.ne_of_lt (by omega) | exact Nat.ne_of_gt (by omega)
  have I1:Inv X pins σ H { s with heap:=zt5 s.heap a b }:=I.kept (t':=s.toks) kp
  have S:ZS (zt5 s.heap a b) (s.heap.objs.size + 4) (s.heap.objs.size + 2) (s.heap.objs.size + 3) s.heap.objs.size (s.heap.objs.size + 1) a b 0 .none:=⟨g5,g3,⟨_,_,g4⟩,⟨_,g1,rfl,rfl⟩,⟨_,g2,rfl,rfl⟩⟩
  refine wpAny_pyIter_zip (s:={ s with heap:=zt5 s.heap a b }) S.zz ⟨_,[s.heap.objs.size + 4,s.heap.objs.size + 2,s.heap.objs.size + 3,s.heap.objs.size,s.heap.objs.size + 1],_,Itz X.K a b,H,rfl,I1,Qby D,S,fun c hc=>?_,q⟩
  have hc':s.heap.objs.size <= c:=by
    simp only [List.mem_cons,List.not_mem_nil,or_false] at hc
    rcases hc with rfl | rfl | rfl | rfl | rfl <;> first | exact Nat.le_refl _ | exact Nat.le_add_right _ _
  exact I.fpOk hc' (I.hok.fresh hc')
theorem Qd8 {x y:Expr} {ta:TA} {p pos:Pos} (hg:Gl X "zip") (hm:X.mg "zip" = none) (ha:PA X [x,y] ta) (hs:starEach [x,y] X.env = [(false,eval x X.env),(false,eval y X.env)]:=by rfl) (hs2:starEach [y] X.env = [(false,eval y X.env)]:=by rfl) :
    PI X (.Tuple elts kt p2) (.Call (.Name "zip" p) [x,y] [] pos) (Qc7 X.K ta):=by
  intro pins s σ H R I h
  refine Call_ (yR I hg hm boot_zip (PyProof.Rows.callWith_type1 (thn (ha pos pins s σ H _ I h) fun us s1 ⟨vs,H1,I1,r1,q1⟩=>?_) (by rw [hs,hs2]) (by rw [hs2];rfl)))
  obtain ⟨a,b,xs,ys,e,qa,qb,q⟩:=q1
  subst e
  cases r1 with
  | cons r rr =>
    cases rr with
    | cons r' rr =>
      cases rr
      cases r
      cases r'
      exact Qez I1 qa qb q
end
end L2
namespace D
open PySem PySem.Spec PyProof.Rows L2
def zq:List DV -> List DV -> List DV
  | x :: xs,y :: ys=>.tup [x,y] :: zq xs ys
  | _,_=>[]
theorem VE:∀ {xs ys:List DV} {i:Nat} {d:DV},(zq xs ys)[i]? = some d -> ∃ x y,xs[i]? = some x /\ ys[i]? = some y /\ d = .tup [x,y]
  | x :: xs,y :: ys,0,d,h=>by simp [zq] at h;exact ⟨x,y,rfl,rfl,h.symm⟩
  | x :: xs,y :: ys,i + 1,d,h=>by
    obtain ⟨a,b,h1,h2,h3⟩:=VE (xs:=xs) (ys:=ys) (i:=i) (by simpa [zq] using h)
    exact ⟨a,b,by simpa using h1,by simpa using h2,h3⟩
  | [],_,_,_,h=>by simp [zq] at h
  | _ :: _,[],_,_,h=>by simp [zq] at h
theorem GY:∀ (xs ys:List DV),(zq xs ys).length = min xs.length ys.length
  | x :: xs,y :: ys=>by simp only [zq,List.length_cons,GY xs ys];omega
  | [],_=>by simp [zq]
  | _ :: _,[]=>by simp [zq]
def U6 (f g:DEx):DIx:=fun env=>do
  let x <- f env
  let xs <- VY x
  let y <- g env
  let ys <- VY y
  pure (zq xs ys)
theorem Qau {K:PySem.W.Frag} {ρ:List Addr} {B:Addr -> Prop} {H:Hp} {ds es:List DV} {a b:Addr} {xs ys:List V} (na:¬ B a) (qa:SqT K H a xs) (ra:RepL K ρ B H ds xs) (nb:¬ B b) (qb:SqT K H b ys) (rb:RepL K ρ B H es ys):uY K ρ B H (zq ds es) (Itz K a b):=fun ρ1 B1 H1 g r1 t1=>by
  have qa1:=g.sqT na qa
  have qb1:=g.sqT nb qb
  have ra1:=RepL.gs g _ _ ra
  have rb1:=RepL.gs g _ _ rb
  refine ⟨fun i d e=>?_,xs,ys,qa1,qb1,?_⟩
  . obtain ⟨x,y,h1,h2,rfl⟩:=VE e
    obtain ⟨u,hu,ru⟩:=ra1.get h1
    obtain ⟨v,hv,rv⟩:=rb1.get h2
    refine ⟨⟨xs,ys,u,v,qa1,qb1,hu,hv⟩,fun z H' ⟨p,u',v',hn,h3,h4,e1,e2⟩=>?_⟩
    subst e1 e2
    have e3:=h3 xs qa1
    have e4:=h4 ys qb1
    rw [hu] at e3;cases e3
    rw [hv] at e4;cases e4
    refine ⟨zh (fun z=>t1 p z hn) (SqT.of Zh) (RepL.gs (vZ r1 hn) _ _ (RepL.cons ru (RepL.one rv))),.inr ⟨p,_,hn,rfl⟩⟩
  . rw [GY,ra1.length,rb1.length]
    rcases Nat.le_total xs.length ys.length with q | q
    . exact .inl (by rw [Nat.min_eq_left q];exact Nat.le_refl _)
    . exact .inr (by rw [Nat.min_eq_right q];exact Nat.le_refl _)
section
variable {X:Cx} {elts:List Expr} {kt:Nat} {p2:Pos} {f g:DEx}
theorem Qdr {x y:Expr} {p pos:Pos} (hg:Gl X "zip") (hm:X.mg "zip" = none) (hx:DE X x f) (hy:DE X y g) (hs:starEach [x,y] X.env = [(false,eval x X.env),(false,eval y X.env)]:=by rfl) (hs2:starEach [y] X.env = [(false,eval y X.env)]:=by rfl) :
    DI X (.Tuple elts kt p2) (.Call (.Name "zip" p) [x,y] [] pos) (U6 f g) :=
  L2.PI.imp (Qd8 hg hm (jx hx (jx hy pa_nil (by rw [hs2];rfl)) (by rw [hs,hs2])) hs hs2) fun σ H R ⟨Z,env,ρ,B,hp,ds,hp',S,e,k⟩=>by
    obtain ⟨d1,hp1,e1,e⟩:=Qf e
    obtain ⟨xs,hp2,e2,e⟩:=Qf e
    obtain ⟨rfl,rfl⟩:=XZ e2
    obtain ⟨d2,hp3,e3,e⟩:=Qf e
    obtain ⟨ys,hp4,e4,e⟩:=Qf e
    obtain ⟨rfl,rfl⟩:=XZ e4
    obtain ⟨rfl,rfl⟩:=Qi e
    refine tD.run S e1 fun v ρ1 B1 H1 g1 S1 r1=>tD.run S1 e3 fun u ρ2 B2 H2 g2 S2 r2=>?_
    obtain ⟨a,vs,rfl,na,qa,la⟩:=(RepV.grow S1.wo.rb g2 _ _ r1).tupI
    obtain ⟨b,us,rfl,nb,qb,lb⟩:=r2.tupI
    exact ⟨a,b,vs,us,rfl,qa,qb,k _ ρ2 B2 H2 (g1.trans g2) S2.wo (Qau na qa la nb qb lb)⟩
def gT (ix:List Nat):DGx:=fun d env=>do
  let ds <- VY d
  QB (decide (ds.length = ix.length))
  pure ((ix.zip ds).foldl (fun en q=>en.set q.1 (.val q.2)) env)
def UK (X:Cx):List Nat -> List Expr -> Prop
  | [],[]=>True
  | i :: is,.Name x _ :: es=>X.N[i]? = some x /\ Loc X.env.scope x /\ (X.fn x = true ∨ X.env.scope.names.lookup x = some .local) /\ UK X is es
  | _,_=>False
theorem Ui (hN:X.N.Nodup):∀ (ix:List Nat) (es:List Expr),UK X ix es -> (∀ es' x p,(assignEach (.Name x p :: es') X.env).map (·.2) = assign (.Name x p) X.env :: (assignEach es' X.env).map (·.2)) ->
    PGs X es (fun vs σ H Q=>vs.length = ix.length /\ Q ((ix.zip vs).foldl (fun s q=>s.set q.1 (some q.2)) σ) H)
  | [],[],_,_=>by
    intro pins s σ H vs us Q I r h
    obtain ⟨h1,h2⟩:=h
    have:vs = []:=by cases vs with | nil=>rfl | cons _ _=>simp at h1
    subst this
    exact Qcl pins s σ H [] us Q I r ⟨rfl,by simpa using h2⟩
  | i :: is,.Name x p :: es,⟨h1,h2,h3,h4⟩,ha=>by
    intro pins s σ H vs us Q I r h
    obtain ⟨h5,h6⟩:=h
    cases vs with
    | nil=>simp at h5
    | cons v vs =>
      exact Qa4 (Ko hN h1 h2 h3) (Ui hN is es h4 ha) (ha _ _ _) pins s σ H (v :: vs) us Q I r ⟨v,vs,rfl,by simpa using h5,by simpa using h6⟩
theorem uA {K:PySem.W.Frag} {Z:Ent} {ρ:List Addr} {B:Addr -> Prop} {hp:Hs} {H:Hp}:∀ (ix:List Nat) (ds:List DV) (vs:List V) {env:En} {σ:L2.St},RepL K ρ B H ds vs -> SOk K Z env σ ρ B hp H ->
    SOk K Z ((ix.zip ds).foldl (fun en q=>en.set q.1 (.val q.2)) env) ((ix.zip vs).foldl (fun s q=>s.set q.1 (some q.2)) σ) ρ B hp H
  | [],_,_,_,_,_,S=>by simpa using S
  | i :: is,[],_,_,_,r,S=>by unfold RepL at r;subst r;simpa using S
  | i :: is,d :: ds,_,_,_,r,S=>by
    unfold RepL at r
    obtain ⟨v,vs,rfl,r1,r2⟩:=r
    simpa using uA is ds vs r2 (S.set (i:=i) r1)
theorem Qdq (ix:List Nat) (hN:X.N.Nodup) (hn:UK X ix elts) (hc:X.calm = true) (ha:∀ es' x p,(assignEach (.Name x p :: es') X.env).map (·.2) = assign (.Name x p) X.env :: (assignEach es' X.env).map (·.2))
    (hl:(assignEach elts X.env).length = ix.length:=by rfl) (hst:(assignEach elts X.env).findIdx? (·.1) = none:=by rfl):PG X (.Tuple elts kt p2) (tDG X.K (gT ix)):=by
  intro pins s σ H v u Q I r h
  refine Qd6 hc (Ui hN ix elts hn ha) hl hst pins s σ H v u Q I r ?_
  obtain ⟨Z,env,ρ,B,hp,d,env',hp',S,rd,e,k⟩:=h
  obtain ⟨ds,hp1,e1,e⟩:=Qf e
  obtain ⟨rfl,rfl⟩:=XZ e1
  obtain ⟨_,hp2,e2,e⟩:=Qf e
  obtain ⟨hs,rfl⟩:=QJ e2
  obtain ⟨rfl,rfl⟩:=Qi e
  obtain ⟨a,xs,rfl,na,qa,la⟩:=rd.tupI
  have hl':xs.length = ix.length:=by rw [<- la.length];exact of_decide_eq_true hs
  exact ⟨a,xs,rfl,qa,hl',hl',k _ ρ B H Gs.refl (uA ix ds xs la S)⟩
def Yd (f:DEx) (g:DGx):DSx:=fun env=>do let d <- f env;let env' <- g d env;pure (.nx,env')
theorem yI {tg e:Expr} {g:DGx} {pos:Pos} (he:DE X e f) (hg:PG X tg (tDG X.K g)) (hs:swapsWithSole [tg] e pos.line X.env = pure false:=by rfl) (hw:swappedStores [tg] e X.env = pure none:=by rfl)
    (h1:(assignEach [tg] X.env).map (·.2) = [assign tg X.env]:=by rfl):DS X (.Assign [tg] e pos) (Yd f g) :=
  L2.PS.imp (Qd9 he hg hs hw h1) fun D σ H ⟨Z,env,ρ,B,hp,fl,env',hp',S,e,k⟩=>by
    obtain ⟨d,hp1,e1,e⟩:=Qf e
    obtain ⟨env1,hp2,e2,e⟩:=Qf e
    obtain ⟨z,rfl⟩:=Qi e;cases z
    exact tD.run S e1 fun v ρ1 B1 H1 g1 S1 r1=>⟨Z,env,ρ1,B1,hp1,d,env',hp2,S1,r1,e2,fun σ' ρ' B' H' g' S'=>k σ' ρ' B' H' ((g1.gs S.wo.rb).trans g') S'⟩
end
end D
namespace D
open PySem PySem.Spec PyProof.Rows L2
theorem vP {lo:Int} {n i:Nat} {d:DV} (h:(QW lo n)[i]? = some d):i < n /\ d = .int (lo + i):=by
  have hi:i < n:=by have:=(List.getElem?_eq_some_iff.mp h).1;simpa [QW] using this
  refine ⟨hi,?_⟩
  simp [QW,hi] at h
  exact h.symm
theorem Zk (lo:Int) (n:Nat):(QW lo n).length = n:=by simp [QW]
theorem ym (i:Int):okP (.int i) = true:=by rfl
theorem uz (i j:Int):PyData.eqv (.int i) (.int j) = (i == j):=rfl
theorem Z3 (i j:Int):eqD (.int i) (.int j) = pure (.bl (i == j)):=by
  simp only [eqD,ym,Bool.and_self,QB,if_true,pure_bind,toP,uz]
theorem J0 (i j:Int):neD (.int i) (.int j) = pure (.bl (!(i == j))):=by
  simp only [neD,ym,Bool.and_self,QB,if_true,pure_bind,toP,uz]
theorem Qdj {α:Type} {xs:List α} {i:Int} (h0:0 <= i) (h1:i < xs.length):atI xs i = xs[i.toNat]?:=by
  unfold atI ixN
  rw [if_pos h0,if_pos h1];rfl
theorem UO (ns:List Int) {i:Int} (h0:0 <= i) (h1:i < ns.length):atI (ns.map DV.int) i = some (.int (ns.getD i.toNat 0)):=by
  have hl:i.toNat < ns.length:=by omega
  rw [Qdj h0 (by simpa using h1),List.getElem?_map,List.getElem?_eq_getElem hl]
  simp [List.getD_eq_getElem?_getD,hl]
def opt:Option Int -> DV
  | none=>.non
  | some i=>.int i
end D
namespace D
open PySem PySem.Spec PyProof.Rows L2
theorem XB (x y:Int) (h:0 < y):yW (.int x) (.int y) = pure (.int (x % y)):=by simp [yW,qv,QeG,h]
theorem K3 (x y:Int) (h:0 < y) (h':y < 1073741824):Qaa (.int x) (.int y) = pure (.int (x / y)):=by simp [Qaa,qv,QeF,h,h']
theorem xf (x y:Int) (h:-(2 ^ 64) < x) (h':x < 2 ^ 64):qw (.int x) (.int y) = pure (.int (x * y)):=by
  simp only [qw,qv,Qdl,decide_eq_true (Or.inl (b:=(-(2 ^ 64) < y /\ y < 2 ^ 64)) (And.intro h h')),if_true]
theorem vF (x y:Int) (h:-(2 ^ 64) < y) (h':y < 2 ^ 64):qw (.int x) (.int y) = pure (.int (x * y)):=by
  simp only [qw,qv,Qdl,decide_eq_true (Or.inr (a:=(-(2 ^ 64) < x /\ x < 2 ^ 64)) (And.intro h h')),if_true]
theorem Z1 (x y:Int):ZJ (.int x) (.int y) = pure (.int (x + y)):=rfl
theorem Js (x y:Int):xr (.int x) (.int y) = pure (.int (x - y)):=rfl
theorem Z4 (x y:Int):gtD (.int x) (.int y) = pure (.bl (decide (y < x))):=rfl
theorem Jc (x y:Int):ltD (.int x) (.int y) = pure (.bl (decide (x < y))):=rfl
theorem Jy (x y:Int):leD (.int x) (.int y) = pure (.bl (decide (x <= y))):=rfl
theorem Jx (x y:Int):geD (.int x) (.int y) = pure (.bl (decide (y <= x))):=rfl
theorem Jr (x:Int):QeW (.int x) = pure (.int (-x)):=rfl
theorem XC:qP (.int 10) (.int 30) = pure (.int 1000000000000000000000000000000):=rfl
theorem qq:qP (.int 10) (.int 21) = pure (.int 1000000000000000000000):=rfl
theorem x9:qP (.int 10) (.int 9) = pure (.int 1000000000):=rfl
theorem Qbp {m:Int} (h0:0 <= m) (h1:m <= 1000000):Vv m = true:=decide_eq_true ⟨by omega,by omega⟩
end D
namespace D
open PySem PySem.Spec PyProof.Rows L2
theorem zi {ds:List DV} (h:ds.length <= 100000):zH ds = true:=decide_eq_true h
theorem ZK {f g:DSx} {env env1:En} (h:f env = pure (.nx,env1)):Qs f g env = g env1:=by simp only [Qs,h,pure_bind]
theorem QcJ {f g:DSx} {env env1:En} {d:DV} (h:f env = pure (.rt d,env1)):Qs f g env = pure (.rt d,env1):=by simp only [Qs,h,pure_bind]
theorem ZV {i:Nat} {f:DEx} {env:En} {d:DV} (h:f env = pure d):QL i f env = pure (.nx,env.set i (.val d)):=by simp only [QL,h,pure_bind]
theorem Qfh {c:DTx} {f g:DSx} {env:En} (h:c env = pure true):sIf c f g env = f env:=by simp only [sIf,h,pure_bind,if_true]
theorem Qfg {c:DTx} {f g:DSx} {env:En} (h:c env = pure false):sIf c f g env = g env:=by simp only [sIf,h,pure_bind,Bool.false_eq_true,if_false]
theorem XV {f:DEx} {env:En} {d:DV} (h:f env = pure d):QP f env = pure (.rt d,env):=by simp only [QP,h,pure_bind]
theorem Yo {n:Nat} {body:DSx} {ds:List DV} {d:DV} {env:En} (h:body (ds.map .val ++ List.replicate (n - ds.length) .un) = pure (.rt d,env)):Q7 n body ds = pure d:=by simp only [Q7,h,pure_bind]
theorem QeK {f:DEx} {env:En} {b:Bool} (h:f env = pure (.bl b)):eB f env = pure b:=by simp only [eB,h,pure_bind,asB]
theorem qZ {g:DV -> DV -> M DV} {f f':DEx} {env:En} {x y d:DV} (h:f env = pure x) (h':f' env = pure y) (hg:g x y = pure d):Qn g f f' env = pure d:=by simp only [Qn,h,h',pure_bind,hg]
theorem j6 {F:List DV -> M DV} {f f':DEx} {env:En} {x y d:DV} (h:f env = pure x) (h':f' env = pure y) (hF:F [x,y] = pure d):Qt 2 F (Qc f (Qc f' Qm)) env = pure d:=by simp [Qt,Qc,Qm,h,h',QB,hF]
theorem Qaf {F:List DV -> M DV} {f f' f'':DEx} {env:En} {x y z d:DV} (h:f env = pure x) (h':f' env = pure y) (h'':f'' env = pure z) (hF:F [x,y,z] = pure d):Qt 3 F (Qc f (Qc f' (Qc f'' Qm))) env = pure d:=by simp [Qt,Qc,Qm,h,h',h'',QB,hF]
end D
namespace D
open PySem PySem.Spec PyProof.Rows L2
section
variable {K:PySem.W.Frag} {ρ:List Addr} {B:Addr -> Prop} {hp:Hs} {H:Hp}
theorem Gr.wnew {p:Addr} {o:HO} (h:H p = none) (kf:K.lookup p = none):Gr K ρ B H (ρ ++ [p]) (xU B p) (upd H p o) where
  pre:=List.prefix_append _ _
  ban:=fun _ h=>.inl h
  new:=fun a z=>z.elim .inl fun e=>.inr (e ▸ ⟨h,kf⟩)
  rnew:=fun a z=>(List.mem_append.mp z).elim .inl fun q=>.inr (by rw [List.mem_singleton.mp q];exact h)
  keep:=fun a u _ q=>by rw [QU (Zw q h)];exact q
  trk:=(Gr.laid (K:=K) (ρ:=ρ) (B:=B) h).trk
theorem WOk.wnew {p:Addr} {o:HO} {v:OV} (W:WOk K ρ B hp H) (h:H p = none) (kf:K.lookup p = none) (hv:ORep K (ρ ++ [p]) (xU B p) (upd H p o) p v):WOk K (ρ ++ [p]) (xU B p) (hp ++ [v]) (upd H p o) where
  len:=by simp [W.len]
  nd:=List.nodup_append.mpr ⟨W.nd,by simp,fun a ha b hb=>by rw [List.mem_singleton.mp hb];exact fun z=>W.bt a (W.rb a ha) (z ▸ h)⟩
  obj:=fun i a u e q=>by
    by_cases hi:i < ρ.length
    . rw [List.getElem?_append_left hi] at e
      rw [List.getElem?_append_left (by rw [<- W.len];exact hi)] at q
      exact ORep.gs ((Gr.wnew h kf).gs W.rb) (QU (fun z=>W.bt a (W.rb a (List.mem_of_getElem? e)) (z ▸ h))) (W.obj i a u e q)
    . rw [List.getElem?_append_right (by omega)] at e
      rw [List.getElem?_append_right (by rw [<- W.len];omega)] at q
      have hi0:i - ρ.length = 0:=by
        have:=(List.getElem?_eq_some_iff.mp e).1
        simp at this;omega
      rw [hi0] at e
      rw [<- W.len,hi0] at q
      simp at e q
      subst e q
      exact hv
  rb:=fun a z=>(List.mem_append.mp z).elim (fun q=>.inl (W.rb a q)) fun q=>.inr (List.mem_singleton.mp q)
  bt:=fun a z q=>by
    have q':=(Gr.laid (K:=K) (ρ:=ρ) (B:=B) h).trk a q
    rcases z with z | rfl
    . exact W.bt a z q'
    . rw [Zh] at q;cases q
  bk:=fun a z=>z.elim (W.bk a) fun e=>e ▸ kf
theorem Gr.wset {i:Nat} {a:Addr} {o o':HO} (ha:ρ[i]? = some a) (h:H a = some o):Gr K ρ B H ρ B (upd H a o') where
  pre:=List.prefix_rfl
  ban:=fun _ h=>h
  new:=fun _ h=>.inl h
  rnew:=fun _ h=>.inl h
  keep:=fun b u nb q=>by rw [QU (show b ≠ a from fun z=>nb (by rw [z];exact List.mem_of_getElem? ha))];exact q
  trk:=fun b q=>by
    by_cases e:b = a
    . subst e;rw [Zh] at q;cases q
    . rw [QU e] at q;exact q
theorem WOk.wset {i:Nat} {a:Addr} {o o':HO} {v:OV} (W:WOk K ρ B hp H) (ha:ρ[i]? = some a) (h:H a = some o) (hv:ORep K ρ B (upd H a o') a v):WOk K ρ B (hp.set i v) (upd H a o') where
  len:=by simp [W.len]
  nd:=W.nd
  obj:=fun j b u e q=>by
    by_cases hj:j = i
    . subst hj
      rw [ha] at e;cases e
      have hl:j < hp.length:=by rw [<- W.len];exact (List.getElem?_eq_some_iff.mp ha).1
      rw [List.getElem?_set_self hl] at q;cases q
      exact hv
    . rw [List.getElem?_set_ne (Ne.symm hj)] at q
      have hb:b ≠ a:=fun z=>hj (by
        subst z
        exact (List.getElem?_inj (List.getElem?_eq_some_iff.mp e).1 W.nd).mp (e.trans ha.symm))
      exact ORep.gs ((Gr.wset ha h).gs W.rb) (QU hb) (W.obj j b u e q)
  rb:=W.rb
  bt:=fun b z q=>W.bt b z ((Gr.wset (K:=K) (B:=B) ha h).trk b q)
  bk:=W.bk
end
section
variable {X:Cx} {e a b c:Expr} {f fa fb fc:DEx} {pos:Pos}
def Y5 (o:OV):M DV:=fun h=>some (.ref h.length,h ++ [o])
def Jz (i:Nat):M OV:=fun h=>match h[i]? with
  | some o=>some (o,h)
  | none=>none
def xo (i:Nat) (o:OV):M Unit:=fun h=>some ((),h.set i o)
theorem Jh {i:Nat} {o:OV} {hp hp':Hs} (h:Jz i hp = some (o,hp')):hp[i]? = some o /\ hp = hp':=by
  unfold Jz at h
  cases q:hp[i]? with
  | none=>rw [q] at h;cases h
  | some z=>rw [q] at h;cases h;exact ⟨rfl,rfl⟩
def YK (f:DAx):DEx:=fun env=>do let ds <- f env;QB (zH ds);Y5 (.lst ds)
theorem QbW {K:PySem.W.Frag} {ρ:List Addr} {B:Addr -> Prop} {H:Hp} {hp:Hs} {ds:List DV} {xs:List V} {Q:VK} (W:WOk K ρ B hp H) (r:RepL K ρ B H ds xs) (k:Fol K ρ B H (.ref hp.length) (hp ++ [.lst ds]) Q):∀ p,H p = none -> kG K (upd H p (.lst xs)) -> Q (.ref p) (upd H p (.lst xs)):=fun p hp' kf=>by
  have kp:=kf p _ Zh
  have g:Gr K ρ B H (ρ ++ [p]) (xU B p) (upd H p (.lst xs)):=Gr.wnew hp' kp
  refine k _ _ _ _ g (W.wnew hp' kp ⟨xs,Zh,RepL.grow W.rb g _ _ r⟩) ?_
  unfold RepV
  exact ⟨p,rfl,by rw [<- W.len];simp⟩
theorem uj {es:List Expr} {f:DAx} (h:DA X es f):DE X (.List es pos) (YK f) :=
  L2.PE.imp (QaY h).kf fun σ H Q ⟨Z,env,ρ,B,hp,d,hp',S,e,k⟩=>by
    obtain ⟨xs,hp1,e1,e2⟩:=Qf e
    obtain ⟨_,hp2,e3,e4⟩:=Qf e2
    obtain ⟨hs,rfl⟩:=QJ e3
    cases e4
    exact tDA.run S e1 fun vs ρ1 B1 H1 g1 S1 r1=>⟨by rw [<- r1.length];exact qV hs,QbW S1.wo r1 (k.after g1)⟩
theorem RepV.refW {K:PySem.W.Frag} {ρ:List Addr} {B:Addr -> Prop} {H:Hp} {hp:Hs} {i:Nat} {o:OV} {v:V} (W:WOk K ρ B hp H) (r:RepV K ρ B H (.ref i) v) (h:hp[i]? = some o):∃ a,v = .ref a /\ ρ[i]? = some a /\ ORep K ρ B H a o:=by
  obtain ⟨a,rfl,e⟩:=r.refI
  exact ⟨a,rfl,e,W.obj i a o e h⟩
def ixW:DV -> DV -> M DV
  | .ref n,.int i=>do
    match <- Jz n with
    | .lst ds=>match atI ds i with
      | some d=>pure d
      | none=>failure
    | _=>failure
  | x,y=>ixD x y
def kz:List DV -> M DV
  | [.ref n]=>do
    match <- Jz n with
    | .lst ds=>pure (.tup ds)
    | _=>failure
  | xs=>Qep xs
theorem KS:X0 X (.type "tuple") (tPn X.K kz):=by
  intro pins s σ H xs us Q I r h
  obtain ⟨ρ,B,hp,ds,d,hp',W,rl,e,k⟩:=h
  unfold kz at e
  split at e
  . rename_i n
    obtain ⟨o,hp1,e1,e2⟩:=Qf e
    obtain ⟨e3,rfl⟩:=Jh e1
    cases o with
    | dic _=>cases e2
    | ins _ _=>cases e2
    | lst zs =>
      obtain ⟨rfl,rfl⟩:=Qi e2
      obtain ⟨v,rfl,rv⟩:=rl.oneI
      obtain ⟨a,rfl,_,ys,h1,l1⟩:=RepV.refW W rv e3
      exact Yw pins s σ H _ us Q I r ⟨a,ys,rfl,.inl ⟨SqL.of h1,jk W l1 k⟩⟩
  . exact QbK pins s σ H xs us Q I r ⟨ρ,B,hp,_,d,hp',W,rl,e,k⟩
end
end D
namespace D
open PySem PySem.Spec PyProof.Rows L2
end D
namespace D
open PySem PySem.Spec PyProof.Rows L2
section
variable {f g:DSx} {env env1 env2:En} {c ca cb:DTx} {e fa fb:DEx} {d x y:DV} {r:Fl × En}
end
theorem Qg {α β:Type} {m:M α} {k:α -> M β} {x:α} {hp hp1:Hs} (h:m hp = some (x,hp1)):(m >>= k) hp = k x hp1:=by
  show (m hp).bind (fun p=>k p.1 p.2) = _
  rw [h];rfl
theorem Ql {f g:DSx} {env env1:En} {hp hp1:Hs} (h:f env hp = some ((.nx,env1),hp1)):Qs f g env hp = g env1 hp1:=Qg h
theorem QX {i:Nat} {f:DEx} {env:En} {d:DV} {hp hp1:Hs} (h:f env hp = some (d,hp1)):QL i f env hp = some ((.nx,env.set i (.val d)),hp1):=Qg h
theorem Qb4 {ds:List DV} {i:Int} {d:DV} (h:atI ds i = some d):ixD (.tup ds) (.int i) = pure d:=by simp only [ixD,h]
theorem K0 (ds:List DV) (m:Nat):D.xV ds none (some (m:Int)) = ds.take m:=by
  unfold D.xV
  rw [HT.sIx_nat]
  show (ds.drop 0).take (min m ds.length - 0) = ds.take m
  simp
theorem kX (ds:List DV) (m:Nat):D.xV ds (some (m:Int)) none = ds.drop m:=by
  unfold D.xV
  rw [HT.sIx_nat]
  show (ds.drop (min m ds.length)).take (ds.length - min m ds.length) = ds.drop m
  rcases Nat.le_total m ds.length with h | h
  . rw [Nat.min_eq_left h,List.take_of_length_le (by simp)]
  . rw [Nat.min_eq_right h,List.drop_of_length_le h,List.drop_of_length_le (Nat.le_refl _)]
    simp
theorem Vt (ds:List DV) (m:Nat):slD (.tup ds) none (some (m:Int)) = pure (.tup (ds.take m)):=by rw [<- K0];rfl
theorem Vs (ds:List DV) (m:Nat):slD (.tup ds) (some (m:Int)) none = pure (.tup (ds.drop m)):=by rw [<- kX];rfl
theorem K9 {f g:DEx} {env:En} {ds:List DV} {m:Nat} (h:f env = pure (.tup ds)) (h':g env = pure (.int (m:Int))):eSl f ZM (ZN g) env = pure (.tup (ds.take m)):=by
  simp only [eSl,ZM,ZN,h,h',pure_bind,asI,Vt]
theorem K8 {f g:DEx} {env:En} {ds:List DV} {m:Nat} (h:f env = pure (.tup ds)) (h':g env = pure (.int (m:Int))):eSl f (ZN g) ZM env = pure (.tup (ds.drop m)):=by
  simp only [eSl,ZM,ZN,h,h',pure_bind,asI,Vs]
end D
namespace L2
open PySem PySem.Spec PyProof.Rows
section
variable {X:Cx}
def QfK:R2:=fun x y H Q=>∃ a kvs k v,x = .ref a /\ y = kV k /\ H a = some (.dK kvs) /\ qz kvs k = some v /\ Q v H
theorem Qb5 (hu:X.A.units + 1 < cLine):IxR X QfK:=by
  intro value slice pins s σ H x y v u Q I rx ry h hs
  obtain ⟨a,kvs,k,z,rfl,rfl,hH,hv,q⟩:=h
  cases rx
  have g:DGet H a (kV k) (some z):=hv ▸ DGet.k hH
  exact tail_any (K2 I g) PySem.F.slot_dict_getitem.lookup (gq hu I g ry fun w' s' I' rw'=>⟨z,H,I',rw',q⟩) hs
def Qfe:V -> V -> V -> Hp -> (Hp -> Prop) -> Prop:=fun o i v H Q=>∃ a kvs k,o = .ref a /\ i = kV k /\ H a = some (.dK kvs) /\ kvs.length < sizeLine /\ Q (upd H a (.dK (jB kvs k v)))
theorem Qbj (hu:X.A.units + 1 < cLine):QbF X Qfe:=fun pins s σ H o i v ov iv u Q I ro ri rv h=>by
  obtain ⟨a,kvs,k,rfl,rfl,hH,hl,q⟩:=h
  cases ro
  exact gt hu I (DPut.k hH hl) ri rv fun s' I'=>⟨_,I',q⟩
def Qfd:V -> List V -> Hp -> VK -> Prop:=fun x vs H Q=>∃ a kvs k,x = .ref a /\ H a = some (.dK kvs) /\ ((vs = [kV k] /\ Q ((qz kvs k).getD .non) H) ∨ ∃ z,vs = [kV k,z] /\ Q ((qz kvs k).getD z) H)
theorem uK (hu:X.A.units + 1 < cLine):MtR X "dict.get" Qfd:=by
  intro pins s σ H x vs v us Q I rx rv h
  obtain ⟨a,kvs,k,rfl,hH,h⟩:=h
  cases rx
  rcases h with ⟨rfl,q⟩ | ⟨z,rfl,q⟩
  . obtain ⟨u,rfl,ru⟩:=Uz rv
    exact Qdn hu I (DGet.k hH) ru fun w' s' I' rw'=>⟨_,H,I',rw',q⟩
  . obtain ⟨u,u2,rfl,ru,ru2⟩:=Qdg rv
    exact Qdo hu I (DGet.k hH) ru ru2 fun w' s' I' rw'=>⟨_,H,I',rw',q⟩
def QeS (n:Nat) (i:Int):Nat:=if i < 0 then (i + (n:Int)).toNat else min i.toNat n
end
end L2
namespace D
open PySem PySem.Spec PyProof.Rows L2
def qF:DV -> Option Key
  | .int i=>some (.inl i)
  | .str x=>some (.inr x)
  | _=>none
def zp (kvs:List (Key × DV)) (k:Key):Option DV:=(kvs.find? fun kv=>decide (kv.1 = k)).map (·.2)
def Vc (kvs:List (Key × DV)) (k:Key) (d:DV):List (Key × DV) :=
  if (kvs.any fun kv=>decide (kv.1 = k)) = true then kvs.map (fun kv=>if kv.1 = k then (kv.1,d) else kv) else kvs ++ [(k,d)]
def Qc4 (kvs:List (Key × DV)) (k:Key):List (Key × DV):=kvs.filter fun kv=>decide (kv.1 ≠ k)
section
variable {K:PySem.W.Frag} {ρ:List Addr} {B:Addr -> Prop} {H:Hp} {hp:Hs}
theorem jf {d:DV} {k:Key} {v:V} (h:qF d = some k) (r:RepV K ρ B H d v):v = kV k:=by
  cases d <;> simp [qF] at h <;> subst h
  . exact r.intI
  . exact r.strI
abbrev RepK (K:PySem.W.Frag) (ρ:List Addr) (B:Addr -> Prop) (H:Hp):List (Key × DV) -> List (Key × V) -> Prop:=Paired fun p q=>p.1 = q.1 /\ RepV K ρ B H p.2 q.2
theorem uQ:∀ {kvs:List (Key × DV)} {xs:List (Key × V)},xs.map (·.1) = kvs.map (·.1) -> RepL K ρ B H (kvs.map (·.2)) (xs.map (·.2)) -> RepK K ρ B H kvs xs
  | [],[],_,_=>.nil
  | [],_ :: _,e,_=>by simp at e
  | _ :: _,[],e,_=>by simp at e
  | p :: kvs,q :: xs,e,r=>by
    simp only [List.map_cons,List.cons.injEq] at e
    simp only [List.map_cons] at r
    unfold RepL at r
    obtain ⟨x,t,e2,h1,h2⟩:=r
    simp only [List.cons.injEq] at e2
    obtain ⟨rfl,rfl⟩:=e2
    exact .cons ⟨e.1.symm,h1⟩ (uQ e.2 h2)
theorem RepK.to {kvs:List (Key × DV)} {xs:List (Key × V)} (r:RepK K ρ B H kvs xs):xs.map (·.1) = kvs.map (·.1) /\ RepL K ρ B H (kvs.map (·.2)) (xs.map (·.2)):=by
  induction r with
  | nil=>exact ⟨rfl,RepL.nil⟩
  | cons h _ ih=>exact ⟨by simp [ih.1,h.1],by simpa using RepL.cons h.2 ih.2⟩
theorem RepK.val {kvs:List (Key × DV)} {xs:List (Key × V)} (r:RepK K ρ B H kvs xs) (k:Key):(zp kvs k = none /\ qz xs k = none) ∨ ∃ d v,zp kvs k = some d /\ qz xs k = some v /\ RepV K ρ B H d v:=by
  induction r with
  | nil=>exact .inl ⟨rfl,rfl⟩
  | @cons p q _ _ h _ ih =>
    by_cases e:p.1 = k
    . exact .inr ⟨p.2,q.2,by simp [zp,List.find?_cons,e],by simp [qz,List.find?_cons,h.1 ▸ e],h.2⟩
    . have e':¬ q.1 = k:=h.1 ▸ e
      simpa [zp,qz,List.find?_cons,e,e'] using ih
theorem RepK.any {kvs:List (Key × DV)} {xs:List (Key × V)} (r:RepK K ρ B H kvs xs) (k:Key):(kvs.any fun kv=>decide (kv.1 = k)) = xs.any fun kv=>decide (kv.1 = k):=by
  induction r with
  | nil=>rfl
  | cons h _ ih=>simp only [List.any_cons,ih,h.1]
theorem RepK.repl {kvs:List (Key × DV)} {xs:List (Key × V)} (r:RepK K ρ B H kvs xs) (k:Key) {d:DV} {v:V} (rd:RepV K ρ B H d v):RepK K ρ B H (kvs.map fun kv=>if kv.1 = k then (kv.1,d) else kv) (xs.map fun kv=>if kv.1 = k then (kv.1,v) else kv):=by
  induction r with
  | nil=>exact .nil
  | @cons p q _ _ h _ ih =>
    refine .cons ?_ ih
    dsimp only
    by_cases e:p.1 = k
    . rw [if_pos e,if_pos (h.1 ▸ e)];exact ⟨h.1,rd⟩
    . rw [if_neg e,if_neg (h.1 ▸ e)];exact h
theorem RepK.snoc {kvs:List (Key × DV)} {xs:List (Key × V)} (r:RepK K ρ B H kvs xs) {k:Key} {d:DV} {v:V} (rd:RepV K ρ B H d v):RepK K ρ B H (kvs ++ [(k,d)]) (xs ++ [(k,v)]):=by
  induction r with
  | nil=>exact .cons ⟨rfl,rd⟩ .nil
  | cons h _ ih=>exact .cons h ih
theorem RepK.put {kvs:List (Key × DV)} {xs:List (Key × V)} (r:RepK K ρ B H kvs xs) (k:Key) {d:DV} {v:V} (rd:RepV K ρ B H d v):RepK K ρ B H (Vc kvs k d) (jB xs k v):=by
  unfold Vc jB
  rw [r.any k]
  split
  . exact r.repl k rd
  . exact r.snoc rd
theorem RepK.len {kvs:List (Key × DV)} {xs:List (Key × V)} (r:RepK K ρ B H kvs xs):kvs.length = xs.length:=Paired.length r
theorem RepK.gs {ρ':List Addr} {B':Addr -> Prop} {H':Hp} {kvs:List (Key × DV)} {xs:List (Key × V)} (g:Gs K ρ B H ρ' B' H') (r:RepK K ρ B H kvs xs):RepK K ρ' B' H' kvs xs:=L2.Paired.mapP r fun _ _ h=>⟨h.1,RepV.gs g _ _ h.2⟩
theorem ORep.dic {a:Addr} {kvs:List (Key × DV)} (h:ORep K ρ B H a (.dic kvs)):∃ xs,H a = some (.dK xs) /\ RepK K ρ B H kvs xs:=by
  obtain ⟨xs,e,ek,rl⟩:=h
  exact ⟨xs,e,uQ ek rl⟩
theorem RepK.orep {a:Addr} {kvs:List (Key × DV)} {xs:List (Key × V)} (r:RepK K ρ B H kvs xs) (e:H a = some (.dK xs)):ORep K ρ B H a (.dic kvs):=⟨xs,e,r.to.1,r.to.2⟩
theorem QbD {n:Nat} {a:Addr} {xs xs':List (Key × V)} {kvs':List (Key × DV)} (W:WOk K ρ B hp H) (i:ρ[n]? = some a) (e:H a = some (.dK xs)) (r:RepK K ρ B H kvs' xs'):Gr K ρ B H ρ B (upd H a (.dK xs')) /\ WOk K ρ B (hp.set n (.dic kvs')) (upd H a (.dK xs')):=by
  have g:Gr K ρ B H ρ B (upd H a (.dK xs')):=Gr.wset i e
  exact ⟨g,W.wset (o':=.dK xs') (v:=.dic kvs') i e ((r.gs (g.gs W.rb)).orep Zh)⟩
theorem VD {n:Nat} {a:Addr} {o:HO} {xs':List V} {ds':List DV} (W:WOk K ρ B hp H) (i:ρ[n]? = some a) (e:H a = some o) (r:RepL K ρ B H ds' xs'):Gr K ρ B H ρ B (upd H a (.lst xs')) /\ WOk K ρ B (hp.set n (.lst ds')) (upd H a (.lst xs')):=by
  have g:Gr K ρ B H ρ B (upd H a (.lst xs')):=Gr.wset i e
  exact ⟨g,W.wset (o':=.lst xs') (v:=.lst ds') i e ⟨xs',Zh,RepL.grow W.rb g _ _ r⟩⟩
end
section
variable {X:Cx} {e a b c:Expr} {f fa fb fc:DEx} {pos:Pos}
def qx (o:Option DV):M DV:=match o with
  | some d=>pure d
  | none=>failure
theorem xg {o:Option DV} {d:DV} {hp hp':Hs} (h:qx o hp = some (d,hp')):o = some d /\ hp = hp':=by
  cases o with
  | none=>cases h
  | some z=>obtain ⟨rfl,rfl⟩:=Qi h;exact ⟨rfl,rfl⟩
def Yi (d:DV):M Key:=match qF d with
  | some k=>pure k
  | none=>failure
theorem za {d:DV} {k:Key} {hp hp':Hs} (h:Yi d hp = some (k,hp')):qF d = some k /\ hp = hp':=by
  unfold Yi at h
  cases q:qF d with
  | none=>rw [q] at h;cases h
  | some z=>rw [q] at h;obtain ⟨rfl,rfl⟩:=Qi h;exact ⟨rfl,rfl⟩
def ixG:DV -> DV -> M DV
  | .ref n,y=>do
    match <- Jz n with
    | .lst ds=>do let i <- asI y;qx (atI ds i)
    | .dic kvs=>do let k <- Yi y;qx (zp kvs k)
    | _=>failure
  | x,y=>ixD x y
theorem Qe5 (hu:X.A.units + 1 < cLine):IxR X (tP2 X.K ixG):=by
  intro value slice pins s σ H x y v u Q I rx ry h hsub
  obtain ⟨ρ,B,hp,dx,dy,d,hp',W,r1,r2,e,k⟩:=h
  unfold ixG at e
  split at e
  . rename_i n
    obtain ⟨o,hp1,e1,e2⟩:=Qf e
    obtain ⟨e3,rfl⟩:=Jh e1
    obtain ⟨a,rfl,i1,ro⟩:=RepV.refW W r1 e3
    cases o with
    | ins _ _=>cases e2
    | dic kvs =>
      obtain ⟨ky,hp2,e4,e5⟩:=Qf e2
      obtain ⟨hk,rfl⟩:=za e4
      obtain ⟨hv,rfl⟩:=xg e5
      obtain ⟨xs,h1,rk⟩:=ro.dic
      rcases rk.val ky with ⟨z,_⟩ | ⟨d',v',z,zv,rz⟩
      . rw [hv] at z;cases z
      . rw [hv] at z;cases z
        exact Qb5 hu value slice pins s σ H _ _ v u Q I rx ry ⟨a,xs,ky,v',rfl,jf hk r2,h1,zv,k _ ρ B H Gr.refl W rz⟩ hsub
    | lst ds =>
      obtain ⟨i,hp2,e4,e5⟩:=Qf e2
      obtain ⟨rfl,rfl⟩:=yu e4
      obtain ⟨hv,rfl⟩:=xg e5
      obtain ⟨xs,h1,l1⟩:=ro
      obtain ⟨z,hz,rz⟩:=UP l1 hv
      exact uG value slice pins s σ H _ _ v u Q I rx ry ⟨a,xs,i,z,rfl,r2.intI,SqL.of h1,hz,k _ ρ B H Gr.refl W rz⟩ hsub
  . exact Qe4 value slice pins s σ H x y v u Q I rx ry ⟨ρ,B,hp,_,_,d,hp',W,r1,r2,e,k⟩ hsub
theorem QZ (hu:X.A.units + 1 < cLine) (ha:DE X a fa) (hb:DE X b fb) (hs:UL b:=by intro _ _;rfl):DE X (.Subscript a b pos) (Qn ixG fa fb):=L2.PE.imp (Qda (Qe5 hu) ha hb hs) fun _ _ _ h=>qJ h
def XO:List DV -> M DV
  | [.ref n]=>do
    match <- Jz n with
    | .lst ds=>pure (.int ds.length)
    | .dic kvs=>pure (.int kvs.length)
    | _=>failure
  | xs=>qN xs
theorem zN:X0 X (.builtin "len") (tPn X.K XO):=by
  intro pins s σ H xs us Q I r h
  obtain ⟨ρ,B,hp,ds,d,hp',W,rl,e,k⟩:=h
  unfold XO at e
  split at e
  . rename_i n
    obtain ⟨o,hp1,e1,e2⟩:=Qf e
    obtain ⟨e3,rfl⟩:=Jh e1
    obtain ⟨v,rfl,rv⟩:=rl.oneI
    obtain ⟨a,rfl,_,ro⟩:=RepV.refW W rv e3
    cases o with
    | ins _ _=>cases e2
    | lst zs =>
      obtain ⟨rfl,rfl⟩:=Qi e2
      obtain ⟨ys,h1,l1⟩:=ro
      exact Y8 pins s σ H _ us Q I r ⟨a,ys,rfl,.inl (SqL.of h1),by rw [<- l1.length];exact k _ ρ B H Gr.refl W JO⟩
    | dic kvs =>
      obtain ⟨rfl,rfl⟩:=Qi e2
      obtain ⟨ys,h1,l1⟩:=ro.dic
      exact gh pins s σ H _ us Q I r ⟨a,ys,rfl,h1,by rw [<- l1.len];exact k _ ρ B H Gr.refl W JO⟩
  . exact ub pins s σ H xs us Q I r ⟨ρ,B,hp,_,d,hp',W,rl,e,k⟩
end
end D
namespace D
open PySem PySem.Spec PyProof.Rows L2
def drf:Nat -> Hs -> DV -> Option DV
  | 0,_,_=>none
  | n + 1,hp,d=>match d with
    | .ref i=>match hp[i]? with
      | some (.lst ds)=>(ds.mapM (drf n hp)).map .lst
      | _=>none
    | .tup ds=>(ds.mapM (drf n hp)).map .tup
    | .lst ds=>(ds.mapM (drf n hp)).map .lst
    | d=>some d
theorem yV {α β:Type} {f:α -> Option β} {x:α} {xs:List α} {ys:List β} (h:(x :: xs).mapM f = some ys):∃ y zs,f x = some y /\ xs.mapM f = some zs /\ ys = y :: zs:=by
  rw [List.mapM_cons] at h
  cases q:f x with
  | none=>rw [q] at h;cases h
  | some y =>
    cases q2:xs.mapM f with
    | none=>rw [q,q2] at h;cases h
    | some zs=>rw [q,q2] at h;exact ⟨y,zs,rfl,rfl,(Option.some.inj h).symm⟩
section
variable {X:Cx} {pins:List (Addr × Obj)} {σ:St} {H:Hp} {s:Shared} {ρ:List Addr} {B:Addr -> Prop} {hp:Hs}
theorem YM (I:Inv X pins σ H s) (W:WOk X.K ρ B hp H):∀ (n:Nat) (d d':DV) (v:V) (u:Value),drf n hp d = some d' -> RepV X.K ρ B H d v -> RelV v u -> ∃ as,Reads s.heap u (toP d') as
  | 0,_,_,_,_,h,_,_=>by cases h
  | n + 1,d,d',v,u,h,r,ru=>by
    have all:∀ (ds ds':List DV) (xs:List V) (us:List Value),ds.mapM (drf n hp) = some ds' -> RepL X.K ρ B H ds xs -> Vals xs us -> ∃ as,ReadsAll s.heap us (toPs ds') as:=by
      intro ds
      induction ds with
      | nil =>
        intro ds' xs us h r ru
        rw [List.mapM_nil] at h;cases h
        unfold RepL at r;subst r;cases ru
        exact ⟨[],by unfold toPs;exact .nil⟩
      | cons x ds ih =>
        intro ds' xs us h r ru
        obtain ⟨y,zs,h1,h2,rfl⟩:=yV h
        unfold RepL at r
        obtain ⟨z,t,rfl,r1,r2⟩:=r
        cases ru with
        | cons q1 q2 =>
          obtain ⟨as,a1⟩:=YM I W n x y z _ h1 r1 q1
          obtain ⟨bs,a2⟩:=ih zs t _ h2 r2 q2
          exact ⟨_,by unfold toPs;exact .cons a1 a2⟩
    have lst:∀ (ds ds':List DV) (a:Addr) (xs:List V),ds.mapM (drf n hp) = some ds' -> SqL X.K H a xs -> RepL X.K ρ B H ds xs -> ∃ as,Reads s.heap (.ref a) (toP (.lst ds')) as:=by
      intro ds ds' a xs h sq rl
      obtain ⟨its,rv,⟨o,k,e,hc,_,hd⟩,_⟩:=I.list sq
      obtain ⟨as,q⟩:=all ds ds' xs its h rl rv
      exact ⟨_,by unfold toP;exact reads_list_at e hc hd (by simpa using q)⟩
    unfold drf at h
    cases d with
    | non=>cases h;obtain rfl:=r.nonI;cases ru;exact ⟨[],by unfold toP;exact .none⟩
    | bl b=>cases h;obtain rfl:=r.blI;cases ru;exact ⟨[],by unfold toP;exact .bool b⟩
    | int i=>cases h;obtain rfl:=r.intI;obtain ⟨t,rfl⟩:=ru;exact ⟨[],by unfold toP;exact .int i t⟩
    | str x=>cases h;obtain rfl:=r.strI;obtain ⟨t,rfl⟩:=ru;exact ⟨[],by unfold toP;exact .str x t⟩
    | tup ds =>
      obtain ⟨ds',h1,rfl⟩:=Option.map_eq_some_iff.mp h
      obtain ⟨a,xs,rfl,_,sq,rl⟩:=r.tupI
      cases ru
      obtain ⟨its,rv,⟨o,e,hc,k,hd⟩,_⟩:=I.tuple sq
      obtain ⟨as,q⟩:=all ds ds' xs its h1 rl rv
      exact ⟨_,by unfold toP;exact reads_tuple_at e hc hd (by simpa using q)⟩
    | lst ds =>
      obtain ⟨ds',h1,rfl⟩:=Option.map_eq_some_iff.mp h
      obtain ⟨a,xs,rfl,_,sq,rl⟩:=r.lstI
      cases ru
      exact lst ds ds' a xs h1 sq rl
    | ref i =>
      cases q:hp[i]? with
      | none=>simp only [q] at h;cases h
      | some o =>
        simp only [q] at h
        cases o with
        | dic _=>cases h
        | ins _ _=>cases h
        | lst ds =>
          obtain ⟨ds',h1,rfl⟩:=Option.map_eq_some_iff.mp h
          obtain ⟨a,rfl,_,xs,h2,l⟩:=RepV.refW W r q
          cases ru
          exact lst ds ds' a xs h1 (SqL.of h2) l
end
def vi (d:DV):M DV:=fun hp=>(drf 40 hp d).map fun x=>(x,hp)
theorem V6 {d d':DV} {hp hp':Hs} (h:vi d hp = some (d',hp')):drf 40 hp d = some d' /\ hp = hp':=by
  obtain ⟨x,h1,h2⟩:=Option.map_eq_some_iff.mp h
  cases h2;exact ⟨h1,rfl⟩
def xZ (x y:DV):M Bool:=do
  let x' <- vi x
  let y' <- vi y
  QB (SeqAt.shaped (toP x') && SeqAt.shaped (toP y'))
  pure (PyData.eqv (toP x') (toP y'))
def eqG:DV -> DV -> M DV:=fun x y=>do let b <- xZ x y;pure (.bl b)
def neG:DV -> DV -> M DV:=fun x y=>do let b <- xZ x y;pure (.bl (!b))
section
variable {X:Cx} {e a b c:Expr} {f fa fb fc:DEx} {ca cb:DTx} {pos:Pos}
theorem V9 {x y:DV} {k:Bool} {hp hp':Hs} (h:xZ x y hp = some (k,hp')):∃ x' y',drf 40 hp x = some x' /\ drf 40 hp y = some y' /\ SeqAt.shaped (toP x') = true /\ SeqAt.shaped (toP y') = true /\ k = PyData.eqv (toP x') (toP y') /\ hp = hp':=by
  obtain ⟨x',hp1,e1,h⟩:=Qf h
  obtain ⟨y',hp2,e2,h⟩:=Qf h
  obtain ⟨_,hp3,e3,h⟩:=Qf h
  obtain ⟨q1,rfl⟩:=V6 e1
  obtain ⟨q2,rfl⟩:=V6 e2
  obtain ⟨hs,rfl⟩:=QJ e3
  obtain ⟨rfl,rfl⟩:=Qi h
  rw [Bool.and_eq_true] at hs
  exact ⟨x',y',q1,q2,hs.1,hs.2,rfl,rfl⟩
theorem y9 (hu:X.A.units + 64 < cLine):P2 X (compareOp .Eq) eqG:=by
  intro pins s σ H x y v u Q I rx ry h
  obtain ⟨ρ,B,hp,dx,dy,d,hp',W,r1,r2,e,k⟩:=h
  obtain ⟨b,hp1,e1,e2⟩:=Qf e
  obtain ⟨rfl,rfl⟩:=Qi e2
  obtain ⟨x',y',q1,q2,s1,s2,rfl,rfl⟩:=V9 e1
  obtain ⟨as,a1⟩:=YM I W _ _ _ _ _ q1 r1 rx
  obtain ⟨bs,a2⟩:=YM I W _ _ _ _ _ q2 r2 ry
  exact eq_dataH a1 a2 s1 s2 hu ⟨.bl _,H,I,rfl,k _ ρ B H Gr.refl W XL⟩
theorem QaT (hu:X.A.units + 64 < cLine):P2 X (compareOp .NotEq) neG:=by
  intro pins s σ H x y v u Q I rx ry h
  obtain ⟨ρ,B,hp,dx,dy,d,hp',W,r1,r2,e,k⟩:=h
  obtain ⟨b,hp1,e1,e2⟩:=Qf e
  obtain ⟨rfl,rfl⟩:=Qi e2
  obtain ⟨x',y',q1,q2,s1,s2,rfl,rfl⟩:=V9 e1
  obtain ⟨as,a1⟩:=YM I W _ _ _ _ _ q1 r1 rx
  obtain ⟨bs,a2⟩:=YM I W _ _ _ _ _ q2 r2 ry
  exact ne_dataH a1 a2 s1 s2 hu ⟨.bl _,H,I,rfl,k _ ρ B H Gr.refl W XL⟩
def Ua:DV -> Bool
  | .non=>true
  | .bl _=>true
  | .int _=>true
  | .str _=>true
  | _=>false
def eqF:DV -> DV -> Bool
  | .non,.non=>true
  | .bl a,.bl b=>a == b
  | .bl a,.int b=>(if a then 1 else 0) == b
  | .int a,.bl b=>a == (if b then 1 else 0)
  | .int a,.int b=>a == b
  | .str a,.str b=>a == b
  | _,_=>false
def inB (d:DV) (ds:List DV):Bool:=ds.any fun y=>eqF y d
def Qf1 (x:DV):DV -> M Bool
  | .ref n=>do
    match <- Jz n with
    | .lst ds=>do QB (Ua x && ds.all Ua);pure (inB x ds)
    | .dic kvs=>do let k <- Yi x;pure (zp kvs k).isSome
    | _=>failure
  | .tup ds=>do QB (Ua x && ds.all Ua);pure (inB x ds)
  | .lst ds=>do QB (Ua x && ds.all Ua);pure (inB x ds)
  | _=>failure
def xj (o i d:DV):M Unit:=match o with
  | .ref n=>do
    match <- Jz n with
    | .lst ds=>do
      let k <- asI i
      match ixN ds.length k with
      | some j=>xo n (.lst (ds.set j d))
      | none=>failure
    | .dic kvs=>do
      let k <- Yi i
      QB (decide (kvs.length < lim))
      xo n (.dic (Vc kvs k d))
    | _=>failure
  | _=>failure
def tP3 (K:PySem.W.Frag) (g:DV -> DV -> DV -> M Unit):QbG:=fun o i v H Q=>∃ ρ B hp dO di dv hp',WOk K ρ B hp H /\ RepV K ρ B H dO o /\ RepV K ρ B H di i /\ RepV K ρ B H dv v /\ g dO di dv hp = some ((),hp') /\ ∀ ρ' B' H',Gr K ρ B H ρ' B' H' -> WOk K ρ' B' hp' H' -> Q H'
theorem RepL.set {K:PySem.W.Frag} {ρ:List Addr} {B:Addr -> Prop} {H:Hp} {d:DV} {x:V} (r:RepV K ρ B H d x):∀ {ds:List DV} {xs:List V} (i:Nat),RepL K ρ B H ds xs -> RepL K ρ B H (ds.set i d) (xs.set i x)
  | [],_,i,h=>by unfold RepL at h;subst h;exact RepL.nil
  | _ :: ds,_,0,h=>by
    unfold RepL at h
    obtain ⟨y,t,rfl,_,h2⟩:=h
    exact RepL.cons r h2
  | _ :: ds,_,i + 1,h=>by
    unfold RepL at h
    obtain ⟨y,t,rfl,h1,h2⟩:=h
    exact RepL.cons h1 (RepL.set r i h2)
theorem Qe6 (hu:X.A.units + 1 < cLine):QbF X (tP3 X.K xj):=by
  intro pins s σ H o i v ov iv u Q I ro ri rv h
  obtain ⟨ρ,B,hp,dO,di,dv,hp',W,r1,r2,r3,e,k⟩:=h
  cases dO with
  | ref n =>
    obtain ⟨ob,hp1,e1,e2⟩:=Qf e
    obtain ⟨e3,rfl⟩:=Jh e1
    obtain ⟨a,rfl,i1,rob⟩:=RepV.refW W r1 e3
    cases ob with
    | ins _ _=>cases e2
    | lst ds =>
      obtain ⟨j,hp2,e4,e5⟩:=Qf e2
      obtain ⟨rfl,rfl⟩:=yu e4
      obtain ⟨xs,h1,l1⟩:=rob
      cases q:ixN ds.length j with
      | none=>simp only [q] at e5;cases e5
      | some m =>
        simp only [q] at e5
        cases e5
        obtain ⟨g,W'⟩:=VD W i1 h1 (RepL.set r3 m l1)
        exact Qbk pins s σ H _ _ v ov iv u Q I ro ri rv ⟨a,xs,j,m,rfl,r2.intI,h1,by rw [<- l1.length];exact q,k ρ B _ g W'⟩
    | dic kvs =>
      obtain ⟨ky,hp2,e4,e5⟩:=Qf e2
      obtain ⟨hk,rfl⟩:=za e4
      obtain ⟨_,hp3,e6,e7⟩:=Qf e5
      obtain ⟨hl,rfl⟩:=QJ e6
      cases e7
      obtain ⟨xs,h1,rk⟩:=rob.dic
      obtain ⟨g,W'⟩:=QbD W i1 h1 (rk.put ky r3)
      exact Qbj hu pins s σ H _ _ v ov iv u Q I ro ri rv ⟨a,xs,ky,rfl,jf hk r2,h1,by rw [<- rk.len];exact Nat.lt_of_lt_of_le (of_decide_eq_true hl) Kg,k ρ B _ g W'⟩
  | non=>cases e
  | bl _=>cases e
  | int _=>cases e
  | str _=>cases e
  | tup _=>cases e
  | lst _=>cases e
def gSb (f g:DEx):DGx:=fun d env=>do
  let o <- f env
  let i <- g env
  xj o i d
  pure env
theorem yG {o i:Expr} {fo fi:DEx} (hu:X.A.units + 1 < cLine) (ho:DE X o fo) (hi:DE X i fi)
    (ha:∀ v,assign (.Subscript o i pos) X.env v = (do
      let ov <- holding [v] (eval o X.env)
      let iv <- holding [v,ov] (eval i X.env)
      standAt pos
      holding [v,ov,iv] (setItem ov iv v)
      release [v,ov,iv] []):=by intro _;rfl):PG X (.Subscript o i pos) (tDG X.K (gSb fo fi)):=by
  intro pins s σ H v u Q I r h
  refine Qd5 ho hi (Qe6 hu) ha pins s σ H v u Q I r ?_
  obtain ⟨Z,env,ρ,B,hp,d,env',hp',S,rd,e,k⟩:=h
  obtain ⟨x,hp1,e1,e⟩:=Qf e
  obtain ⟨y,hp2,e2,e⟩:=Qf e
  obtain ⟨z,hp3,e3,e⟩:=Qf e
  obtain ⟨rfl,rfl⟩:=Qi e
  refine tD.run S e1 fun vx ρ1 B1 H1 g1 S1 r1=>tD.run S1 e2 fun vy ρ2 B2 H2 g2 S2 r2=>?_
  exact ⟨ρ2,B2,hp2,x,y,d,hp3,S2.wo,RepV.grow S1.wo.rb g2 _ _ r1,r2,RepV.grow S.wo.rb (g1.trans g2) _ _ rd,e3,fun ρ3 B3 H3 g3 W3=>k _ ρ3 B3 H3 ((g1.trans (g2.trans g3)).gs S.wo.rb) (S2.grow g3 W3)⟩
def Yl:String -> DV -> M Unit
  | "list", .lst _=>pure ()
  | "str", .str _=>pure ()
  | T,.ref n=>do
    match <- Jz n with
    | .lst _=>QB (T == "list")
    | .dic _=>QB (T == "dict")
    | _=>failure
  | _,_=>failure
theorem Qaw {T:String} {d:DV} {hp hp':Hs} {K:PySem.W.Frag} {ρ:List Addr} {B:Addr -> Prop} {H:Hp} {v:V} {u:Unit} (W:WOk K ρ B hp H) (r:RepV K ρ B H d v) (h:Yl T d hp = some (u,hp')):hp = hp' /\ tyV K T v H:=by
  unfold Yl at h
  split at h
  . obtain ⟨_,rfl⟩:=Qi h
    obtain ⟨a,xs,rfl,_,sq,_⟩:=r.lstI
    exact ⟨rfl,.inl ⟨rfl,xs,sq⟩⟩
  . obtain ⟨_,rfl⟩:=Qi h
    obtain rfl:=r.strI
    exact ⟨rfl,rfl⟩
  . obtain ⟨o,hp1,e1,e2⟩:=Qf h
    obtain ⟨e3,rfl⟩:=Jh e1
    obtain ⟨a,rfl,_,ro⟩:=RepV.refW W r e3
    cases o with
    | lst ds =>
      obtain ⟨hT,rfl⟩:=QJ e2
      obtain ⟨xs,h1,_⟩:=ro
      exact ⟨rfl,.inl ⟨by simpa using hT,xs,SqL.of h1⟩⟩
    | dic kvs =>
      obtain ⟨hT,rfl⟩:=QJ e2
      obtain ⟨xs,h1,_⟩:=ro
      exact ⟨rfl,.inr (.inr (.inl ⟨by simpa using hT,.inl ⟨xs,h1⟩⟩))⟩
    | ins _ _=>cases e2
  . cases h
def tPm (K:PySem.W.Frag) (m:DV -> List DV -> M DV):V -> List V -> Hp -> VK -> Prop:=fun x vs H Q=>∃ ρ B hp dx ds d hp',WOk K ρ B hp H /\ RepV K ρ B H dx x /\ RepL K ρ B H ds vs /\ m dx ds hp = some (d,hp') /\ Fol K ρ B H d hp' Q
def qd (T:String) (m:DV -> List DV -> M DV) (f:DEx) (a:DAx):DEx:=fun env=>do
  let x <- f env
  Yl T x
  let ds <- a env
  m x ds
theorem vd {T id:String} {name:Str} {o:Expr} {es:List Expr} {fo:DEx} {fs:DAx} {m:DV -> List DV -> M DV} {apos cpos:Pos} (hm:MtR X id (tPm X.K m)) (pa:PlainAttrs T) (slot:Slot T name id) (hty:typeOf (.builtin id) = pure (.type "method_descriptor")) (ho:DE X o fo) (ha:DA X (e :: es) fs)
    (hbase:attributeBase o name X.env (eval o X.env) = eval o X.env:=by rfl)
    (hfew:((backTo cpos (starEach (e :: es) X.env)).all (fun x=>!x.1) && (backToKw cpos (keywordEach [] X.env)).all (fun x=>x.1.isSome)
      && decide ((e :: es).length + ([]:List Keyword).length + (if ([]:List Keyword).isEmpty then 0 else 1) < 30)) = true:=by rfl)
    (hline:(apos.endLine == cpos.line) = true:=by rfl) (hs:starEach (e :: es) X.env = (false,eval e X.env) :: starEach es X.env:=by rfl) (hplain:(backTo cpos (starEach es X.env)).any (·.1) = false:=by rfl) :
    DE X (.Call (.Attribute o name apos) (e :: es) [] cpos) (qd T m fo fs) :=
  L2.PE.imp (Qe8 pa slot hty hm ho ha hbase hfew hline hs hplain) fun σ H Q ⟨Z,env,ρ,B,hp,d,hp',S,e,k⟩=>by
    obtain ⟨x,hp1,e1,ea⟩:=Qf e
    obtain ⟨_,hp2,e2,eb⟩:=Qf ea
    obtain ⟨ds,hp3,e3,ec⟩:=Qf eb
    refine tD.run S e1 fun v ρ1 B1 H1 g1 S1 r1=>?_
    obtain ⟨z,ty⟩:=Qaw S1.wo r1 e2
    rw [<- z] at e3
    exact ⟨ty,tDA.run S1 e3 fun vs ρ2 B2 H2 g2 S2 r2=>⟨ρ2,B2,hp3,x,ds,d,hp',S2.wo,RepV.grow S1.wo.rb g2 _ _ r1,r2,ec,k.after (g1.trans g2)⟩⟩
def onL (x:DV) (k:Nat -> List DV -> M DV):M DV:=match x with
  | .ref n=>do
    match <- Jz n with
    | .lst ds=>k n ds
    | _=>failure
  | _=>failure
def onD (x:DV) (k:Nat -> List (Key × DV) -> M DV):M DV:=match x with
  | .ref n=>do
    match <- Jz n with
    | .dic ds=>k n ds
    | _=>failure
  | _=>failure
theorem y8 {x d:DV} {k:Nat -> List DV -> M DV} {hp hp':Hs} (h:onL x k hp = some (d,hp')):∃ n ds,x = .ref n /\ hp[n]? = some (.lst ds) /\ k n ds hp = some (d,hp'):=by
  cases x with
  | ref n =>
    obtain ⟨o,hp1,e1,e2⟩:=Qf h
    obtain ⟨e3,rfl⟩:=Jh e1
    cases o with
    | lst ds=>exact ⟨n,ds,rfl,e3,e2⟩
    | dic _=>cases e2
    | ins _ _=>cases e2
  | _=>cases h
theorem Gv {x d:DV} {k:Nat -> List (Key × DV) -> M DV} {hp hp':Hs} (h:onD x k hp = some (d,hp')):∃ n ds,x = .ref n /\ hp[n]? = some (.dic ds) /\ k n ds hp = some (d,hp'):=by
  cases x with
  | ref n =>
    obtain ⟨o,hp1,e1,e2⟩:=Qf h
    obtain ⟨e3,rfl⟩:=Jh e1
    cases o with
    | dic ds=>exact ⟨n,ds,rfl,e3,e2⟩
    | lst _=>cases e2
    | ins _ _=>cases e2
  | _=>cases h
def JZ (x:DV):List DV -> M DV
  | [d]=>onL x fun n ds=>do QB (decide (ds.length < lim));xo n (.lst (ds ++ [d]));pure .non
  | _=>failure
theorem QaE:MtR X "list.append" (tPm X.K JZ):=by
  intro pins s σ H x vs v us Q I rx rv h
  obtain ⟨ρ,B,hp,dx,es,d,hp',W,r1,r2,e,k⟩:=h
  unfold JZ at e
  split at e
  . rename_i y
    obtain ⟨n,ds,rfl,h0,e⟩:=y8 e
    obtain ⟨_,hp1,e1,e2⟩:=Qf e
    obtain ⟨hl,rfl⟩:=QJ e1
    cases e2
    obtain ⟨a,rfl,i1,xs,h1,l1⟩:=RepV.refW W r1 h0
    obtain ⟨w,rfl,rw'⟩:=r2.oneI
    obtain ⟨g,W'⟩:=VD W i1 h1 (RepL.append l1 (RepL.one rw'))
    exact Ug pins s σ H _ _ v us Q I rx rv ⟨a,xs,w,rfl,rfl,h1,by rw [<- l1.length];exact Nat.lt_of_lt_of_le (of_decide_eq_true hl) Kg,k _ ρ B _ g W' zg⟩
  . cases e
def XQ (x:DV):List DV -> M DV
  | [.int i,d]=>onL x fun n ds=>do QB (decide (ds.length < lim) && Vv i);xo n (.lst (ds.take (QeS ds.length i) ++ d :: ds.drop (QeS ds.length i)));pure .non
  | _=>failure
def js (x:DV):List DV -> M DV
  | [y]=>onD x fun n kvs=>do
    let k <- Yi y
    let d <- qx (zp kvs k)
    xo n (.dic (Qc4 kvs k))
    pure d
  | [y,z]=>onD x fun n kvs=>do
    let k <- Yi y
    match zp kvs k with
    | some d=>do xo n (.dic (Qc4 kvs k));pure d
    | none=>pure z
  | _=>failure
def Ym (x:DV):List DV -> M DV
  | [y]=>onD x fun n kvs=>do
    let k <- Yi y
    pure ((zp kvs k).getD .non)
  | [y,z]=>onD x fun n kvs=>do
    let k <- Yi y
    pure ((zp kvs k).getD z)
  | _=>failure
theorem QdH (hu:X.A.units + 1 < cLine):MtR X "dict.get" (tPm X.K Ym):=by
  intro pins s σ H x vs v us Q I rx rv h
  obtain ⟨ρ,B,hp,dx,es,d,hp',W,r1,r2,e,k⟩:=h
  unfold Ym at e
  split at e
  . rename_i y
    obtain ⟨n,kvs,rfl,h0,e⟩:=Gv e
    obtain ⟨ky,hp1,e1,e⟩:=Qf e
    obtain ⟨hk,rfl⟩:=za e1
    obtain ⟨rfl,rfl⟩:=Qi e
    obtain ⟨a,rfl,i1,ro⟩:=RepV.refW W r1 h0
    obtain ⟨xs,h1,rk⟩:=ro.dic
    obtain ⟨w,rfl,rw'⟩:=r2.oneI
    obtain rfl:=jf hk rw'
    refine uK hu pins s σ H _ _ v us Q I rx rv ⟨a,xs,ky,rfl,h1,.inl ⟨rfl,k _ ρ B H Gr.refl W ?_⟩⟩
    rcases rk.val ky with ⟨z1,zv⟩ | ⟨d'',v',z1,zv,rz⟩ <;> rw [z1,zv]
    . exact zg
    . exact rz
  . rename_i y z
    obtain ⟨n,kvs,rfl,h0,e⟩:=Gv e
    obtain ⟨ky,hp1,e1,e⟩:=Qf e
    obtain ⟨hk,rfl⟩:=za e1
    obtain ⟨rfl,rfl⟩:=Qi e
    obtain ⟨a,rfl,i1,ro⟩:=RepV.refW W r1 h0
    obtain ⟨xs,h1,rk⟩:=ro.dic
    unfold RepL at r2
    obtain ⟨w,t,rfl,rw',r2⟩:=r2
    obtain rfl:=jf hk rw'
    obtain ⟨w2,rfl,rw2⟩:=r2.oneI
    refine uK hu pins s σ H _ _ v us Q I rx rv ⟨a,xs,ky,rfl,h1,.inr ⟨w2,rfl,k _ ρ B H Gr.refl W ?_⟩⟩
    rcases rk.val ky with ⟨z1,zv⟩ | ⟨d'',v',z1,zv,rz⟩ <;> rw [z1,zv]
    . exact rw2
    . exact rz
  . cases e
end
end D
namespace L2
open PySem PySem.Spec PyProof.Rows
theorem Inv.kfresh {X:Cx} {pins:List (Addr × Obj)} {σ:St} {H:Hp} {s:Shared} (I:Inv X pins σ H s):X.K.lookup s.heap.objs.size = none:=by
  cases q:X.K.lookup s.heap.objs.size with
  | none=>rfl
  | some o=>exact absurd (Heap.lt_size (I.kIn _ o q)) (Nat.lt_irrefl _)
theorem gP {X:Cx} {pos:Pos}:PE X (.Dict [] [] pos) (fun _ H Q=>∀ p,H p = none -> X.K.lookup p = none -> Q (.ref p) (upd H p (.dK []))):=fun pins s σ H Q I h =>
  wpAny_Dict_empty ⟨.ref s.heap.objs.size,_,I.laid (a:=s.heap.objs.size) (o:=.dK []) (t':=s.toks) (fun _ _ q=>Heap.get?_push_of_some _ q) (Nat.le_refl _) (Qab s.heap I.big),rfl,h _ (I.hok.fresh (Nat.le_refl _)) I.kfresh⟩
end L2
namespace D
open PySem PySem.Spec PyProof.Rows L2
section
variable {X:Cx} {e a b c:Expr} {f fa fb fc:DEx} {ca cb:DTx} {pos:Pos}
def evP:List (DEx × DEx) -> En -> M (List (Key × DV))
  | [],_=>pure []
  | (f,g) :: r,env=>do
    let x <- f env
    let k <- Yi x
    let y <- g env
    let ps <- evP r env
    pure ((k,y) :: ps)
def QdI (kvs more:List (Key × DV)):List (Key × DV):=more.foldl (fun acc kv=>Vc acc kv.1 kv.2) kvs
def jh (ps:List (DEx × DEx)):DEx:=fun env=>do
  let kvs <- evP ps env
  QB (decide (kvs.length <= 15))
  Y5 (.dic (QdI [] kvs))
def J7:DEx:=fun _=>Y5 (.dic [])
theorem K1:DE X (.Dict [] [] pos) J7:=L2.PE.imp gP fun σ H Q ⟨Z,env,ρ,B,hp,d,hp',S,e,k⟩=>by
  cases e
  intro p hn hk
  have g:Gr X.K ρ B H (ρ ++ [p]) (xU B p) (upd H p (.dK [])):=Gr.wnew hn hk
  refine k _ _ _ _ g (S.wo.wnew hn hk (RepK.orep (xs:=[]) .nil Zh)) ?_
  unfold RepV
  exact ⟨p,rfl,by rw [<- S.wo.len];simp⟩
abbrev NX:=Nat -> M (Option DV)
def kH (K:PySem.W.Frag) (ρ:List Addr) (B:Addr -> Prop) (H:Hp) (nxt:NX) (J:It):Prop :=
  ∀ ρ1 B1 hp1 H1, Gs K ρ B H ρ1 B1 H1 -> WOk K ρ1 B1 hp1 H1 -> ∀ (i : Nat) (o : Option DV) (hp2 : Hs), nxt i hp1 = some (o, hp2) -> hp2 = hp1 /\ match o with
    | none=>J.stop i H1
    | some d=>J.go i H1 /\ ∀ x H',J.yld i H1 x H' -> RepV K ρ1 B1 H' d x /\ (H' = H1 ∨ ∃ p o,H1 p = none /\ H' = upd H1 p o)
abbrev DXx:=En -> M NX
def tDX (K:PySem.W.Frag) (f:DXx):TI:=fun σ H R=>∃ Z env ρ B hp nxt hp',SOk K Z env σ ρ B hp H /\ f env hp = some (nxt,hp') /\ ∀ J ρ' B' H',Gr K ρ B H ρ' B' H' -> WOk K ρ' B' hp' H' -> kH K ρ' B' H' nxt J -> R J H'
def DX (X:Cx) (tg iter:Expr) (f:DXx):Prop:=PI X tg iter (tDX X.K f)
def nxD (ds:List DV):NX:=fun i=>if i <= ds.length then pure ds[i]? else failure
def nxW (n:Nat):NX:=fun i=>do
  match <- Jz n with
  | .lst ds=>pure ds[i]?
  | _=>failure
theorem QaO {K:PySem.W.Frag} {ρ:List Addr} {B:Addr -> Prop} {H:Hp} {ds:List DV} {J:It} (h:uY K ρ B H ds J):kH K ρ B H (nxD ds) J:=fun ρ1 B1 hp1 H1 g W i o hp2 e=>by
  unfold nxD at e
  by_cases hi:i <= ds.length
  . rw [if_pos hi] at e
    obtain ⟨rfl,rfl⟩:=Qi e
    obtain ⟨h1,h2⟩:=h ρ1 B1 H1 g W.rb W.bt
    refine ⟨rfl,?_⟩
    cases q:ds[i]? with
    | none =>
      have:i = ds.length:=by have:=List.getElem?_eq_none_iff.mp q;omega
      subst this
      exact h2
    | some d=>exact h1 i d q
  . rw [if_neg hi] at e;cases e
theorem QdM {K:PySem.W.Frag} {ρ:List Addr} {B:Addr -> Prop} {H:Hp} {n:Nat} {a:Addr} (ha:ρ[n]? = some a) (kf:∀ H1:Hp,∀ xs ys,H1 a = some (.lst xs) -> SqL K H1 a ys -> ys = xs):kH K ρ B H (nxW n) (Itl K a):=fun ρ1 B1 hp1 H1 g W i o hp2 e=>by
  obtain ⟨ob,hp3,e1,e2⟩:=Qf e
  obtain ⟨e3,rfl⟩:=Jh e1
  have ha1:=uO g.pre ha
  cases ob with
  | dic _=>cases e2
  | ins _ _=>cases e2
  | lst ds =>
    obtain ⟨rfl,rfl⟩:=Qi e2
    obtain ⟨xs,h1,l1⟩:=W.obj n a _ ha1 e3
    refine ⟨rfl,?_⟩
    cases q:ds[i]? with
    | none=>exact ⟨xs,SqL.of h1,by rw [<- l1.length];exact List.getElem?_eq_none_iff.mp q⟩
    | some d =>
      obtain ⟨x,hx,rx⟩:=l1.get q
      refine ⟨⟨xs,x,SqL.of h1,hx⟩,fun y H' ⟨eH,hy⟩=>?_⟩
      subst eH
      have:=hy xs (SqL.of h1)
      rw [hx] at this;cases this
      exact ⟨rx,.inl rfl⟩
theorem Qbr {K:PySem.W.Frag} {a:Addr} (hk:K.lookup a = none) (H:Hp) (xs ys:List V) (h:H a = some (.lst xs)) (h':SqL K H a ys):ys = xs:=by
  rcases h' with (h' | ⟨o,h'⟩) | ⟨o,_,_,h',_⟩
  . rw [h] at h';cases h';rfl
  . rw [h] at h';cases h'
  . rw [hk] at h';cases h'
def xOf (f:DIx):DXx:=fun env=>do let ds <- f env;pure (nxD ds)
def xLs (f:DEx):DXx:=fun env=>do
  match <- f env with
  | .lst ds=>pure (nxD ds)
  | .ref n=>do
    match <- Jz n with
    | .lst _=>pure (nxW n)
    | _=>failure
  | _=>failure
variable {tg iter:Expr}
theorem V7 {g:DIx} (h:DI X tg iter g):DX X tg iter (xOf g):=L2.PI.imp h fun σ H R ⟨Z,env,ρ,B,hp,nxt,hp',S,e,k⟩=>by
  obtain ⟨ds,hp1,e1,e2⟩:=Qf e
  obtain ⟨rfl,rfl⟩:=Qi e2
  exact ⟨Z,env,ρ,B,hp,ds,hp1,S,e1,fun J ρ' B' H' g W it=>k J ρ' B' H' g W (QaO it)⟩
theorem jg (h:DE X iter f):DX X tg iter (xLs f):=L2.PI.imp (Qco (L2.PE.kf h)) fun σ H R ⟨Z,env,ρ,B,hp,nxt,hp',S,e,k⟩=>by
  obtain ⟨d,hp1,e1,e2⟩:=Qf e
  refine tD.run S e1 fun v ρ1 B1 H1 g1 S1 r1 kf=>?_
  cases d with
  | lst ds =>
    obtain ⟨rfl,rfl⟩:=Qi e2
    obtain ⟨a,xs,rfl,nb,sq,rl⟩:=r1.lstI
    exact ⟨a,rfl,⟨xs,sq⟩,k _ ρ1 B1 H1 g1 S1.wo (QaO (Qb3 nb sq rl))⟩
  | ref n =>
    obtain ⟨o,hp2,e3,e4⟩:=Qf (show (Jz n >>= fun o=>(match o with | .lst _=>pure (nxW n) | _=>failure:M NX)) hp1 = some (nxt,hp') from e2)
    obtain ⟨e5,e6⟩:=Jh e3
    cases o with
    | lst ds =>
      obtain ⟨rfl,z⟩:=Qi e4
      rw [<- z,<- e6] at k
      obtain ⟨a,rfl,i1,xs,h1,_⟩:=RepV.refW S1.wo r1 e5
      exact ⟨a,rfl,⟨xs,SqL.of h1⟩,k _ ρ1 B1 H1 g1 S1.wo (QdM i1 (Qbr (kf a _ h1)))⟩
    | dic _=>cases e4
    | ins _ _=>cases e4
  | non=>cases e2
  | bl _=>cases e2
  | int _=>cases e2
  | str _=>cases e2
  | tup _=>cases e2
def jl (nxt:NX) (b:DV -> DSx):Nat -> Nat -> DSx
  | 0,_,_=>failure
  | m + 1,i,env=>do
    match <- nxt i with
    | none=>pure (.nx,env)
    | some d=>do
      let r <- b d env
      match r.1 with
      | .nx=>jl nxt b m (i + 1) r.2
      | .ct=>jl nxt b m (i + 1) r.2
      | .bk=>pure (.nx,r.2)
      | .rt x=>pure (.rt x,r.2)
def Uk (f:DXx) (g:DGx) (body:DSx):DSx:=fun env=>do let nxt <- f env;jl nxt (fun d env=>do let env' <- g d env;body env') 100000 0 env
theorem UX {body:List Stmt} {fi:DXx} {g:DGx} {sb:DSx} (hp:PassesOwn (model X.prog X.w) X.A X.env X.xe) (hc:X.calm = true) (hi:DX X tg iter fi) (hg:PG X tg (tDG X.K g)) (hb:DSs X body sb)
    (hs:∀ x,foldedSetIterable iter X.env x = pure x:=by intro _;rfl):DS X (.For tg iter body [] pos) (Uk fi g sb) :=
  (Qa7 hp hc hi hg hb hs).imp fun D σ H ⟨Z,env,ρ,B,hp,fl,env',hp',S,e,k⟩=>by
    obtain ⟨nxt,hp1,e1,e2⟩:=Qf e
    refine ⟨Z,env,ρ,B,hp,nxt,hp1,S,e1,fun J ρ1 B1 H1 g1 W1 it=>?_⟩
    have k1:=k.after (g1.gs S.wo.rb)
    refine ⟨fun i m σ H=>∃ env ρ B hp,SOk X.K Z env σ ρ B hp H /\ Gs X.K ρ1 B1 H1 ρ B H /\ jl nxt (fun d env=>do let env' <- g d env;sb env') m i env hp = some ((fl,env'),hp'),
      ⟨100000,env,ρ1,B1,hp1,S.grow g1 W1,Gs.refl,e2⟩,?_⟩
    rintro i m σ H ⟨env2,ρ2,B2,hp2,S2,g2,e3⟩
    cases m with
    | zero=>cases e3
    | succ m =>
      obtain ⟨o,hpo,eo,e3⟩:=Qf e3
      obtain ⟨rfl,ito⟩:=it ρ2 B2 hp2 H g2 S2.wo i o hpo eo
      cases o with
      | none =>
        obtain ⟨z,rfl⟩:=Qi e3;cases z
        exact .inl ⟨ito,k1 σ ρ2 B2 H g2 S2⟩
      | some d =>
        obtain ⟨go,yl⟩:=ito
        obtain ⟨⟨f1,env4⟩,hp4,e4,e5⟩:=Qf e3
        obtain ⟨env3,hp3,e6,e7⟩:=Qf e4
        refine .inr ⟨go,fun σ' H'=>∃ env ρ B hp,SOk X.K Z env σ' ρ B hp H' /\ Gs X.K ρ1 B1 H1 ρ B H' /\ jl nxt (fun d env=>do let env' <- g d env;sb env') m (i + 1) env hp = some ((fl,env'),hp'),
          fun σ' H' q=>⟨m,Nat.lt_succ_self m,q⟩,fun x H' y=>?_⟩
        obtain ⟨rx,hx⟩:=yl x H' y
        have S3:SOk X.K Z env2 σ ρ2 B2 hpo H' /\ Gs X.K ρ2 B2 H ρ2 B2 H':=by
          rcases hx with rfl | ⟨p,o,hn,rfl⟩
          . exact ⟨S2,Gs.refl⟩
          . exact ⟨S2.grow (Gr.laid hn) (S2.wo.laid hn),vZ S2.wo.rb hn⟩
        refine ⟨Z,env2,ρ2,B2,hpo,d,env3,hp3,S3.1,rx,e6,fun σ5 ρ5 B5 H5 g5 S5=>⟨Z,env3,ρ5,B5,hp3,f1,env4,hp4,S5,e7,fun σ6 ρ6 B6 H6 g6 S6=>?_⟩⟩
        have G6:=g2.trans (S3.2.trans (g5.trans g6))
        cases f1 with
        | nx=>exact ⟨env4,ρ6,B6,hp4,S6,G6,e5⟩
        | ct=>exact ⟨env4,ρ6,B6,hp4,S6,G6,e5⟩
        | bk=>obtain ⟨z,rfl⟩:=Qi e5;cases z;exact k1 σ6 ρ6 B6 H6 G6 S6
        | rt d=>obtain ⟨z,rfl⟩:=Qi e5;cases z;exact k1 σ6 ρ6 B6 H6 G6 S6
def ZL (nxt:NX) (g:DV -> M Bool) (f:DV -> M DV):Nat -> Nat -> M (List DV)
  | 0,_=>failure
  | m + 1,i=>do
    match <- nxt i with
    | none=>pure []
    | some d=>do
      if <- g d then
        let y <- f d
        let ys <- ZL nxt g f m (i + 1)
        pure (y :: ys)
      else ZL nxt g f m (i + 1)
def Jg (nw:Bool) (src:DXx) (idx:List Nat) (t:DTx) (f:DEx):DEx:=fun env=>do
  let nxt <- src env
  let out <- ZL nxt (fun d=>t (cE idx env d)) (fun d=>f (cE idx env d)) lim 0
  if nw then Y5 (.lst out) else pure (.lst out)
variable {elt:Expr} {x:Str} {px:Pos} {ifs:List Expr} {scope:Scope} {cl:List (Str × Addr)} {caps:List Str} {idx:List Nat} {src:DXx} {te:DTx} {nw:Bool}
theorem yK {K:PySem.W.Frag} {σ:St} {H:Hp} {Q:VK} (h:tD K (Jg nw src idx te f) σ H Q):uT K (tDX K src) (tDT K te) (tD K f) idx σ H Q:=by
  obtain ⟨Z,env,ρ,B,hp,d,hp',S,e,k⟩:=h
  obtain ⟨nxt,hp1,e1,e2⟩:=Qf e
  obtain ⟨out,hp3,e5,e6⟩:=Qf e2
  refine ⟨Z,env,ρ,B,hp,nxt,hp1,S,e1,fun J ρ1 B1 H1 g1 W1 it D hD hK=>?_⟩
  have g1s:=g1.gs S.wo.rb
  refine ⟨fun i m ys H2=>H2 D = some (.lst ys) /\ i + m = lim /\ ∃ ρ2 B2 hp2 don rst,Gr K ρ1 B1 H1 ρ2 B2 H2 /\ WOk K ρ2 B2 hp2 H2 /\ B2 D /\ D ∉ ρ2 /\ RepL K ρ2 B2 H2 don ys /\ don.length <= i /\
    ZL nxt (fun d=>te (cE idx env d)) (fun d=>f (cE idx env d)) m i hp2 = some (rst,hp3) /\ don ++ rst = out,?_,?_⟩
  . exact ⟨lim,Zh,Nat.zero_add _,ρ1,xU B1 D,hp1,[],out,Gr.banned hD hK,W1.banned hD hK,.inr rfl,fun z=>W1.bt D (W1.rb D z) hD,RepL.nil,Nat.le_refl _,e5,rfl⟩
  . rintro i m ys H2 ⟨hDs,him,ρ2,B2,hp2,don,rst,g2,W2,bD,nD,rd,dn,e7,e8⟩
    refine ⟨hDs,?_⟩
    cases m with
    | zero=>cases e7
    | succ m =>
      obtain ⟨o,hpo,eo,e7⟩:=Qf e7
      obtain ⟨rfl,ito⟩:=it ρ2 B2 hp2 H2 (g2.gs W1.rb) W2 i o hpo eo
      cases o with
      | some d0 =>
        obtain ⟨go,yl⟩:=ito
        obtain ⟨b,hp4,e9,e10⟩:=Qf e7
        refine .inr ⟨go,fun x H3 y=>?_⟩
        obtain ⟨rx,hx⟩:=yl x H3 y
        have S3:Gr K ρ2 B2 H2 ρ2 B2 H3 /\ WOk K ρ2 B2 hpo H3:=by
          rcases hx with rfl | ⟨p,o,hn,rfl⟩
          . exact ⟨Gr.refl,W2⟩
          . exact ⟨Gr.laid hn,W2.laid hn⟩
        have g3:=g2.trans S3.1
        have C3:=cσ_ok (idx:=idx) S (g1s.trans (g3.gs W1.rb)) S3.2 rx
        refine tDT.run C3 e9 fun ρ4 B4 H4 g4 S4=>?_
        have hD4:H4 D = some (.lst ys):=g4.keep D _ nD (S3.1.keep D _ nD hDs)
        have nD4:D ∉ ρ4:=fun z=>(g4.rnew D z).elim nD fun q=>by rw [S3.1.keep D _ nD hDs] at q;cases q
        cases b with
        | false =>
          exact vq ⟨m,Nat.lt_succ_self m,hD4,by omega,ρ4,B4,hp4,don,rst,g3.trans g4,S4.wo,g4.ban D bD,nD4,RepL.grow W2.rb (S3.1.trans g4) _ _ rd,by omega,e10,e8⟩
        | true =>
          obtain ⟨z,hp5,e11,e12⟩:=Qf e10
          obtain ⟨zs,hp6,e13,e14⟩:=Qf e12
          obtain ⟨rfl,rfl⟩:=Qi e14
          refine vt (tD.run S4 e11 fun v ρ5 B5 H5 g5 S5 r5=>?_)
          have hD5:H5 D = some (.lst ys):=g5.keep D _ nD4 hD4
          have nD5:D ∉ ρ5:=fun z=>(g5.rnew D z).elim nD4 fun q=>by rw [hD4] at q;cases q
          have bD5:B5 D:=g5.ban D (g4.ban D bD)
          have G5:=g3.trans (g4.trans g5)
          have rd5:=RepL.grow W2.rb (S3.1.trans (g4.trans g5)) _ _ rd
          have trk:∀ b,(upd H5 D (.lst (ys ++ [v]))) b = none -> H5 b = none:=fun b q=>by
            by_cases e:b = D
            . subst e;rw [Zh] at q;cases q
            . rw [QU e] at q;exact q
          have g6:Gs K ρ5 B5 H5 ρ5 B5 (upd H5 D (.lst (ys ++ [v]))):=⟨List.prefix_rfl,fun _ h=>.inl h,fun b o nb h=>by rw [QU (show b ≠ D from fun z=>nb (by rw [z];exact bD5))];exact h,trk⟩
          refine ⟨hD5,?_,m,Nat.lt_succ_self m,Zh,by omega,ρ5,B5,hp5,don ++ [z],zs,?_,?_,bD5,nD5,RepL.gs g6 _ _ (RepL.append rd5 (RepL.one r5)),by simp;omega,e13,by rw [<- e8];simp⟩
          . have h1:=rd5.length
            have h2:lim < sizeLine:=by decide
            omega
          . exact ⟨G5.pre,G5.ban,G5.new,G5.rnew,fun b o nb h=>by rw [QU (show b ≠ D from fun q=>by rw [q,hD] at h;cases h)];exact G5.keep b o nb h,fun b q=>G5.trk b (trk b q)⟩
          . exact ⟨S5.wo.len,S5.wo.nd,fun j b o q1 q2=>ORep.gs g6 (QU (show b ≠ D from fun z=>nD5 (by rw [<- z];exact List.mem_of_getElem? q1))) (S5.wo.obj j b o q1 q2),S5.wo.rb,fun b z q=>S5.wo.bt b z (trk b q),S5.wo.bk⟩
      | none =>
        obtain ⟨z,z'⟩:=Qi e7
        subst z
        subst z'
        refine .inl ⟨ito,?_⟩
        rw [List.append_nil] at e8
        subst e8
        cases nw with
        | false =>
          obtain ⟨rfl,rfl⟩:=Qi (show (pure (.lst don):M DV) hpo = some (d,hp') from e6)
          have gU:Gs K ρ2 B2 H2 ρ2 (fun b=>B2 b /\ b ≠ D) H2:=⟨List.prefix_rfl,fun _ h=>.inl h.1,fun _ _ _ h=>h,fun _ h=>h⟩
          refine k (.ref D) ρ2 (fun b=>B2 b /\ b ≠ D) H2 (g1.trans ⟨g2.pre,fun b z=>⟨g2.ban b z,fun q=>W1.bt b z (q ▸ hD)⟩,fun b z=>g2.new b z.1,g2.rnew,g2.keep,g2.trk⟩)
            ⟨W2.len,W2.nd,fun j b o q1 q2=>ORep.gs gU rfl (W2.obj j b o q1 q2),fun b z=>⟨W2.rb b z,fun q=>nD (q ▸ z)⟩,fun b z=>W2.bt b z.1,fun b z=>W2.bk b z.1⟩ (Kt (fun z=>z.2 rfl) (SqL.of hDs) (RepL.gs gU _ _ rd))
        | true =>
          cases (show some (DV.ref hpo.length,hpo ++ [OV.lst don]) = some (d,hp') from e6)
          have gU:Gs K ρ2 B2 H2 (ρ2 ++ [D]) B2 H2:=⟨List.prefix_append _ _,fun _ h=>.inl h,fun _ _ _ h=>h,fun _ h=>h⟩
          refine k (.ref D) (ρ2 ++ [D]) B2 H2 (g1.trans ⟨g2.pre.trans (List.prefix_append _ _),g2.ban,g2.new,fun a z=>(List.mem_append.mp z).elim (g2.rnew a) fun q=>.inr (by rw [List.mem_singleton.mp q];exact hD),g2.keep,g2.trk⟩)
            ⟨by simp [W2.len],List.nodup_append.mpr ⟨W2.nd,by simp,fun a ha b hb=>by rw [List.mem_singleton.mp hb];exact fun z=>nD (z ▸ ha)⟩,fun j b o q1 q2=>?_,fun b z=>(List.mem_append.mp z).elim (W2.rb b) fun q=>by rw [List.mem_singleton.mp q];exact bD,W2.bt,W2.bk⟩ ?_
          . by_cases hi:j < ρ2.length
            . rw [List.getElem?_append_left hi] at q1
              rw [List.getElem?_append_left (by rw [<- W2.len];exact hi)] at q2
              exact ORep.gs gU rfl (W2.obj j b o q1 q2)
            . rw [List.getElem?_append_right (by omega)] at q1
              rw [List.getElem?_append_right (by rw [<- W2.len];omega)] at q2
              have hi0:j - ρ2.length = 0:=by
                have:=(List.getElem?_eq_some_iff.mp q1).1
                simp at this;omega
              rw [hi0] at q1
              rw [<- W2.len,hi0] at q2
              simp at q1 q2
              subst q1 q2
              exact ⟨ys,hDs,RepL.gs gU _ _ rd⟩
          . unfold RepV
            exact ⟨D,rfl,by rw [<- W2.len];simp⟩
theorem yD (S:KL X x scope cl caps idx) (hc:X.calm = true) (hi:DX X (.Name x px) iter src)
    (ht:∀ C s₀ H₀ ex,DTs (XI X scope cl C (x :: caps) s₀ H₀ ex) ifs te) (he:∀ C s₀ H₀ ex,DE (XI X scope cl C (x :: caps) s₀ H₀ ex) elt f)
    (hs:∀ x,foldedSetIterable iter X.env x = pure x:=by intro _;rfl):DE X (.ListComp elt [⟨.Name x px,iter,ifs,0⟩] scope pos) (Jg nw src idx te f) :=
  L2.PE.imp (Qch (tt:=tDT X.K te) (te:=tD X.K f) S hc hi ht he hs) fun _ _ _ h=>yK h
theorem qG (i:Nat) {y:Str} {py spos:Pos} (hN:X.N.Nodup) (S:KL X x scope cl caps idx) (hc:X.calm = true) (hi:DX X (.Name x px) iter src)
    (ht:∀ C s₀ H₀ ex,DTs (XI X scope cl C (x :: caps) s₀ H₀ ex) ifs te) (he:∀ C s₀ H₀ ex,DE (XI X scope cl C (x :: caps) s₀ H₀ ex) elt f)
    (hy:X.N[i]? = some y:=by rfl) (hx:Loc X.env.scope y:=by first | exact Or.inl rfl | exact Or.inr rfl)
    (hsw:swapsWith (.ListComp elt [⟨.Name x px,iter,ifs,0⟩] scope pos) (some (.Name y py)) spos.line X.env = pure true:=by with_unfolding_all rfl)
    (hf:X.fn y = true ∨ X.env.scope.names.lookup y = some .local:=by first | exact .inl rfl | exact .inr rfl | assumption)
    (hs:∀ x,foldedSetIterable iter X.env x = pure x:=by intro _;rfl):DS X (.Assign [.Name y py] (.ListComp elt [⟨.Name x px,iter,ifs,0⟩] scope pos) spos) (QL i (Jg nw src idx te f)) :=
  L2.PS.imp (Qcu (tt:=tDT X.K te) (te:=tD X.K f) S hc hi ht he hN hy hx hsw hf hs) fun _ _ _ h=>GE (fun _ _ _ q=>yK q) h
end
end D
namespace D
open PySem PySem.Spec PyProof.Rows L2
def WP {α:Type} (m:M α) (hp:Hs) (Q:α -> Hs -> Prop):Prop:=∃ x hp',m hp = some (x,hp') /\ Q x hp'
section
variable {α β:Type} {m:M α} {k:α -> M β} {hp:Hs} {Q:α -> Hs -> Prop} {R:β -> Hs -> Prop}
theorem WP_pure {x:α}:WP (pure x) hp Q ↔ Q x hp:=⟨fun ⟨y,h,e,q⟩=>by obtain ⟨rfl,rfl⟩:=Qi e;exact q,fun q=>⟨x,hp,rfl,q⟩⟩
theorem ye:WP (m >>= k) hp R ↔ WP m hp fun x h=>WP (k x) h R:=⟨fun ⟨y,h,e,q⟩=>by obtain ⟨x,h1,e1,e2⟩:=Qf e;exact ⟨x,h1,e1,y,h,e2,q⟩,fun ⟨x,h1,e1,y,h,e2,q⟩=>⟨y,h,(Qg e1).trans e2,q⟩⟩
theorem WP.mono {Q':α -> Hs -> Prop} (h:WP m hp Q) (hq:∀ x h,Q x h -> Q' x h):WP m hp Q':=let ⟨x,h1,e,q⟩:=h;⟨x,h1,e,hq x h1 q⟩
theorem WP.of {x:α} {hp':Hs} (e:m hp = some (x,hp')) (q:Q x hp'):WP m hp Q:=⟨x,hp',e,q⟩
end
section
variable {hp:Hs} {env:En} {Q:Fl × En -> Hs -> Prop}
theorem Y4 {b:DV -> DSx} (I:Nat -> En -> Hs -> Prop) (ds:List DV) (h0:I 0 env hp) (hs:∀ (i:Nat) d,ds[i]? = some d -> ∀ env hp,I i env hp -> WP (b d env) hp fun r h=>match r.1 with
    | .nx=>I (i + 1) r.2 h
    | .ct=>I (i + 1) r.2 h
    | .bk=>Q (.nx,r.2) h
    | .rt x=>Q (.rt x,r.2) h) (he:∀ env hp,I ds.length env hp -> Q (.nx,env) hp):WP (Yx b ds env) hp Q:=by
  suffices h:∀ (m i:Nat) env hp,m + i = ds.length -> I i env hp -> WP (Yx b (ds.drop i) env) hp Q by simpa using h ds.length 0 env hp rfl h0
  intro m
  induction m with
  | zero =>
    intro i env hp e hI
    have:i = ds.length:=by omega
    subst this
    rw [List.drop_length]
    exact WP_pure.mpr (he env hp hI)
  | succ m ih =>
    intro i env hp e hI
    have hlt:i < ds.length:=by omega
    rw [List.drop_eq_getElem_cons hlt,Yx,ye]
    refine (hs i ds[i] (List.getElem?_eq_getElem hlt) env hp hI).mono fun r h q=>?_
    obtain ⟨fl,env1⟩:=r
    cases fl with
    | nx=>exact ih (i + 1) env1 h (by omega) q
    | ct=>exact ih (i + 1) env1 h (by omega) q
    | bk=>exact WP_pure.mpr q
    | rt x=>exact WP_pure.mpr q
theorem QbH {nxt:NX} {b:DV -> DSx} (ds:List DV) (I:Nat -> En -> Hs -> Prop) (hl:ds.length < 100000) (hn:∀ (i:Nat) env hp,i <= ds.length -> I i env hp -> nxt i hp = some (ds[i]?,hp)) (h0:I 0 env hp) (hs:∀ (i:Nat) d,ds[i]? = some d -> ∀ env hp,I i env hp -> WP (b d env) hp fun r h=>match r.1 with
    | .nx=>I (i + 1) r.2 h
    | .ct=>I (i + 1) r.2 h
    | .bk=>Q (.nx,r.2) h
    | .rt x=>Q (.rt x,r.2) h) (he:∀ env hp,I ds.length env hp -> Q (.nx,env) hp):WP (jl nxt b 100000 0 env) hp Q:=by
  suffices h:∀ (m i n:Nat) env hp,m + i = ds.length -> m < n -> I i env hp -> WP (jl nxt b n i env) hp Q from h ds.length 0 100000 env hp rfl hl h0
  intro m
  induction m with
  | zero =>
    intro i n env hp e hn' hI
    have:i = ds.length:=by omega
    subst this
    obtain ⟨n,rfl⟩:∃ k,n = k + 1:=⟨n - 1,by omega⟩
    rw [jl,ye]
    refine WP.of (hn _ env hp (Nat.le_refl _) hI) ?_
    rw [show ds[ds.length]? = none by simp]
    exact WP_pure.mpr (he env hp hI)
  | succ m ih =>
    intro i n env hp e hn' hI
    have hlt:i < ds.length:=by omega
    obtain ⟨n,rfl⟩:∃ k,n = k + 1:=⟨n - 1,by omega⟩
    rw [jl,ye]
    refine WP.of (hn i env hp (by omega) hI) ?_
    simp only [List.getElem?_eq_getElem hlt]
    rw [ye]
    refine (hs i ds[i] (List.getElem?_eq_getElem hlt) env hp hI).mono fun r h q=>?_
    obtain ⟨fl,env1⟩:=r
    cases fl with
    | nx=>exact ih (i + 1) n env1 h (by omega) (by omega) q
    | ct=>exact ih (i + 1) n env1 h (by omega) (by omega) q
    | bk=>exact WP_pure.mpr q
    | rt x=>exact WP_pure.mpr q
theorem YB (ds:List DV) (i:Nat) (h:i <= ds.length) (hp:Hs):nxD ds i hp = some (ds[i]?,hp):=by unfold nxD;rw [if_pos h];rfl
theorem QdL {n:Nat} {ds:List DV} {hp:Hs} (h:hp[n]? = some (.lst ds)) (i:Nat):nxW n i hp = some (ds[i]?,hp):=by
  unfold nxW
  have:Jz n hp = some (.lst ds,hp):=by unfold Jz;rw [h]
  rw [Qg this];rfl
theorem yt {b:DV -> DSx} (ds:List DV) (I:Nat -> En -> Hs -> Prop) (hl:ds.length < 100000) (h0:I 0 env hp) (hs:∀ (i:Nat) d,ds[i]? = some d -> ∀ env hp,I i env hp -> WP (b d env) hp fun r h=>match r.1 with
    | .nx=>I (i + 1) r.2 h
    | .ct=>I (i + 1) r.2 h
    | .bk=>Q (.nx,r.2) h
    | .rt x=>Q (.rt x,r.2) h) (he:∀ env hp,I ds.length env hp -> Q (.nx,env) hp):WP (jl (nxD ds) b 100000 0 env) hp Q :=
  QbH ds I hl (fun i env hp h _=>YB ds i h hp) h0 hs he
end
theorem vb {nxt:NX} {t:DV -> M Bool} {f:DV -> M DV} {p:Int -> Bool} {g:Int -> Int} {hp:Hs} (ns:List Int) (hn:∀ i,i <= ns.length -> nxt i hp = some ((ns.map DV.int)[i]?,hp)) (ht:∀ x,t (.int x) hp = some (p x,hp)) (hf:∀ x,f (.int x) hp = some (.int (g x),hp)) (hl:ns.length < 100000) :
    ZL nxt t f 100000 0 hp = some (((ns.filter p).map g).map .int,hp):=by
  suffices h:∀ (m i n:Nat),m + i = ns.length -> m < n -> ZL nxt t f n i hp = some ((((ns.drop i).filter p).map g).map .int,hp) by simpa using h ns.length 0 100000 rfl hl
  intro m
  induction m with
  | zero =>
    intro i n e hn'
    obtain ⟨n,rfl⟩:∃ k,n = k + 1:=⟨n - 1,by omega⟩
    have:i = ns.length:=by omega
    subst this
    have e1:=hn ns.length (Nat.le_refl _)
    rw [show (ns.map DV.int)[ns.length]? = none by simp] at e1
    rw [ZL,Qg e1,List.drop_length]
    rfl
  | succ m ih =>
    intro i n e hn'
    obtain ⟨n,rfl⟩:∃ k,n = k + 1:=⟨n - 1,by omega⟩
    have hlt:i < ns.length:=by omega
    have e1:=hn i (by omega)
    rw [List.getElem?_map,List.getElem?_eq_getElem hlt] at e1
    have hi:=ih (i + 1) n (by omega) (by omega)
    rw [ZL,Qg e1]
    simp only [Option.map_some]
    rw [Qg (ht ns[i]),List.drop_eq_getElem_cons hlt]
    cases q:p ns[i] with
    | false=>rw [List.filter_cons_of_neg (by simp [q])];simpa using hi
    | true =>
      rw [List.filter_cons_of_pos q]
      simp only [if_true]
      rw [Qg (hf ns[i]),Qg hi]
      rfl
theorem ur (n:Nat) (hp:Hs) (i:Int):drf (n + 1) hp (.int i) = some (.int i):=rfl
theorem uu (n:Nat) (hp:Hs) (b:Str):drf (n + 1) hp (.str b) = some (.str b):=rfl
theorem ze {α:Type} {f:α -> Option α}:∀ {xs:List α},(∀ x ∈ xs,f x = some x) -> xs.mapM f = some xs
  | [],_=>rfl
  | x :: xs,h=>by
    rw [List.mapM_cons,h x (by simp),ze fun y hy=>h y (List.mem_cons_of_mem _ hy)];rfl
theorem uq {d d':DV} {hp:Hs} (h:drf 40 hp d = some d'):vi d hp = some (d',hp):=by unfold vi;rw [h];rfl
theorem uy {x y x' y':DV} {hp:Hs} (hx:drf 40 hp x = some x') (hy:drf 40 hp y = some y') (s1:okP x' = true) (s2:okP y' = true):xZ x y hp = some (PyData.eqv (toP x') (toP y'),hp):=by
  unfold xZ
  simp only [okP,Bool.and_eq_true] at s1 s2
  rw [Qg (uq hx),Qg (uq hy)]
  simp only [s1.2,s2.2,Bool.and_self,QB,if_true,pure_bind]
  rfl
theorem Ga (i j:Int) (hp:Hs):xZ (.int i) (.int j) hp = some (i == j,hp):=uy (ur 39 hp i) (ur 39 hp j) (ym i) (ym j)
end D
namespace D
open PySem PySem.Spec PyProof.Rows L2
theorem kC (p:Key × DV) (r:List (Key × DV)) (j:Key):zp (p :: r) j = if p.1 = j then some p.2 else zp r j:=by
  by_cases e:p.1 = j
  . simp [zp,List.find?_cons,e]
  . simp [zp,List.find?_cons,e]
theorem Qbb (kvs:List (Key × DV)) (k:Key) (d:DV):(Vc kvs k d).length <= kvs.length + 1:=by
  unfold Vc;split <;> simp
theorem JX {n:Nat} {o:OV} {hp:Hs} (h:hp[n]? = some o):Jz n hp = some (o,hp):=by unfold Jz;rw [h]
theorem GA {n:Nat} {kvs:List (Key × DV)} {hp:Hs} {i d:DV} {k:Key} (h:hp[n]? = some (.dic kvs)) (hk:qF i = some k) (hl:kvs.length < 100000):xj (.ref n) i d hp = some ((),hp.set n (.dic (Vc kvs k d))):=by
  show (Jz n >>= _) hp = _
  rw [Qg (JX h)]
  have e1:Yi i hp = some (k,hp):=by unfold Yi;rw [hk];rfl
  have e2:QB (decide (kvs.length < lim)) hp = some ((),hp):=by rw [show decide (kvs.length < lim) = true from decide_eq_true hl];rfl
  show (Yi i >>= fun k=>QB (decide (kvs.length < lim)) >>= fun _=>xo n (.dic (Vc kvs k d))) hp = _
  rw [Qg e1,Qg e2];rfl
theorem yo {f:DEx} {g:DGx} {env env':En} {d:DV} {hp hp1 hp2:Hs} (h:f env hp = some (d,hp1)) (h':g d env hp1 = some (env',hp2)):Yd f g env hp = some ((.nx,env'),hp2):=by
  unfold Yd
  rw [Qg h,Qg h'];rfl
theorem Q5 {α:Type} {m:M α} {x:α} (h:m = pure x) (hp:Hs):m hp = some (x,hp):=by rw [h];rfl
theorem Qbg {c:DTx} {f g:DSx} {env:En} {b:Bool} {hp hp1:Hs} (h:c env hp = some (b,hp1)):sIf c f g env hp = if b = true then f env hp1 else g env hp1:=by
  unfold sIf
  rw [Qg h]
  cases b <;> rfl
theorem Zm {f:DEx} {env:En} {b:Bool} {hp hp1:Hs} (h:f env hp = some (.bl b,hp1)):eB f env hp = some (b,hp1):=by
  unfold eB
  rw [Qg h];rfl
theorem Qj {g:DV -> DV -> M DV} {f f':DEx} {env:En} {x y d:DV} {hp hp1 hp2 hp3:Hs} (h:f env hp = some (x,hp1)) (h':f' env hp1 = some (y,hp2)) (hg:g x y hp2 = some (d,hp3)):Qn g f f' env hp = some (d,hp3):=by
  unfold Qn
  rw [Qg h,Qg h',hg]
theorem QO {f:DEx} {env:En} {d:DV} {hp hp1:Hs} (h:f env hp = some (d,hp1)):QP f env hp = some ((.rt d,env),hp1):=by
  unfold QP
  rw [Qg h];rfl
theorem Q3 {f g:DSx} {env env1:En} {d:DV} {hp hp1:Hs} (h:f env hp = some ((.rt d,env1),hp1)):Qs f g env hp = some ((.rt d,env1),hp1):=by
  unfold Qs
  rw [Qg h];rfl
theorem XD {f:DEx} {env:En} {d:DV} {hp hp1:Hs} (h:f env hp = some (d,hp1)):Ji f env hp = some ((.nx,env),hp1):=by
  unfold Ji
  rw [Qg h];rfl
theorem QI {n:Nat} {body:DSx} {ds:List DV} {d:DV} {env:En} {hp hp1:Hs} (h:body (ds.map .val ++ List.replicate (n - ds.length) .un) hp = some ((.rt d,env),hp1)):Q7 n body ds hp = some (d,hp1):=by
  unfold Q7
  rw [Qg h];rfl
theorem q8 {c:DTx} {env:En} {b:Bool} {hp hp1:Hs} (h:c env hp = some (b,hp1)):Xw c env hp = some (!b,hp1):=by
  unfold Xw
  rw [Qg h];rfl
theorem yJ {f g:DEx} {env:En} {b:Bool} {hp hp1:Hs} (h:f env hp = some (.bl b,hp1)):JR f g env hp = if b = true then g env hp1 else some (.bl false,hp1):=by
  unfold JR
  rw [Qg h]
  cases b <;> rfl
end D
namespace D
open PySem PySem.Spec PyProof.Rows L2
abbrev ClsN (K:PySem.W.Frag) (c:Str) (C:Addr):Prop:=PySem.W.nsIn K mainGlobals c = some (some (.ref C))
theorem ClsN.uniq {K:PySem.W.Frag} {c:Str} {C C':Addr} (h:ClsN K c C) (h':ClsN K c C'):C = C':=by
  have e:=h.symm.trans h';cases e;rfl
structure Y3 (K:PySem.W.Frag) (c f:Str):Prop where
  ex:∃ C,ClsN K c C /\ Cls K C /\ NoAttr K C f
structure X5 (P:Program) (w:World) (K:PySem.W.Frag) (mg:Str -> Option Value) (base:Heap) (c m:Str) (k n:Nat) (F:List DV -> M DV):Prop where
  ex:∃ (C f:Addr) (fd:FuncData) (ps:List Str),ClsN K c C /\ Cls K C /\ G0 K C m f /\ qC P w K mg base CX0 k f fd ps (spD K n F) /\ Binds K fd ps []
structure kF (P:Program) (w:World) (K:PySem.W.Frag) (mg:Str -> Option Value) (base:Heap) (c:Str) (k n:Nat) (F:List DV -> M DV):Prop where
  ex:∃ (C f:Addr) (fd:FuncData) (ps:List Str),ClsN K c C /\ mg c = some (.ref C) /\ Mk K C f /\ qC P w K mg base CX0 k f fd ps (spD K n F) /\ Binds K fd ps []
section
variable {K:PySem.W.Frag} {ρ:List Addr} {B:Addr -> Prop} {H:Hp} {hp:Hs}
abbrev RepF (K:PySem.W.Frag) (ρ:List Addr) (B:Addr -> Prop) (H:Hp):List (Str × DV) -> List (Str × V) -> Prop:=Paired fun p q=>p.1 = q.1 /\ RepV K ρ B H p.2 q.2
theorem uP:∀ {fs:List (Str × DV)} {xs:List (Str × V)},xs.map (·.1) = fs.map (·.1) -> RepL K ρ B H (fs.map (·.2)) (xs.map (·.2)) -> RepF K ρ B H fs xs
  | [],[],_,_=>.nil
  | [],_ :: _,e,_=>by simp at e
  | _ :: _,[],e,_=>by simp at e
  | p :: fs,q :: xs,e,r=>by
    simp only [List.map_cons,List.cons.injEq] at e
    simp only [List.map_cons] at r
    unfold RepL at r
    obtain ⟨x,t,e2,h1,h2⟩:=r
    simp only [List.cons.injEq] at e2
    obtain ⟨rfl,rfl⟩:=e2
    exact .cons ⟨e.1.symm,h1⟩ (uP e.2 h2)
theorem RepF.to {fs:List (Str × DV)} {xs:List (Str × V)} (r:RepF K ρ B H fs xs):xs.map (·.1) = fs.map (·.1) /\ RepL K ρ B H (fs.map (·.2)) (xs.map (·.2)):=by
  induction r with
  | nil=>exact ⟨rfl,RepL.nil⟩
  | cons h _ ih=>exact ⟨by simp [ih.1,h.1],by simpa using RepL.cons h.2 ih.2⟩
theorem RepF.look {fs:List (Str × DV)} {xs:List (Str × V)} (r:RepF K ρ B H fs xs) (f:Str):(fs.lookup f = none /\ xs.lookup f = none) ∨ ∃ d v,fs.lookup f = some d /\ xs.lookup f = some v /\ RepV K ρ B H d v:=by
  induction r with
  | nil=>exact .inl ⟨rfl,rfl⟩
  | @cons p q _ _ h _ ih =>
    obtain ⟨p1,p2⟩:=p
    obtain ⟨q1,q2⟩:=q
    obtain ⟨h1,h2⟩:=h
    have h1:p1 = q1:=h1
    subst h1
    cases e:f == p1 with
    | true=>exact .inr ⟨p2,q2,by simp [List.lookup,e],by simp [List.lookup,e],h2⟩
    | false=>simpa [List.lookup,e] using ih
def Xa (f:Str) (d:DV):List (Str × DV) -> List (Str × DV)
  | []=>[(f,d)]
  | (g,x) :: r=>if g = f then (g,d) :: r else (g,x) :: Xa f d r
theorem RepF.put {fs:List (Str × DV)} {xs:List (Str × V)} (r:RepF K ρ B H fs xs) (f:Str) {d:DV} {v:V} (rd:RepV K ρ B H d v):RepF K ρ B H (Xa f d fs) (YC f v xs):=by
  induction r with
  | nil=>exact .cons ⟨rfl,rd⟩ .nil
  | @cons p q _ _ h t ih =>
    obtain ⟨p1,p2⟩:=p
    obtain ⟨q1,q2⟩:=q
    obtain ⟨h1,h2⟩:=h
    have h1:p1 = q1:=h1
    subst h1
    unfold Xa YC
    by_cases e:p1 = f
    . rw [if_pos e,if_pos e];exact .cons ⟨rfl,rd⟩ t
    . rw [if_neg e,if_neg e];exact .cons ⟨rfl,h2⟩ ih
theorem RepF.len {fs:List (Str × DV)} {xs:List (Str × V)} (r:RepF K ρ B H fs xs):fs.length = xs.length:=Paired.length r
theorem RepF.gs {ρ':List Addr} {B':Addr -> Prop} {H':Hp} {fs:List (Str × DV)} {xs:List (Str × V)} (g:Gs K ρ B H ρ' B' H') (r:RepF K ρ B H fs xs):RepF K ρ' B' H' fs xs:=L2.Paired.mapP r fun _ _ h=>⟨h.1,RepV.gs g _ _ h.2⟩
theorem ORep.ins {a:Addr} {c:Str} {fs:List (Str × DV)} (h:ORep K ρ B H a (.ins c fs)):∃ C dx xs,ClsN K c C /\ H a = some (.ins C dx xs) /\ RepF K ρ B H fs xs:=by
  obtain ⟨C,dx,xs,nc,e,ek,rl⟩:=h
  exact ⟨C,dx,xs,nc,e,uP ek rl⟩
theorem RepF.orep {a C dx:Addr} {c:Str} {fs:List (Str × DV)} {xs:List (Str × V)} (nc:ClsN K c C) (r:RepF K ρ B H fs xs) (e:H a = some (.ins C dx xs)):ORep K ρ B H a (.ins c fs):=⟨C,dx,xs,nc,e,r.to.1,r.to.2⟩
theorem QbE {n:Nat} {a C dx:Addr} {c:Str} {xs xs':List (Str × V)} {fs':List (Str × DV)} (W:WOk K ρ B hp H) (i:ρ[n]? = some a) (nc:ClsN K c C) (e:H a = some (.ins C dx xs)) (r:RepF K ρ B H fs' xs'):Gr K ρ B H ρ B (upd H a (.ins C dx xs')) /\ WOk K ρ B (hp.set n (.ins c fs')) (upd H a (.ins C dx xs')):=by
  have g:Gr K ρ B H ρ B (upd H a (.ins C dx xs')):=Gr.wset i e
  exact ⟨g,W.wset (o':=.ins C dx xs') (v:=.ins c fs') i e ((r.gs (g.gs W.rb)).orep nc Zh)⟩
end
def onI {α:Type} (c:Str) (x:DV) (k:Nat -> List (Str × DV) -> M α):M α:=match x with
  | .ref n=>do
    match <- Jz n with
    | .ins c' fs=>do QB (decide (c' = c));k n fs
    | _=>failure
  | _=>failure
theorem ju {α:Type} {c:Str} {x:DV} {d:α} {k:Nat -> List (Str × DV) -> M α} {hp hp':Hs} (h:onI c x k hp = some (d,hp')):∃ n fs,x = .ref n /\ hp[n]? = some (.ins c fs) /\ k n fs hp = some (d,hp'):=by
  cases x with
  | ref n =>
    obtain ⟨o,hp1,e1,e2⟩:=Qf (show (Jz n >>= fun o=>(match o with | .ins c' fs=>do QB (decide (c' = c));k n fs | _=>failure:M α)) hp = some (d,hp') from h)
    obtain ⟨e3,rfl⟩:=Jh e1
    cases o with
    | ins c' fs =>
      obtain ⟨_,hp2,e4,e5⟩:=Qf e2
      obtain ⟨hl,rfl⟩:=QJ e4
      obtain rfl:=of_decide_eq_true hl
      exact ⟨n,fs,rfl,e3,e5⟩
    | lst _=>cases e2
    | dic _=>cases e2
  | non=>cases h
  | bl _=>cases h
  | int _=>cases h
  | str _=>cases h
  | tup _=>cases h
  | lst _=>cases h
def j7 (c f:Str) (x:DV):M DV:=onI c x fun _ fs=>qx (fs.lookup f)
def xm (c f:Str) (x d:DV):M Unit:=onI c x fun n fs=>do QB (decide (fs.length < 1000));xo n (.ins c (Xa f d fs))
def QH (c f:Str) (g:DEx):DEx:=fun env=>do let x <- g env;j7 c f x
def Q9 (c f:Str) (fo fv:DEx):DSx:=fun env=>do let y <- fv env;let x <- fo env;xm c f x y;pure (.nx,env)
def YN (c f:Str) (op:DV -> DV -> M DV) (fo fv:DEx):DSx:=fun env=>do let x <- fo env;let v <- j7 c f x;let y <- fv env;let z <- op v y;xm c f x z;pure (.nx,env)
def zY:DV -> DV -> M DV
  | .int i,.int j=>pure (.int (i + j))
  | _,_=>failure
def KF:DV -> DV -> M DV
  | .int i,.int j=>pure (.int (i - j))
  | _,_=>failure
def QD (c m:Str) (n:Nat) (F:List DV -> M DV) (fo:DEx) (fa:DAx):DEx:=fun env=>do
  let x <- fo env
  onI c x fun _ fs=>QB (fs.lookup m).isNone
  let ds <- fa env
  QB (decide (ds.length + 1 = n))
  F (x :: ds)
def JS (c:Str) (n:Nat) (F:List DV -> M DV) (fa:DAx):DEx:=fun env=>do
  let ds <- fa env
  QB (decide (ds.length + 1 = n))
  let x <- Y5 (.ins c [])
  let r <- F (x :: ds)
  match r with
  | .non=>pure x
  | _=>failure
section
variable {X:Cx} {o e value:Expr} {c f m:Str} {pos pos' tpos apos:Pos} {fo fv:DEx}
theorem Gb {K:PySem.W.Frag} {ρ:List Addr} {B:Addr -> Prop} {H:Hp} {hp hp':Hs} {x d:DV} {v:V} (W:WOk K ρ B hp H) (r:RepV K ρ B H x v) (h:j7 c f x hp = some (d,hp')):hp = hp' /\ ∃ a C dx xs u,v = .ref a /\ ClsN K c C /\ H a = some (.ins C dx xs) /\ xs.lookup f = some u /\ RepV K ρ B H d u:=by
  obtain ⟨n,fs,rfl,e1,e2⟩:=ju h
  obtain ⟨hl,rfl⟩:=xg e2
  obtain ⟨a,rfl,i,ro⟩:=RepV.refW W r e1
  obtain ⟨C,dx,xs,nc,e,rf⟩:=ro.ins
  rcases rf.look f with ⟨z,_⟩ | ⟨d',u,z,zu,ru⟩
  . rw [hl] at z;cases z
  . rw [hl] at z;cases z
    exact ⟨rfl,a,C,dx,xs,u,rfl,nc,e,zu,ru⟩
theorem GI {K:PySem.W.Frag} {ρ:List Addr} {B:Addr -> Prop} {H:Hp} {hp hp':Hs} {x d:DV} {v y:V} {z:Unit} (W:WOk K ρ B hp H) (r:RepV K ρ B H x v) (rd:RepV K ρ B H d y) (h:xm c f x d hp = some (z,hp')):∃ a C dx xs,v = .ref a /\ ClsN K c C /\ H a = some (.ins C dx xs) /\ xs.length < 1000 /\ Gr K ρ B H ρ B (upd H a (.ins C dx (YC f y xs))) /\ WOk K ρ B hp' (upd H a (.ins C dx (YC f y xs))):=by
  obtain ⟨n,fs,rfl,e1,e2⟩:=ju h
  obtain ⟨_,hp1,e3,e4⟩:=Qf e2
  obtain ⟨hl,rfl⟩:=QJ e3
  cases e4
  obtain ⟨a,rfl,i,ro⟩:=RepV.refW W r e1
  obtain ⟨C,dx,xs,nc,e,rf⟩:=ro.ins
  obtain ⟨g,W'⟩:=QbE W i nc e (rf.put f rd)
  exact ⟨a,C,dx,xs,rfl,nc,e,by rw [<- rf.len];exact of_decide_eq_true hl,g,W'⟩
theorem QF (hk:Y3 X.K c f) (ho:DE X o fo) (hb:attributeBase o f X.env (eval o X.env) = eval o X.env:=by rfl):DE X (.Attribute o f pos) (QH c f fo) :=
  L2.PE.imp (QdW ho hb) fun σ H Q ⟨Z,env,ρ,B,hp,d,hp',S,e,k⟩=>by
    obtain ⟨x,hp1,e1,e2⟩:=Qf e
    refine tD.run S e1 fun v ρ1 B1 H1 g1 S1 r1=>?_
    obtain ⟨rfl,a,C,dx,xs,u,rfl,nc,ea,hl,ru⟩:=Gb S1.wo r1 e2
    obtain ⟨C',nc',cl,na⟩:=hk.ex
    obtain rfl:=nc.uniq nc'
    exact ⟨a,C,dx,xs,u,rfl,ea,cl,na,hl,k u ρ1 B1 H1 g1 S1.wo ru⟩
theorem Zj (hk:Y3 X.K c f) (ho:DE X o fo) (hv:DE X value fv) (hs:swapsWith value (some (.Attribute o f pos')) pos.line X.env = pure false:=by rfl):DS X (.Assign [.Attribute o f pos'] value pos) (Q9 c f fo fv) :=
  L2.PS.imp (Qea ho hv hs) fun D σ H ⟨Z,env,ρ,B,hp,fl,env',hp',S,e,k⟩=>by
    obtain ⟨y,hp1,e1,e⟩:=Qf e
    obtain ⟨x,hp2,e2,e⟩:=Qf e
    obtain ⟨z,hp3,e3,e⟩:=Qf e
    obtain ⟨q,rfl⟩:=Qi e
    cases q
    refine tD.run S e1 fun u ρ1 B1 H1 g1 S1 r1=>tD.run S1 e2 fun v ρ2 B2 H2 g2 S2 r2=>?_
    obtain ⟨a,C,dx,xs,rfl,nc,ea,hl,g,W⟩:=GI S2.wo r2 (RepV.grow S1.wo.rb g2 _ _ r1) e3
    obtain ⟨C',nc',cl,na⟩:=hk.ex
    obtain rfl:=nc.uniq nc'
    exact ⟨a,C,dx,xs,rfl,ea,cl,na,hl,k σ ρ2 B2 _ ((g1.trans (g2.trans g)).gs S.wo.rb) (S2.grow g W)⟩
theorem jY (hk:Y3 X.K c f) (ho:DE X o fo) (hv:DE X value fv):DS X (.AugAssign (.Attribute o f tpos) .Add value pos) (YN c f zY fo fv) :=
  L2.PS.imp (gX ho hv Qdw) fun D σ H ⟨Z,env,ρ,B,hp,fl,env',hp',S,e,k⟩=>by
    obtain ⟨x,hp1,e1,e⟩:=Qf e
    obtain ⟨v,hp2,e2,e⟩:=Qf e
    obtain ⟨y,hp3,e3,e⟩:=Qf e
    obtain ⟨z,hp4,e4,e⟩:=Qf e
    obtain ⟨_,hp5,e5,e⟩:=Qf e
    obtain ⟨q,rfl⟩:=Qi e
    cases q
    refine tD.run S e1 fun vx ρ1 B1 H1 g1 S1 r1=>?_
    obtain ⟨rfl,a,C,dx,xs,u,rfl,nc,ea,hl,ru⟩:=Gb S1.wo r1 e2
    obtain ⟨C',nc',cl,na⟩:=hk.ex
    obtain rfl:=nc.uniq nc'
    refine ⟨a,C,dx,xs,u,rfl,ea,cl,na,hl,tD.run S1 e3 fun w ρ2 B2 H2 g2 S2 r2=>?_⟩
    have ru2:=RepV.grow S1.wo.rb g2 _ _ ru
    have r12:=RepV.grow S1.wo.rb g2 _ _ r1
    unfold zY at e4
    split at e4
    . obtain ⟨rfl,rfl⟩:=Qi e4
      refine ⟨_,_,ru2.intI,r2.intI,?_⟩
      obtain ⟨a',C2,dx',xs',q1,nc2,ea',hl',g,W⟩:=GI S2.wo r12 JO e5
      cases q1
      obtain rfl:=nc2.uniq nc
      exact ⟨dx',xs',ea',hl',k σ ρ2 B2 _ ((g1.trans (g2.trans g)).gs S.wo.rb) (S2.grow g W)⟩
    . cases e4
theorem QaJ {C:Addr} {n:Nat} {F:List DV -> M DV} {fa:DAx} {σ:St} {H:Hp} {Q:VK} (nc:ClsN X.K c C) (h:tD X.K (QD c m n F fo fa) σ H Q):Qbw C m (spD X.K n F) [] E0 (tD X.K fo) (tDA X.K fa) σ H Q:=by
  obtain ⟨Z,env,ρ,B,hp,d,hp',S,e,k⟩:=h
  obtain ⟨x,hp1,e1,e⟩:=Qf e
  obtain ⟨_,hp2,e2,e⟩:=Qf e
  obtain ⟨ds,hp3,e3,e⟩:=Qf e
  obtain ⟨_,hp4,e4,ef⟩:=Qf e
  obtain ⟨hl,rfl⟩:=QJ e4
  refine tD.run S e1 fun v ρ1 B1 H1 g1 S1 r1=>?_
  obtain ⟨i,fs,rfl,w1,w2⟩:=ju e2
  obtain ⟨hn,rfl⟩:=QJ w2
  obtain ⟨a,rfl,_,ro⟩:=RepV.refW S1.wo r1 w1
  obtain ⟨C',dx,xs,nc',ea,rf⟩:=ro.ins
  obtain rfl:=nc'.uniq nc
  have hx:xs.lookup m = none:=by
    rcases rf.look m with ⟨_,z⟩ | ⟨_,_,z,_,_⟩
    . exact z
    . rw [z] at hn;cases hn
  refine ⟨a,dx,xs,rfl,ea,hx,tDA.run S1 e3 fun vs ρ2 B2 H2 g2 S2 r2=>?_⟩
  refine ⟨?_,ρ2,B2,hp3,_,d,hp',S2.wo,?_,ef,k.after (g1.trans g2)⟩
  . rw [List.append_nil,List.length_cons,<- r2.length];exact of_decide_eq_true hl
  . rw [List.append_nil];exact RepL.cons (RepV.grow S1.wo.rb g2 _ _ r1) r2
theorem Zo {k j n:Nat} {F:List DV -> M DV} {es:List Expr} {fa:DAx} {pl:Sem Bool} (h:X5 X.prog X.w X.K X.mg X.base c m j n F) (hr:Room k X.A) (hj:j <= k) (hx:Yu CX0 X E0) (ho:DE X o fo) (ha:DA X (e :: es) fa)
    (hst:starEach (e :: es) X.env = (false,eval e X.env) :: starEach es X.env:=by rfl) (hpl:(backTo pos (starEach es X.env)).any (·.1) = false:=by rfl)
    (ht:eval (.Call (.Attribute o m apos) (e :: es) [] pos) X.env = (do
      let ov <- eval o X.env
      standAt apos.atName
      let (f,first) <- holding [ov] (getMethod ov m pl)
      callWith pos f first (backTo pos (starEach (e :: es) X.env)) (backToKw pos (keywordEach [] X.env))):=by rfl):DE X (.Call (.Attribute o m apos) (e :: es) [] pos) (QD c m n F fo fa):=by
  obtain ⟨C,g,fd,ps,nc,cl,hm,F',hb⟩:=h.ex
  exact L2.PE.imp (Qci (pl:=pl) ho cl hm F' (hr.mono hj) hb .nil hx ha hst hpl ht) fun σ H Q q=>QaJ nc q
theorem ZB {k j n:Nat} {F:List DV -> M DV} {pl:Sem Bool} (h:X5 X.prog X.w X.K X.mg X.base c m j n F) (hr:Room k X.A) (hj:j <= k) (hx:Yu CX0 X E0) (ho:DE X o fo)
    (ht:eval (.Call (.Attribute o m apos) [] [] pos) X.env = (do
      let ov <- eval o X.env
      standAt apos.atName
      let (f,first) <- holding [ov] (getMethod ov m pl)
      callWith pos f first (backTo pos (starEach [] X.env)) (backToKw pos (keywordEach [] X.env))):=by rfl):DE X (.Call (.Attribute o m apos) [] [] pos) (QD c m n F fo Qm):=by
  obtain ⟨C,g,fd,ps,nc,cl,hm,F',hb⟩:=h.ex
  refine L2.PE.imp (QaZ (pl:=pl) ho cl hm F' (hr.mono hj) hb .nil hx ht) fun σ H Q q=>?_
  obtain ⟨Z,env,ρ,B,hp,d,hp',S,e,k⟩:=q
  obtain ⟨x,hp1,e1,e⟩:=Qf e
  obtain ⟨_,hp2,e2,e⟩:=Qf e
  obtain ⟨ds,hp3,e3,e⟩:=Qf e
  obtain ⟨_,hp4,e4,ef⟩:=Qf e
  obtain ⟨hl,rfl⟩:=QJ e4
  obtain ⟨rfl,rfl⟩:=Qi e3
  refine tD.run S e1 fun v ρ1 B1 H1 g1 S1 r1=>?_
  obtain ⟨i,fs,rfl,w1,w2⟩:=ju e2
  obtain ⟨hn,rfl⟩:=QJ w2
  obtain ⟨a,rfl,_,ro⟩:=RepV.refW S1.wo r1 w1
  obtain ⟨C',dx,xs,nc',ea,rf⟩:=ro.ins
  obtain rfl:=nc'.uniq nc
  have hx:xs.lookup m = none:=by
    rcases rf.look m with ⟨_,z⟩ | ⟨_,_,z,_,_⟩
    . exact z
    . rw [z] at hn;cases hn
  exact ⟨a,dx,xs,rfl,ea,hx,of_decide_eq_true hl,ρ1,B1,hp1,_,d,hp',S1.wo,RepL.cons r1 RepL.nil,ef,k.after g1⟩
theorem g9 {k:Nat} {C g:Addr} {fd:FuncData} {ps:List Str} {sp:Sp} {pins:List (Addr × Obj)} {σ:St} {H:Hp} {s:Shared} {Q:VK} {us:List Value} {vs:List V} (M:Mk X.K C g) (F:qC X.prog X.w X.K X.mg X.base CX0 k g fd ps sp) (hr:Room (k + 1) X.A) (hb:Binds X.K fd ps [])
    (hx:Yu CX0 X E0) (I:Inv X pins σ H s) (r:Vals vs us)
    (h:∀ x dx,H x = none -> H dx = none -> dx ≠ x -> X.K.lookup x = none -> sp (.ref x :: vs) (upd (upd H dx (.own x)) x (.ins C dx [])) (fun v H2=>v = .non /\ Q (.ref x) H2) E0) :
    wpAny (model X.prog X.w) X.A (call (.ref C) us) (EP X pins σ Q) X.xe s:=by
  have kf:X.K.lookup (s.heap.objs.size + 1) = none:=by
    cases q:X.K.lookup (s.heap.objs.size + 1) with
    | none=>rfl
    | some o=>exact absurd (Heap.lt_size (I.kIn _ _ q)) (Nat.not_lt.mpr (Nat.le_succ _))
  have hq:=h _ _ (I.hok.fresh (Nat.le_succ _)) (I.hok.fresh (Nat.le_refl _)) (Nat.ne_of_lt (Nat.lt_succ_self _)) kf
  have J:=Inv.made (C:=C) I
  have rr:Vals (V.ref (s.heap.objs.size + 1) :: vs) (Value.ref (s.heap.objs.size + 1) :: us):=.cons rfl r
  have ll:((Value.ref (s.heap.objs.size + 1) :: us) ++ []).length = ps.length:=by
    rw [List.append_nil,<- rr.length];exact F.len _ _ _ _ hq
  have bb:=hb _ (Value.ref (s.heap.objs.size + 1) :: us) J.kIn ll
  rw [List.append_nil] at bb
  refine wpAny_call (QaH (f:=g) I.kIn M.makes M.init (beq_iff_eq.mp M.fn) (codeAny_mono (F.run _ X.stack _ _ ⟨Value.ref (s.heap.objs.size + 1) :: us,[]⟩ _ _ _ E0 (hr.make C us []) (J.env0.make C us []) bb rr hq) fun q s' z=>?_))
  cases q with
  | error e=>exact hx pins σ _ _ e s' J z
  | ok fl =>
    cases fl with
    | ret u =>
      obtain ⟨v,H',I3,rv,ev,q3⟩:=J.after z
      subst ev
      exact ⟨rv,⟨V.ref (s.heap.objs.size + 1),H',I3,rfl,q3⟩⟩
    | next=>exact z.elim
    | brk=>exact z.elim
    | cont=>exact z.elim
theorem QaG {C:Addr} {n:Nat} {F:List DV -> M DV} {vs:List V} {K:PySem.W.Frag} {ρ:List Addr} {B:Addr -> Prop} {hp hp':Hs} {H:Hp} {ds:List DV} {d:DV} {Q:VK} (nc:ClsN K c C) (hl:ds.length + 1 = n) (W:WOk K ρ B hp H) (r:RepL K ρ B H ds vs)
    (e:(do let x <- Y5 (.ins c []);let r <- F (x :: ds);match r with | .non=>pure x | _=>failure:M DV) hp = some (d,hp')) (k:Fol K ρ B H d hp' Q) :
    ∀ x dx,H x = none -> H dx = none -> dx ≠ x -> K.lookup x = none -> spD K n F (.ref x :: vs) (upd (upd H dx (.own x)) x (.ins C dx [])) (fun v H2=>v = .non /\ Q (.ref x) H2) E0:=by
  intro x dx hx hdx ne kf
  have e1:F (.ref hp.length :: ds) (hp ++ [.ins c []]) = some (.non,hp') /\ d = .ref hp.length:=by
    obtain ⟨y,hp1,a1,a2⟩:=Qf e
    cases a1
    obtain ⟨y,hp2,a3,a4⟩:=Qf a2
    cases y with
    | non=>obtain ⟨rfl,rfl⟩:=Qi a4;exact ⟨a3,rfl⟩
    | bl _=>cases a4
    | int _=>cases a4
    | str _=>cases a4
    | tup _=>cases a4
    | lst _=>cases a4
    | ref _=>cases a4
  obtain ⟨e1,rfl⟩:=e1
  have hx':upd H dx (.own x) x = none:=by rw [QU (Ne.symm ne)];exact hx
  have g0:Gr K ρ B H ρ B (upd H dx (.own x)):=Gr.laid hdx
  have g1:Gr K ρ B (upd H dx (.own x)) (ρ ++ [x]) (xU B x) (upd (upd H dx (.own x)) x (.ins C dx [])):=Gr.wnew hx' kf
  have W1:WOk K (ρ ++ [x]) (xU B x) (hp ++ [.ins c []]) (upd (upd H dx (.own x)) x (.ins C dx [])):=(W.laid hdx).wnew hx' kf (RepF.orep nc .nil Zh)
  have rx:RepV K (ρ ++ [x]) (xU B x) (upd (upd H dx (.own x)) x (.ins C dx [])) (.ref hp.length) (.ref x):=by
    unfold RepV
    exact ⟨x,rfl,by rw [<- W.len];simp⟩
  refine ⟨?_,ρ ++ [x],xU B x,hp ++ [.ins c []],.ref hp.length :: ds,.non,hp',W1,RepL.cons rx (RepL.grow W.rb (g0.trans g1) _ _ r),e1,fun v ρ' B' H' g' W' r'=>?_⟩
  . rw [List.length_cons,<- r.length];exact hl
  . exact ⟨r'.nonI,k _ ρ' B' H' ((g0.trans g1).trans g') W' (RepV.grow W1.rb g' _ _ rx)⟩
theorem yh {k j n:Nat} {F:List DV -> M DV} {es:List Expr} {fa:DAx} {p:Pos} (h:kF X.prog X.w X.K X.mg X.base c j n F) (hr:Room k X.A) (hj:j + 1 <= k) (hx:Yu CX0 X E0) (ha:DA X (e :: es) fa) (hg:Gl X c:=by rfl)
    (hdb:(c == ("__debug__" : Str)) = false:=by decide) (he:starEach (e :: es) X.env = (false,eval e X.env) :: starEach es X.env:=by rfl) (hpl:(backTo pos (starEach es X.env)).any (·.1) = false:=by rfl):DE X (.Call (.Name c p) (e :: es) [] pos) (JS c n F fa):=by
  obtain ⟨C,g,fd,ps,nc,hm,M,F',hb⟩:=h.ex
  intro pins s σ H Q I q
  obtain ⟨Z,env,ρ,B,hp,d,hp',S,e,k⟩:=q
  obtain ⟨ds,hp1,e1,e2⟩:=Qf e
  obtain ⟨_,hp2,e3,e4⟩:=Qf e2
  obtain ⟨hl,rfl⟩:=QJ e3
  refine wpAny_Call_Name_kw (Kf I hg hm ?_ hdb)
  refine PySem.W.callWith_K (h₀:=X.base) I.ok.mod.kin M.kp (thn (ha pos pins s σ H _ I (tDA.run S e1 fun vs ρ1 B1 H1 g1 S1 r1=>QaG (Q:=Q) nc (of_decide_eq_true hl) S1.wo r1 e4 (k.after g1))) fun us s1 ⟨vs,H1,I1,r,q⟩=>⟨I1.kIn,?_⟩) he hpl
  exact g9 M F' (hr.mono hj) hb hx I1 r q
end
theorem Qal {P:Program} {w:World} {K:PySem.W.Frag} {mg:Str -> Option Value} {base:Heap} {x qual:Str} {stm:Stmt} {g:Addr} {fd:FuncData} {N ps:List Str} {k:Nat} {body:DSx} (F:Fun K x qual stm g fd) (Sc:Qv N ps (Qp stm))
    (h:∀ (cdv:Value) (A:Around) (outer:List Env) (s:Shared) (H:Hp) (E:XK),Room k (A.deeper (envOfC qual (Qp stm) s.heap.objs.size g cdv)) -> DSs (xW CX0 P w K mg base N qual (Qp stm) g cdv A outer s H E).nox (ZD stm) body) :
    qC P w K mg base CX0 (k + 1) g fd ps (spD K ps.length (Q7 N.length body)):=by
  refine F.ok Sc (fun vs H Q E h=>h.1) (fun cdv A outer s H vs Q E hr sp=>?_)
  obtain ⟨hn,ρ,B,hp,ds,d,hp',W,r,e,k⟩:=sp
  obtain ⟨⟨fl,env'⟩,hp1,e1,e2⟩:=Qf e
  refine ⟨_,h cdv A outer s H E hr,⟨ρ,B,H⟩,_,ρ,B,hp,fl,env',hp1,xk W r,e1,fun σ' ρ' B' H' g' S'=>?_⟩
  cases fl with
  | nx=>obtain ⟨rfl,rfl⟩:=Qi e2;exact k .non ρ' B' H' S'.gr S'.wo zg
  | rt x=>obtain ⟨rfl,rfl⟩:=Qi e2;exact fun v rv=>k v ρ' B' H' S'.gr S'.wo rv
  | bk=>cases e2
  | ct=>cases e2
theorem QaI {P:Program} {w:World} {K:PySem.W.Frag} {mg:Str -> Option Value} {base:Heap} {c m qual:Str} {stm:Stmt} {C g:Addr} {fd:FuncData} {N ps:List Str} {k:Nat} {body:DSx} (nc:ClsN K c C) (cl:Cls K C) (me:G0 K C m g) (F:Fun K m qual stm g fd) (Sc:Qv N ps (Qp stm))
    (hb:∀ (kV doc pm:Value) (an:Option Addr) (cdv ct:Value) (us:List Value),us.length = ps.length -> bindArgs (PySem.W.fnOf m qual (JJ stm) (ZD stm) (Qp stm) .none kV doc pm an cdv ct) ⟨us,[]⟩ = pure (ps.zip us))
    (h:∀ (cdv:Value) (A:Around) (outer:List Env) (s:Shared) (H:Hp) (E:XK),Room k (A.deeper (envOfC qual (Qp stm) s.heap.objs.size g cdv)) -> DSs (xW CX0 P w K mg base N qual (Qp stm) g cdv A outer s H E).nox (ZD stm) body) :
    X5 P w K mg base c m (k + 1) ps.length (Q7 N.length body):=⟨C,g,fd,ps,nc,cl,me,Qal F Sc h,F.binds hb⟩
theorem Qar {P:Program} {w:World} {K:PySem.W.Frag} {mg:Str -> Option Value} {base:Heap} {c qual:Str} {stm:Stmt} {C g:Addr} {fd:FuncData} {N ps:List Str} {k:Nat} {body:DSx} (nc:ClsN K c C) (hm:mg c = some (.ref C)) (me:Mk K C g) (F:Fun K "__init__" qual stm g fd) (Sc:Qv N ps (Qp stm))
    (hb:∀ (kV doc pm:Value) (an:Option Addr) (cdv ct:Value) (us:List Value),us.length = ps.length -> bindArgs (PySem.W.fnOf "__init__" qual (JJ stm) (ZD stm) (Qp stm) .none kV doc pm an cdv ct) ⟨us,[]⟩ = pure (ps.zip us))
    (h:∀ (cdv:Value) (A:Around) (outer:List Env) (s:Shared) (H:Hp) (E:XK),Room k (A.deeper (envOfC qual (Qp stm) s.heap.objs.size g cdv)) -> DSs (xW CX0 P w K mg base N qual (Qp stm) g cdv A outer s H E).nox (ZD stm) body) :
    kF P w K mg base c (k + 1) ps.length (Q7 N.length body):=⟨C,g,fd,ps,nc,hm,me,Qal F Sc h,F.binds hb⟩
section
variable {X:Cx}
def Qdd:DSx:=fun _=>failure
theorem QbR {st:Stmt}:DS X st Qdd:=L2.PS.imp Qa8 fun D σ H ⟨Z,env,ρ,B,hp,fl,env',hp',S,e,k⟩=>by cases e
def Kv (i:Nat) (op:DV -> DV -> M DV) (fe:DEx):DSx:=fun env=>do let v <- Qd i env;let y <- fe env;let z <- op v y;pure (.nx,env.set i (.val z))
end
end D
namespace D
open PySem PySem.Spec PyProof.Rows L2
theorem ZG {α β:Type} (m:M α) (k:α -> M β) (hp:Hs):(m >>= k) hp = (m hp).bind fun p=>k p.1 p.2:=by
  show (StateT.bind m k hp) = _
  unfold StateT.bind
  cases m hp with
  | none=>rfl
  | some p=>obtain ⟨a,h⟩:=p;rfl
theorem XS {α β:Type} (f:α -> β) (m:M α) (hp:Hs):(f <$> m) hp = (m hp).map fun p=>(f p.1,p.2):=by
  show (StateT.map f m hp) = _
  unfold StateT.map
  cases m hp with
  | none=>rfl
  | some p=>obtain ⟨a,h⟩:=p;rfl
theorem JF {α:Type} (a:α) (hp:Hs):(pure a:M α) hp = some (a,hp):=rfl
theorem Xb {α:Type} (hp:Hs):(failure:M α) hp = none:=rfl
theorem JP (b:Bool) (hp:Hs):QB b hp = if b = true then some ((),hp) else none:=by cases b <;> rfl
theorem XR (n:Nat) (hp:Hs):Jz n hp = (hp[n]?).map fun o=>(o,hp):=by unfold Jz;cases hp[n]? <;> rfl
theorem XU (n:Nat) (o:OV) (hp:Hs):xo n o hp = some ((),hp.set n o):=rfl
theorem XT (o:OV) (hp:Hs):Y5 o hp = some (.ref hp.length,hp ++ [o]):=rfl
theorem Zn (hp:Hs) (k:Nat) (X:OV) (h:(hp[k]?).isSome = true):(hp.set k X)[k]? = some X:=by
  have:k < hp.length:=by
    rcases Nat.lt_or_ge k hp.length with q | q
    . exact q
    . rw [List.getElem?_eq_none q] at h;cases h
  rw [List.getElem?_set_self this]
theorem Q6 (hp:Hs) (k n:Nat) (X:OV) (h:k ≠ n):(hp.set k X)[n]? = hp[n]?:=List.getElem?_set_ne h
theorem Jo (hp:Hs) (X:OV):(hp ++ [X])[hp.length]? = some X:=by simp
end D
namespace D
open PySem PySem.Spec PyProof.Rows L2
mutual
def KRep (K:PySem.W.Frag):DV -> V -> Prop
  | .non,v=>v = .non
  | .bl b,v=>v = .bl b
  | .int i,v=>v = .int i
  | .str x,v=>v = .str x
  | .tup ds,v=>∃ (a:Addr) (o:Obj) (its:Array Value) (n:Nat) (xs:List V),v = .ref a /\ K.lookup a = some o /\ o.cls = .type "tuple" /\ o.data = .seq its n /\ its.size <= sizeLine /\ Vals xs its.toList /\ KRepL K ds xs
  | _,_=>False
def KRepL (K:PySem.W.Frag):List DV -> List V -> Prop
  | [],xs=>xs = []
  | d :: ds,xs=>∃ x r,xs = x :: r /\ KRep K d x /\ KRepL K ds r
end
mutual
theorem KRep.rep {K:PySem.W.Frag} {ρ:List Addr} {B:Addr -> Prop} {H:Hp} (hb:∀ a,B a -> K.lookup a = none):∀ (d:DV) (v:V),KRep K d v -> RepV K ρ B H d v
  | .non,_,h=>by unfold KRep at h;unfold RepV;exact h
  | .bl _,_,h=>by unfold KRep at h;unfold RepV;exact h
  | .int _,_,h=>by unfold KRep at h;unfold RepV;exact h
  | .str _,_,h=>by unfold KRep at h;unfold RepV;exact h
  | .lst _,_,h=>by unfold KRep at h;exact h.elim
  | .ref _,_,h=>by unfold KRep at h;exact h.elim
  | .tup ds,_,h=>by
    unfold KRep at h;unfold RepV
    obtain ⟨a,o,its,n,xs,rfl,h1,h2,h3,h4,h5,h6⟩:=h
    exact ⟨a,xs,rfl,fun z=>(by rw [hb a z] at h1;cases h1),.inr ⟨o,its,n,h1,h2,h3,h4,h5⟩,KRepL.rep hb ds xs h6⟩
theorem KRepL.rep {K:PySem.W.Frag} {ρ:List Addr} {B:Addr -> Prop} {H:Hp} (hb:∀ a,B a -> K.lookup a = none):∀ (ds:List DV) (xs:List V),KRepL K ds xs -> RepL K ρ B H ds xs
  | [],_,h=>by unfold KRepL at h;unfold RepL;exact h
  | d :: ds,_,h=>by
    unfold KRepL at h;unfold RepL
    obtain ⟨x,r,e,h1,h2⟩:=h
    exact ⟨x,r,e,KRep.rep hb d x h1,KRepL.rep hb ds r h2⟩
end
theorem vz {K:PySem.W.Frag} {ds:List DV} {a:Addr} {od:Option Addr} {its:Array Value} {n:Nat} {sl:Array (Option Value)} {xs:List V} (h:K.lookup a = some ⟨.type "tuple", od,.seq its n,sl⟩) (hs:its.size <= sizeLine) (hv:Vals xs its.toList) (hl:KRepL K ds xs):KRep K (.tup ds) (.ref a):=by
  unfold KRep;exact ⟨a,_,its,n,xs,rfl,h,rfl,rfl,hs,hv,hl⟩
theorem Qax {K:PySem.W.Frag}:KRep K .non .non:=by unfold KRep;rfl
theorem QdE {K:PySem.W.Frag} {i:Int}:KRep K (.int i) (.int i):=by unfold KRep;rfl
theorem Kb {K:PySem.W.Frag}:KRepL K [] []:=by unfold KRepL;rfl
theorem qM {K:PySem.W.Frag} {d:DV} {ds:List DV} {x:V} {r:List V} (h:KRep K d x) (h':KRepL K ds r):KRepL K (d :: ds) (x :: r):=by unfold KRepL;exact ⟨x,r,rfl,h,h'⟩
theorem QbO {X:Cx} {x:Str} {ds:List DV} {a:Addr} {pos:Pos} (hg:Gl X x) (hm:X.mg x = some (.ref a)) (hk:KRep X.K (.tup ds) (.ref a)) (hd:(x == ("__debug__" : Str)) = false:=by decide):DE X (.Name x pos) (eC (.tup ds)) :=
  (uM (v:=.ref a) hg hm rfl hd).imp fun σ H Q ⟨Z,env,ρ,B,hp,d',hp',S,e,k⟩=>by
    obtain ⟨rfl,rfl⟩:=Qi e
    exact k _ ρ B H Gr.refl S.wo (KRep.rep S.wo.bk _ _ hk)
end D
namespace D
open PySem PySem.Spec PyProof.Rows L2
theorem QbX {b:DV -> DSx} {d:DV} {ds:List DV} {env env1:En} {hp hp1:Hs} (h:b d env hp = some ((.nx,env1),hp1)):Yx b (d :: ds) env hp = Yx b ds env1 hp1:=by
  rw [Yx,Qg h]
theorem Qam (hp:Hs) (x:OV) (t:Hs):(hp ++ x :: t)[hp.length]? = some x:=by simp
theorem Qbi (hp:Hs) (x y:OV) (t:Hs):(hp ++ x :: t).set hp.length y = hp ++ y :: t:=by
  rw [List.set_append_right _ _ (Nat.le_refl _)];simp
theorem QcK {hp:Hs} {n:Nat} {x:OV} (h:hp[n]? = some x):hp.set n x = hp:=by
  obtain ⟨hl,rfl⟩:=List.getElem?_eq_some_iff.mp h
  exact List.set_getElem_self hl
theorem Xp {n i:Nat} {d:DV} (h:(QW 0 n)[i]? = some d):i < n /\ d = .int (i:Int):=by
  obtain ⟨h1,h2⟩:=vP h
  exact ⟨h1,by rw [h2];simp⟩
theorem ko {n:Nat} (h:n <= 1000000):Vv (n:Int) = true:=Qbp (by omega) (by omega)
theorem yX {i:Int} (h:0 <= i):∃ j:Nat,i = j:=⟨i.toNat,by omega⟩
theorem uE {n i:Nat} (h:i < n):ixN n (i:Int) = some i:=by unfold ixN;rw [if_pos (by omega),if_pos (by omega)];simp
theorem zT {f:DXx} {g:DGx} {body:DSx} {env:En} {hp hp1:Hs} {ds:List DV} {r:(Fl × En) × Hs} (h:f env hp = some (nxD ds,hp1)) (h':jl (nxD ds) (fun d env=>do let env' <- g d env;body env') 100000 0 env hp1 = some r):Uk f g body env hp = some r:=by
  unfold Uk
  rw [Qg h];exact h'
theorem J4 {f:DIx} {g:DGx} {body:DSx} {env:En} {hp hp1:Hs} {ds:List DV} {r:(Fl × En) × Hs} (h:f env hp = some (ds,hp1)) (h':Yx (fun d env=>do let env' <- g d env;body env') ds env hp1 = some r):Vf f g body env hp = some r:=by
  unfold Vf
  rw [Qg h];exact h'
theorem QcE {m:Nat} (h:m <= 1000000) (hp:Hs):gY [.int (m:Int)] hp = some (QW 0 m,hp):=by
  have e:gY [.int (m:Int)] = pure (QW 0 (m:Int).toNat):=by
    simp only [gY,ko h,QB,if_true,pure_bind]
  rw [e,Int.toNat_natCast];rfl
theorem XN {f:DAx} {env:En} {hp hp1:Hs} {m:Nat} (h:f env hp = some ([.int (m:Int)],hp1)) (hm:m <= 1000000):zo f env hp = some (QW 0 m,hp1):=by
  unfold zo
  rw [Qg h];exact QcE hm hp1
theorem jO {f:DEx} {env:En} {hp hp1:Hs} {ds:List DV} (h:f env hp = some (.lst ds,hp1)):xLs f env hp = some (nxD ds,hp1):=by
  unfold xLs
  rw [Qg h];rfl
end D
namespace D
open PySem PySem.Spec PyProof.Rows L2
section
variable {X:Cx}
def jt (x:DV):List DV -> M DV
  | [y]=>onL x fun n ds=>onL y fun _ es=>do QB (decide (ds.length + es.length <= lim));xo n (.lst (ds ++ es));pure .non
  | _=>failure
theorem QaF:MtR X "list.extend" (tPm X.K jt):=by
  intro pins s σ H x vs v us Q I rx rv h
  obtain ⟨ρ,B,hp,dx,es,d,hp',W,r1,r2,e,k⟩:=h
  unfold jt at e
  split at e
  . rename_i y
    obtain ⟨n,ds,rfl,h0,e⟩:=y8 e
    obtain ⟨m,zs,rfl,h0',e⟩:=y8 e
    obtain ⟨_,hp1,e1,e2⟩:=Qf e
    obtain ⟨hl,rfl⟩:=QJ e1
    cases e2
    obtain ⟨a,rfl,i1,xs,h1,l1⟩:=RepV.refW W r1 h0
    obtain ⟨w,rfl,rw'⟩:=r2.oneI
    obtain ⟨b,rfl,i2,ys,h2,l2⟩:=RepV.refW W rw' h0'
    obtain ⟨g,W'⟩:=VD W i1 h1 (RepL.append l1 l2)
    exact gK pins s σ H _ _ v us Q I rx rv ⟨a,b,xs,ys,rfl,rfl,h1,h2,by rw [<- l1.length,<- l2.length];exact Nat.le_trans (of_decide_eq_true hl) Kg,k _ ρ B _ g W' zg⟩
  . cases e
end
end D
namespace L2
open PySem PySem.Spec PyProof.Rows
abbrev XH (h:Heap) (z p o:Addr) (f:Value) (b:Bool):Prop:=h.get? z = some { cls:=Value.type "zip", data:=Data.fields #[f,Value.bool b,Value.bool false,Value.ref p,Value.ref o] }
structure ZU (h:Heap) (z p o i j a b:Addr) (n:Nat):Prop where
  zz:∃ f fl,XH h z p o f fl /\ (f = .none ∨ ∃ T:Nat,f = rawInt T)
  pp:IsPair h p (.ref i) (.ref j)
  oo:∃ x y,IsPair h o x y
  ii:h.IsTupleIter i a n
  jj:h.IsTupleIter j b n
section
variable {prog:Program} {w:World} {A:Around} {E:Value -> Shared -> Prop} {s:Shared}
theorem GX {a:Addr} {Q:Option Obj -> Shared -> Prop} (h:Q (s.heap.get? a) s):wpAny (model prog w) A (loadIfAlive a) Q E s:=by
  intro Γ p hΓ
  unfold loadIfAlive
  rw [Sem.wp_loadIfAlive]
  exact wpAny_pure (M:=model prog w) (A:=A) (E:=E) h Γ p hΓ
theorem uW {z p o:Addr} {f:Value} {fl:Bool} {Q:Bool -> Shared -> Prop} (zz:XH s.heap z p o f fl) (hf:f = .none ∨ ∃ T:Nat,f = rawInt T) (q1:Q true s) (q2:∀ g,XH g z p o f true -> Heap.ExtBut z s.heap g -> g.objs.size = s.heap.objs.size -> Q false { s with heap:=g }) :
    wpAny (model prog w) A (Builtin.SmallTypes.ownedTupleIsFree (.ref z)) Q E s:=by
  unfold Builtin.SmallTypes.ownedTupleIsFree
  rcases hf with rfl | ⟨T,rfl⟩
  . exact wpAny_bind (wpAny_field zz rfl (x:=.none) rfl (wpAny_pure q1))
  . refine wpAny_bind (wpAny_field zz rfl (x:=rawInt T) rfl ?_)
    show wpAny _ _ (loadIfAlive (T:Int).toNat >>= _) _ _ _
    refine wpAny_bind (GX ?_)
    cases hT:s.heap.get? (T:Int).toNat with
    | none=>exact wpAny_pure q1
    | some ob =>
      show wpAny _ _ (field (.ref z) 1 >>= _) _ _ _
      refine wpAny_bind (wpAny_field zz rfl (x:=.bool fl) rfl ?_)
      cases fl with
      | true=>exact wpAny_pure (q2 _ zz (fun _ _ _ e=>e) rfl)
      | false =>
        show wpAny _ _ (setField (.ref z) 1 (.bool true) >>= _) _ _ _
        exact wpAny_bind (wpAny_setField_rec zz (by simp) fun g z1 k1=>wpAny_pure (q2 g z1 k1.extBut k1.1))
theorem QcZ {z p o i j a b:Addr} {n:Nat} {xs ys:Array Value} {x y:Value} {Q:Value -> Shared -> Prop} (D:ZA z p o i j a b) (S:ZU s.heap z p o i j a b n) (ha:s.heap.IsTuple a xs) (hb:s.heap.IsTuple b ys) (hx:xs[n]? = some x) (hy:ys[n]? = some y)
    (k:∀ g,ZU g z p o i j a b (n + 1) -> IsPair g s.heap.objs.size x y -> g.objs.size = s.heap.objs.size + 1 -> (∀ c u,c ≠ z -> c ≠ o -> c ≠ i -> c ≠ j -> s.heap.get? c = some u -> g.get? c = some u) -> Q (.ref s.heap.objs.size) { s with heap:=g }) :
    wpAny (model prog w) A (Builtin.«zip.__next__» ⟨[.ref z],[]⟩) (fun fin s'=>∃ v,fin = .done (.ret v) /\ Q v s') E s:=by
  obtain ⟨⟨f,fl,zz,hf⟩,pp,⟨u1,u2,oo⟩,ii,jj⟩:=S
  have ht:∀ {g g':Heap} {q c:Addr} {vs:Array Value},Heap.SameBut q g g' -> c ≠ q -> g.IsTuple c vs -> g'.IsTuple c vs:=fun {g g' q c vs} sb hc ⟨ob,e,r⟩=>⟨ob,sb.extBut _ _ hc e,r⟩
  show wpAny _ _ (field (.ref z) 2 >>= _) _ _ _
  refine wpAny_bind (wpAny_field zz rfl (x:=.bool false) rfl ?_)
  show wpAny _ _ (field (.ref z) 3 >>= _) _ _ _
  refine wpAny_bind (wpAny_field zz rfl (x:=.ref p) rfl ?_)
  refine wpAny_bind (wpAny_seqItems pp rfl ?_)
  show wpAny _ _ (Builtin.SmallTypes.ownedTupleIsFree (.ref z) >>= _) _ _ _
  refine wpAny_bind (uW zz hf ?_ ?_)
  . simp only [if_true]
    refine wpAny_bind (wpAny_rule ?_)
    refine wpAny_bind (wpAny_field zz rfl (x:=.ref o) rfl ?_)
    refine wpAny_bind (wpAny_setField_rec zz (by simp) fun g1 z1 k1=>?_)
    replace z1:XH g1 z p o .ellipsis fl:=z1
    refine wpAny_bind ?_
    simp only [List.zipIdx_cons,List.zipIdx_nil,List.forIn_cons,List.forIn_nil]
    refine wpAny_bind (wpAny_bind (wpAny_onRaise ?_))
    show wpAny _ _ (Builtin.SmallTypes.nextOf (.ref i) >>= _) _ _ _
    refine wpAny_bind (XW (ii.extBut k1.extBut D.iz) (ht k1 D.az ha) hx fun g2 i2 k2=>wpAny_pure ?_)
    have o2:IsPair g2 o u1 u2:=k2.extBut _ _ D.oi (k1.extBut _ _ D.oz oo)
    refine wpAny_bind (wpAny_seqItems o2 rfl ?_)
    refine wpAny_bind (wpAny_updateSeq_pair o2 fun g3 o3 k3=>?_)
    replace o3:IsPair g3 o x u2:=o3
    refine wpAny_bind (wpAny_letGo (wpAny_pure ?_))
    refine wpAny_bind (wpAny_bind (wpAny_onRaise ?_))
    show wpAny _ _ (Builtin.SmallTypes.nextOf (.ref j) >>= _) _ _ _
    refine wpAny_bind (XW (((jj.extBut k1.extBut D.jz).extBut k2.extBut D.ij.symm).extBut k3.extBut D.oj.symm) (ht k3 D.bo (ht k2 D.bi (ht k1 D.bz hb))) hy fun g4 j4 k4=>wpAny_pure ?_)
    have o4:IsPair g4 o x u2:=k4.extBut _ _ D.oj o3
    refine wpAny_bind (wpAny_seqItems o4 rfl ?_)
    refine wpAny_bind (wpAny_updateSeq_pair o4 fun g5 o5 k5=>?_)
    replace o5:IsPair g5 o x y:=o5
    refine wpAny_bind (wpAny_letGo (wpAny_pure (wpAny_pure ?_)))
    refine wpAny_bind (wpAny_seqItems o5 rfl ?_)
    refine wpAny_bind (wpAny_newTuple ?_)
    have sz:g5.objs.size = s.heap.objs.size:=by rw [k5.1,k4.1,k3.1,k2.1,k1.1]
    have z5:XH g5 z p o .ellipsis fl:=k5.extBut _ _ D.oz.symm (k4.extBut _ _ D.jz.symm (k3.extBut _ _ D.oz.symm (k2.extBut _ _ D.iz.symm z1)))
    have kk:∀ c u,c ≠ z -> c ≠ o -> c ≠ i -> c ≠ j -> s.heap.get? c = some u -> g5.get? c = some u:=fun c u c1 c2 c3 c4 e=>k5.extBut _ _ c2 (k4.extBut _ _ c4 (k3.extBut _ _ c2 (k2.extBut _ _ c3 (k1.extBut _ _ c1 e))))
    have i5:g5.IsTupleIter i a (n + 1):=((i2.extBut k3.extBut D.oi.symm).extBut k4.extBut D.ij).extBut k5.extBut D.oi.symm
    have j5:g5.IsTupleIter j b (n + 1):=j4.extBut k5.extBut D.oj.symm
    have zl:z < g5.objs.size:=Heap.lt_size z5
    show wpAny _ _ (Builtin.SmallTypes.ownedTupleHandOut (.ref z) (.ref g5.objs.size) >>= _) _ _ _
    refine wpAny_bind ?_
    unfold Builtin.SmallTypes.ownedTupleHandOut
    have z6:XH (g5.push { cls:=.type "tuple", data:=.seq #[x,y] }) z p o .ellipsis fl:=Heap.get?_push_of_some _ z5
    refine wpAny_bind (wpAny_setField_rec z6 (by simp) fun g7 z7 k7=>?_)
    replace z7:XH g7 z p o (rawInt g5.objs.size) fl:=z7
    refine wpAny_setField_rec z7 (by simp) fun g8 z8 k8=>?_
    replace z8:XH g8 z p o (rawInt g5.objs.size) false:=z8
    have up:∀ c u,c ≠ z -> g5.get? c = some u -> g8.get? c = some u:=fun c u c1 e=>k8.extBut _ _ c1 (k7.extBut _ _ c1 (Heap.get?_push_of_some _ e))
    have t8:IsPair g8 g5.objs.size x y:=k8.extBut _ _ (Nat.ne_of_gt zl) (k7.extBut _ _ (Nat.ne_of_gt zl) (Heap.get?_push_size _ rfl))
    have s8:g8.objs.size = g5.objs.size + 1:=by rw [k8.1,k7.1,Heap.size_push]
    refine wpAny_pure ⟨_,rfl,?_⟩
    show Q (.ref g5.objs.size) _
    rw [sz] at z8 t8 s8
    rw [sz]
    exact k g8 ⟨⟨_,_,z8,.inr ⟨_,rfl⟩⟩,up _ _ D.pz (kk _ _ D.pz D.po D.pi D.pj pp),⟨x,y,up _ _ D.oz o5⟩,i5.at fun u e=>up _ u D.iz e,j5.at fun u e=>up _ u D.jz e⟩ t8 s8 fun c u c1 c2 c3 c4 e=>up c u c1 (kk c u c1 c2 c3 c4 e)
  . intro g1 z1 k1 sz1
    simp only [Bool.false_eq_true,if_false]
    refine wpAny_bind ?_
    have ia1:g1.IsTuple a xs:=let ⟨ob,e,r⟩:=ha;⟨ob,k1 _ _ D.az e,r⟩
    have ib1:g1.IsTuple b ys:=let ⟨ob,e,r⟩:=hb;⟨ob,k1 _ _ D.bz e,r⟩
    simp only [List.forIn_toArray,List.forIn_cons,List.forIn_nil]
    refine wpAny_bind (wpAny_bind (wpAny_holding ?_))
    show wpAny _ _ (Builtin.SmallTypes.nextOf (.ref i) >>= _) _ _ _
    refine wpAny_bind (XW (s:={ s with heap:=g1 }) (ii.extBut k1 D.iz) ia1 hx fun g2 i2 k2=>wpAny_pure (wpAny_pure ?_))
    refine wpAny_bind (wpAny_bind (wpAny_holding ?_))
    show wpAny _ _ (Builtin.SmallTypes.nextOf (.ref j) >>= _) _ _ _
    refine wpAny_bind (XW (s:={ s with heap:=g2 }) ((jj.extBut k1 D.jz).extBut k2.extBut D.ij.symm) (ht k2 D.bi ib1) hy fun g3 j3 k3=>wpAny_pure (wpAny_pure ?_))
    refine wpAny_pure ?_
    refine wpAny_bind (wpAny_newTuple ?_ (show (2:Nat) <= sizeLine by decide))
    have sz:g3.objs.size = s.heap.objs.size:=by rw [k3.1,k2.1,sz1]
    have kk:∀ c u,c ≠ z -> c ≠ i -> c ≠ j -> s.heap.get? c = some u -> (g3.push { cls:=.type "tuple", data:=.seq #[x,y] }).get? c = some u:=fun c u c1 c3 c4 e=>Heap.get?_push_of_some _ (k3.extBut _ _ c4 (k2.extBut _ _ c3 (k1 _ _ c1 e)))
    have z3:XH (g3.push { cls:=.type "tuple", data:=.seq #[x,y] }) z p o f true:=Heap.get?_push_of_some _ (k3.extBut _ _ D.jz.symm (k2.extBut _ _ D.iz.symm z1))
    refine wpAny_pure ⟨_,rfl,?_⟩
    show Q (.ref g3.objs.size) _
    rw [sz]
    refine k _ ⟨⟨f,true,z3,hf⟩,kk _ _ D.pz D.pi D.pj pp,⟨u1,u2,kk _ _ D.oz D.oi D.oj oo⟩,(i2.extBut k3.extBut D.ij).at fun u e=>Heap.get?_push_of_some _ e,j3.at fun u e=>Heap.get?_push_of_some _ e⟩ ?_ (by rw [Heap.size_push,sz]) fun c u c1 _ c3 c4 e=>kk c u c1 c3 c4 e
    rw [<- sz];exact Heap.get?_push_size _ rfl
theorem Qc0 {z p o i j a b:Addr} {n:Nat} {xs ys:Array Value} {Q:PySem.Fin -> Shared -> Prop} (hh:A.handled = none) (D:ZA z p o i j a b) (S:ZU s.heap z p o i j a b n) (ha:s.heap.IsTuple a xs) (hb:s.heap.IsTuple b ys) (he:xs[n]? = none ∨ ys[n]? = none)
    (k:∀ g x,(∀ c u,c ≠ z -> c ≠ o -> c ≠ i -> c ≠ j -> s.heap.get? c = some u -> g.get? c = some u) -> (∃ u,g.get? x = some u /\ u.cls = .type "StopIteration") -> E (.ref x) { s with heap:=g }) :
    wpAny (model prog w) A (Builtin.«zip.__next__» ⟨[.ref z],[]⟩) Q E s:=by
  obtain ⟨⟨f,fl,zz,hf⟩,pp,⟨u1,u2,oo⟩,ii,jj⟩:=S
  have ht:∀ {g g':Heap} {q c:Addr} {vs:Array Value},Heap.SameBut q g g' -> c ≠ q -> g.IsTuple c vs -> g'.IsTuple c vs:=fun {g g' q c vs} sb hc ⟨ob,e,r⟩=>⟨ob,sb.extBut _ _ hc e,r⟩
  show wpAny _ _ (field (.ref z) 2 >>= _) _ _ _
  refine wpAny_bind (wpAny_field zz rfl (x:=.bool false) rfl ?_)
  show wpAny _ _ (field (.ref z) 3 >>= _) _ _ _
  refine wpAny_bind (wpAny_field zz rfl (x:=.ref p) rfl ?_)
  refine wpAny_bind (wpAny_seqItems pp rfl ?_)
  show wpAny _ _ (Builtin.SmallTypes.ownedTupleIsFree (.ref z) >>= _) _ _ _
  refine wpAny_bind (uW zz hf ?_ ?_)
  . simp only [if_true]
    refine wpAny_bind (wpAny_rule ?_)
    refine wpAny_bind (wpAny_field zz rfl (x:=.ref o) rfl ?_)
    refine wpAny_bind (wpAny_setField_rec zz (by simp) fun g1 z1 k1=>?_)
    replace z1:XH g1 z p o .ellipsis fl:=z1
    refine wpAny_bind ?_
    simp only [List.zipIdx_cons,List.zipIdx_nil,List.forIn_cons,List.forIn_nil]
    refine wpAny_bind (wpAny_bind (wpAny_onRaise ?_))
    show wpAny _ _ (Builtin.SmallTypes.nextOf (.ref i) >>= _) _ _ _
    cases hx:xs[n]? with
    | none =>
      refine wpAny_bind (xu hh (ii.extBut k1.extBut D.iz) (ht k1 D.az ha) hx fun g2 x k2 h2=>?_)
      obtain ⟨oe,h3,h4⟩:=h2
      have z2:XH g2 z p o .ellipsis fl:=k2 _ _ D.iz.symm z1
      have xz:x ≠ z:=fun q=>by subst q;rw [z2] at h3;cases h3;simp at h4
      exact wpAny_setField_rec z2 (by simp) fun g3 _ k3=>k g3 x (fun c u c1 _ c3 _ e=>k3.extBut _ _ c1 (k2 _ _ c3 (k1.extBut _ _ c1 e))) ⟨oe,k3.extBut _ _ xz h3,h4⟩
    | some x0 =>
      have hy:ys[n]? = none:=by rcases he with h | h;rw [hx] at h;cases h;exact h
      refine wpAny_bind (XW (ii.extBut k1.extBut D.iz) (ht k1 D.az ha) hx fun g2 i2 k2=>wpAny_pure ?_)
      have o2:IsPair g2 o u1 u2:=k2.extBut _ _ D.oi (k1.extBut _ _ D.oz oo)
      refine wpAny_bind (wpAny_seqItems o2 rfl ?_)
      refine wpAny_bind (wpAny_updateSeq_pair o2 fun g3 o3 k3=>?_)
      refine wpAny_bind (wpAny_letGo (wpAny_pure ?_))
      refine wpAny_bind (wpAny_bind (wpAny_onRaise ?_))
      show wpAny _ _ (Builtin.SmallTypes.nextOf (.ref j) >>= _) _ _ _
      refine wpAny_bind (xu hh (((jj.extBut k1.extBut D.jz).extBut k2.extBut D.ij.symm).extBut k3.extBut D.oj.symm) (ht k3 D.bo (ht k2 D.bi (ht k1 D.bz hb))) hy fun g4 x k4 h2=>?_)
      obtain ⟨oe,h3,h4⟩:=h2
      have z4:XH g4 z p o .ellipsis fl:=k4 _ _ D.jz.symm (k3.extBut _ _ D.oz.symm (k2.extBut _ _ D.iz.symm z1))
      have xz:x ≠ z:=fun q=>by subst q;rw [z4] at h3;cases h3;simp at h4
      exact wpAny_setField_rec z4 (by simp) fun g5 _ k5=>k g5 x (fun c u c1 c2 c3 c4 e=>k5.extBut _ _ c1 (k4 _ _ c4 (k3.extBut _ _ c2 (k2.extBut _ _ c3 (k1.extBut _ _ c1 e))))) ⟨oe,k5.extBut _ _ xz h3,h4⟩
  . intro g1 z1 k1 sz1
    simp only [Bool.false_eq_true,if_false]
    refine wpAny_bind ?_
    have ia1:g1.IsTuple a xs:=let ⟨ob,e,r⟩:=ha;⟨ob,k1 _ _ D.az e,r⟩
    have ib1:g1.IsTuple b ys:=let ⟨ob,e,r⟩:=hb;⟨ob,k1 _ _ D.bz e,r⟩
    simp only [List.forIn_toArray,List.forIn_cons,List.forIn_nil]
    refine wpAny_bind (wpAny_bind (wpAny_holding ?_))
    show wpAny _ _ (Builtin.SmallTypes.nextOf (.ref i) >>= _) _ _ _
    cases hx:xs[n]? with
    | none =>
      exact wpAny_bind (xu (s:={ s with heap:=g1 }) hh (ii.extBut k1 D.iz) ia1 hx fun g2 x k2 h2=>k g2 x (fun c u c1 _ c3 _ e=>k2 _ _ c3 (k1 _ _ c1 e)) h2)
    | some x0 =>
      have hy:ys[n]? = none:=by rcases he with h | h;rw [hx] at h;cases h;exact h
      refine wpAny_bind (XW (s:={ s with heap:=g1 }) (ii.extBut k1 D.iz) ia1 hx fun g2 i2 k2=>wpAny_pure (wpAny_pure ?_))
      refine wpAny_bind (wpAny_bind (wpAny_holding ?_))
      show wpAny _ _ (Builtin.SmallTypes.nextOf (.ref j) >>= _) _ _ _
      exact wpAny_bind (xu (s:={ s with heap:=g2 }) hh ((jj.extBut k1 D.jz).extBut k2.extBut D.ij.symm) (ht k2 D.bi ib1) hy fun g3 x k3 h2=>k g3 x (fun c u c1 _ c3 c4 e=>k3 _ _ c4 (k2.extBut _ _ c3 (k1 _ _ c1 e))) h2)
end
theorem ZU.at {h h':Heap} {z p o i j a b:Addr} {n:Nat} (S:ZU h z p o i j a b n) (k:∀ c ∈ [z,p,o,i,j],∀ u,h.get? c = some u -> h'.get? c = some u):ZU h' z p o i j a b n:=by
  obtain ⟨⟨f,fl,zz,hf⟩,pp,⟨u1,u2,oo⟩,ii,jj⟩:=S
  exact ⟨⟨f,fl,k z (by simp) _ zz,hf⟩,k p (by simp) _ pp,⟨u1,u2,k o (by simp) _ oo⟩,ii.at fun u e=>k i (by simp) u e,jj.at fun u e=>k j (by simp) u e⟩
inductive kI:Expr -> Prop
  | nm (x:Str) (p:Pos):kI (.Name x p)
  | tp (l:List Expr) (k:Nat) (p:Pos):kI (.Tuple l k p)
theorem Qfs {prog:Program} {w:World} {A:Around} {E:Value -> Shared -> Prop} {s:Shared} {tg:Expr} (ht:kI tg) {z p o i j a b T:Addr} {n:Nat} {Q:Unit -> Shared -> Prop} (D:ZA z p o i j a b) (S:ZU s.heap z p o i j a b n) (hQ:∀ h',ZU h' z p o i j a b n -> Heap.ExtBut z s.heap h' -> Q () { s with heap:=h' }):wpAny (model prog w) A (letOwnedTupleGo tg (.ref z) (.ref T)) Q E s:=by
  cases ht with
  | nm x p'=>exact wpAny_pure (hQ s.heap S fun _ _ _ e=>e)
  | tp l k p' =>
    obtain ⟨f,fl,zz,hf⟩:=S.zz
    unfold letOwnedTupleGo
    refine wpAny_bind (wpAny_load zz ?_)
    dsimp only
    split
    . refine wpAny_bind (wpAny_rule ?_)
      show wpAny _ _ (setField (.ref z) 0 .none) Q E s
      obtain ⟨_,pp,⟨u1,u2,oo⟩,ii,jj⟩:=S
      exact wpAny_setField_rec zz (by simp) fun h' z' k'=>hQ h' ⟨⟨.none,fl,z',.inl rfl⟩,k'.extBut _ _ D.pz pp,⟨u1,u2,k'.extBut _ _ D.oz oo⟩,ii.extBut k'.extBut D.iz,jj.extBut k'.extBut D.jz⟩ k'.extBut
    . exact wpAny_pure (hQ s.heap S fun _ _ _ e=>e)
theorem Uy {P:Program} {w:World} {K:PySem.W.Frag} {tg:Expr} (ht:kI tg) {z p o i j a b:Addr} (D:ZA z p o i j a b):uZ P w K tg (Itz K a b) [z,p,o,i,j] z (fun n h=>ZU h z p o i j a b n) where
  mem:=by simp
  obj:=fun n h S c hc=>by
    obtain ⟨⟨f,fl,zz,hf⟩,pp,⟨u1,u2,oo⟩,⟨oi,ei,ci,di⟩,⟨oj,ej,cj,dj⟩⟩:=S
    simp only [List.mem_cons,List.not_mem_nil,or_false] at hc
    rcases hc with rfl | rfl | rfl | rfl | rfl
    . exact ⟨_,zz,fun v q=>by have q':Data.fields _ = Data.cell v:=q;cases q'⟩
    . exact ⟨_,pp,fun v q=>by have q':Data.seq _ _ = Data.cell v:=q;cases q'⟩
    . exact ⟨_,oo,fun v q=>by have q':Data.seq _ _ = Data.cell v:=q;cases q'⟩
    . exact ⟨oi,ei,fun v q=>by rw [di] at q;cases q⟩
    . exact ⟨oj,ej,fun v q=>by rw [dj] at q;cases q⟩
  keep:=fun n h h' S k=>S.at k
  item:=by
    intro X hP hw hK hc n pins s σ H E I hf S hg
    subst hP hw hK
    obtain ⟨xs,ys,x,y,qa,qb,hx,hy⟩:=hg
    obtain ⟨ia,ra,pa,_⟩:=I.tuple qa
    obtain ⟨ib,rb,pb,_⟩:=I.tuple qb
    obtain ⟨u,hu,ru⟩:=ra.get hx
    obtain ⟨v,hv,rv⟩:=rb.get hy
    obtain ⟨f0,fl0,zz0,hf0⟩:=S.zz
    have hT:s.TypeIs (.ref z) "zip" := ⟨_,zz0,rfl⟩
    unfold pyNext
    refine wpAny_bind (wpAny_attempt (wpAny_callSpecial?_slot (name:=Str.ofString "__next__") hT F.slot_zip_next (wpAny_call_entry F.slot_zip_next hT F.entry_zip_next
      (QcZ D S (show s.heap.IsTuple a ia.toArray from pa) (show s.heap.IsTuple b ib.toArray from pb) (by simpa using hu) (by simpa using hv) fun g' S' tp sz kp=>wpAny_pure ?_) (F.args_zip_next_1 _))))
    refine ⟨_,rfl,Qfs (s:={ s with heap:=g' }) ht D S' fun g2 S' kx=>?_⟩
    replace tp:=kx _ _ (Nat.ne_of_gt (Heap.lt_size zz0)) tp
    have kp':∀ c q,c ∉ [z,p,o,i,j] -> s.heap.get? c = some q -> g2.get? c = some q:=fun c q hc e=>by
      simp only [List.mem_cons,List.not_mem_nil,or_false,not_or] at hc
      refine kx _ _ hc.1 (kp c q hc.1 hc.2.2.1 hc.2.2.2.1 hc.2.2.2.2 e)
    have ne:∀ c ∈ [z,p,o,i,j],c ≠ s.heap.objs.size:=fun c hc e=>by
      obtain ⟨_,pp,⟨u1,u2,oo⟩,⟨oi,ei,_⟩,⟨oj,ej,_⟩⟩:=S
      simp only [List.mem_cons,List.not_mem_nil,or_false] at hc
      rcases hc with rfl | rfl | rfl | rfl | rfl
      . exact Nat.ne_of_lt (Heap.lt_size zz0) e
      . exact Nat.ne_of_lt (Heap.lt_size pp) e
      . exact Nat.ne_of_lt (Heap.lt_size oo) e
      . exact Nat.ne_of_lt (Heap.lt_size ei) e
      . exact Nat.ne_of_lt (Heap.lt_size ej) e
    refine ⟨.ref s.heap.objs.size,upd H s.heap.objs.size (.tup [x,y]),I.turnNew (t':=s.toks) hf kp' (us:=[u,v]) (.cons ru (.cons rv .nil)) (show 2 <= sizeLine by decide) ⟨_,tp,rfl,_,rfl⟩,rfl,
      ⟨_,x,y,I.hok.fresh (Nat.le_refl _),fun xs' h=>by rw [I.tuple_inj h qa];exact hx,fun ys' h=>by rw [I.tuple_inj h qb];exact hy,rfl,rfl⟩,S',fun c hc=>?_⟩
    rw [QU (ne c hc)];exact (hf c hc).1
  done:=by
    intro X hP hw hK hc n pins s σ H E I hf S hg
    subst hP hw hK
    obtain ⟨xs,ys,qa,qb,hs⟩:=hg
    obtain ⟨ia,ra,pa,_⟩:=I.tuple qa
    obtain ⟨ib,rb,pb,_⟩:=I.tuple qb
    have l1:=ra.length
    have l2:=rb.length
    obtain ⟨f0,fl0,zz0,hf0⟩:=S.zz
    have hT:s.TypeIs (.ref z) "zip" := ⟨_,zz0,rfl⟩
    unfold pyNext
    refine wpAny_bind (wpAny_attempt (wpAny_callSpecial?_slot (name:=Str.ofString "__next__") hT F.slot_zip_next (wpAny_call_entry F.slot_zip_next hT F.entry_zip_next
      (Qc0 (I.ok.hd hc) D S (show s.heap.IsTuple a ia.toArray from pa) (show s.heap.IsTuple b ib.toArray from pb) (by rcases hs with q | q;exact .inl (by simp;omega);exact .inr (by simp;omega)) fun g x kp hx=>?_) (F.args_zip_next_1 _))))
    obtain ⟨ox,h1,h2⟩:=hx
    refine wpAny_bind (wpAny_isInstance (T := "StopIteration") (b:=true) ⟨ox,h1,h2⟩ isSubtype_stop ?_)
    refine wpAny_pure ⟨rfl,I.turnL (t':=s.toks) hf fun c q hc e=>?_⟩
    simp only [List.mem_cons,List.not_mem_nil,or_false,not_or] at hc
    exact kp c q hc.1 hc.2.2.1 hc.2.2.2.1 hc.2.2.2.2 e
  self:=fun _ _ _ _ _ S h=>by
    obtain ⟨f0,fl0,zz0,hf0⟩:=S.zz
    have hT:Shared.TypeIs _ (Value.ref z) "zip" := ⟨_,zz0,rfl⟩
    refine wpAny_pyIter_slot hT F.slot_zip_iter (wpAny_call_entry F.slot_zip_iter hT F.entry_zip_iter ?_ (F.args_zip_iter_1 _))
    exact wpAny_pure ⟨_,rfl, "zip", _,hT,(F.slot_zip_next).1,h⟩
section
variable {X:Cx} {xn:Str} {p2:Pos} {pins:List (Addr × Obj)} {σ:L2.St}
theorem QeA {H:Hp} {s:Shared} {E:Value -> Shared -> Prop} {Q:Value -> Shared -> Prop} {a b:Addr} {xs ys:List V} (I:Inv X pins σ H s) (qa:SqT X.K H a xs) (qb:SqT X.K H b ys)
    (k:∀ (s':Shared) (z p o i j:Addr),Inv X pins σ H s' -> ZA z p o i j a b -> ZU s'.heap z p o i j a b 0 -> (∀ c ∈ [z,p,o,i,j],VH X pins H c) -> Q (.ref z) s'):wpAny (model X.prog X.w) X.A (call (.type "zip") [.ref a,.ref b]) Q E s:=by
  obtain ⟨ia,ra,pa,_⟩:=I.tuple qa
  obtain ⟨ib,rb,pb,_⟩:=I.tuple qb
  refine callType_new F.called_zip (by decide) (F.typeCall_zip_2 _ _) (F.newCall_zip_2 _ _) (fun obj=>F.args_object_init_3 obj _ _) F.entry_zip_new (uX a b ia.toArray ib.toArray) ⟨show s.heap.IsTuple a ia.toArray from pa,show s.heap.IsTuple b ib.toArray from pb,?_⟩
  have z1:(zt1 s.heap a).objs.size = s.heap.objs.size + 1:=Heap.size_push ..
  have z2:(zt2 s.heap a b).objs.size = s.heap.objs.size + 2:=by rw [Heap.size_push,z1]
  have z3:(zt3 s.heap a b).objs.size = s.heap.objs.size + 3:=by rw [Heap.size_push,z2]
  have z4:(zt4 s.heap a b).objs.size = s.heap.objs.size + 4:=by rw [Heap.size_push,z3]
  have g5:(zt5 s.heap a b).get? (zt4 s.heap a b).objs.size = some _:=Heap.get?_push_size _ rfl
  have g4:(zt5 s.heap a b).get? (zt3 s.heap a b).objs.size = some _:=Heap.get?_push_of_some _ (Heap.get?_push_size _ rfl)
  have g3:(zt5 s.heap a b).get? (zt2 s.heap a b).objs.size = some _:=Heap.get?_push_of_some _ (Heap.get?_push_of_some _ (Heap.get?_push_size _ rfl))
  have g2:(zt5 s.heap a b).get? (zt1 s.heap a).objs.size = some _:=Heap.get?_push_of_some _ (Heap.get?_push_of_some _ (Heap.get?_push_of_some _ (Heap.get?_push_size _ rfl)))
  have g1:(zt5 s.heap a b).get? s.heap.objs.size = some _:=Heap.get?_push_of_some _ (Heap.get?_push_of_some _ (Heap.get?_push_of_some _ (Heap.get?_push_of_some _ (Heap.get?_push_size _ rfl))))
  show _ /\ _
  have kp:∀ c o,s.heap.get? c = some o -> (zt5 s.heap a b).get? c = some o:=fun c o e=>Heap.get?_push_of_some _ (Heap.get?_push_of_some _ (Heap.get?_push_of_some _ (Heap.get?_push_of_some _ (Heap.get?_push_of_some _ e))))
  refine ⟨⟨_,g5,rfl⟩,?_⟩
  rw [z2,z3,z4] at g5
  rw [z1,z2] at g3
  rw [z3] at g4
  rw [z1] at g2
  rw [z4]
  have la:a < s.heap.objs.size:=by obtain ⟨o,e,_⟩:=pa;exact Heap.lt_size e
  have lb:b < s.heap.objs.size:=by obtain ⟨o,e,_⟩:=pb;exact Heap.lt_size e
  have D:ZA (s.heap.objs.size + 4) (s.heap.objs.size + 2) (s.heap.objs.size + 3) s.heap.objs.size (s.heap.objs.size + 1) a b:=by constructor <;> first | exact Nat.ne_of_lt la | exact Nat.ne_of_lt lb | exact Nat.ne_of_lt (Nat.lt_of_lt_of_le la (Nat.le_add_right _ _)) | exact Nat.ne_of_lt (Nat.lt_of_lt_of_le lb (Nat.le_add_right _ _)) | exact Nat.ne_of_lt (by omega) | exact Nat.ne_of_gt (by omega)
  have I1:Inv X pins σ H { s with heap:=zt5 s.heap a b }:=I.kept (t':=s.toks) kp
  have S:ZU (zt5 s.heap a b) (s.heap.objs.size + 4) (s.heap.objs.size + 2) (s.heap.objs.size + 3) s.heap.objs.size (s.heap.objs.size + 1) a b 0:=⟨⟨_,_,g5,.inl rfl⟩,g3,⟨_,_,g4⟩,⟨_,g1,rfl,rfl⟩,⟨_,g2,rfl,rfl⟩⟩
  refine k { s with heap:=zt5 s.heap a b } _ _ _ _ _ I1 D S fun c hc=>?_
  have hc':s.heap.objs.size <= c:=by
    simp only [List.mem_cons,List.not_mem_nil,or_false] at hc
    rcases hc with rfl | rfl | rfl | rfl | rfl <;> first | exact Nat.le_refl _ | exact Nat.le_add_right _ _
  exact I.fpOk hc' (I.hok.fresh hc')
theorem QcW {tg:Expr} (ht:kI tg) {H:Hp} {s:Shared} {R:It -> Hp -> Prop} {E:Value -> Shared -> Prop} {a b:Addr} {xs ys:List V} (I:Inv X pins σ H s) (qa:SqT X.K H a xs) (qb:SqT X.K H b ys) (q:R (Itz X.K a b) H) :
    wpAny (model X.prog X.w) X.A (call (.type "zip") [.ref a,.ref b]) (fun v s1=>wpAny (model X.prog X.w) X.A (pyIter v) (PIE X pins σ tg R) E s1) E s :=
  QeA I qa qb fun s' z p o i j I1 D S hf=>(Uy (K:=X.K) ht D).self _ _ _ _ _ S ⟨_,[z,p,o,i,j],_,Itz X.K a b,H,rfl,I1,Uy ht D,S,hf,q⟩
theorem Qcp {x y:Expr} {ta:TA} {p pos:Pos} (hg:Gl X "zip") (hm:X.mg "zip" = none) (ha:PA X [x,y] ta) (hs:starEach [x,y] X.env = [(false,eval x X.env),(false,eval y X.env)]:=by rfl) (hs2:starEach [y] X.env = [(false,eval y X.env)]:=by rfl) :
    PI X (.Name xn p2) (.Call (.Name "zip" p) [x,y] [] pos) (Qc7 X.K ta):=by
  intro pins s σ H R I h
  refine Call_ (yR I hg hm boot_zip (PyProof.Rows.callWith_type1 (thn (ha pos pins s σ H _ I h) fun us s1 ⟨vs,H1,I1,r1,q1⟩=>?_) (by rw [hs,hs2]) (by rw [hs2];rfl)))
  obtain ⟨a,b,xs,ys,e,qa,qb,q⟩:=q1
  subst e
  cases r1 with
  | cons r rr =>
    cases rr with
    | cons r' rr =>
      cases rr
      cases r
      cases r'
      exact QcW (.nm ..) I1 qa qb q
end
end L2
namespace D
open PySem PySem.Spec PyProof.Rows L2
section
variable {X:Cx} {xn:Str} {p2:Pos} {f g:DEx}
theorem QbQ {x y:Expr} {p pos:Pos} (hg:Gl X "zip") (hm:X.mg "zip" = none) (hx:DE X x f) (hy:DE X y g) (hs:starEach [x,y] X.env = [(false,eval x X.env),(false,eval y X.env)]:=by rfl) (hs2:starEach [y] X.env = [(false,eval y X.env)]:=by rfl) :
    DI X (.Name xn p2) (.Call (.Name "zip" p) [x,y] [] pos) (U6 f g) :=
  L2.PI.imp (Qcp hg hm (jx hx (jx hy pa_nil (by rw [hs2];rfl)) (by rw [hs,hs2])) hs hs2) fun σ H R ⟨Z,env,ρ,B,hp,ds,hp',S,e,k⟩=>by
    obtain ⟨d1,hp1,e1,e⟩:=Qf e
    obtain ⟨xs,hp2,e2,e⟩:=Qf e
    obtain ⟨rfl,rfl⟩:=XZ e2
    obtain ⟨d2,hp3,e3,e⟩:=Qf e
    obtain ⟨ys,hp4,e4,e⟩:=Qf e
    obtain ⟨rfl,rfl⟩:=XZ e4
    obtain ⟨rfl,rfl⟩:=Qi e
    refine tD.run S e1 fun v ρ1 B1 H1 g1 S1 r1=>tD.run S1 e3 fun u ρ2 B2 H2 g2 S2 r2=>?_
    obtain ⟨a,vs,rfl,na,qa,la⟩:=(RepV.grow S1.wo.rb g2 _ _ r1).tupI
    obtain ⟨b,us,rfl,nb,qb,lb⟩:=r2.tupI
    exact ⟨a,b,vs,us,rfl,qa,qb,k _ ρ2 B2 H2 (g1.trans g2) S2.wo (Qau na qa la nb qb lb)⟩
end
end D
namespace TR
structure Pg where
  lv:Nat
  ks:List Int
  ps:List Int
  hi:Option Int
  sd:Option Nat
structure Sh where
  room:Nat
  pg:List Pg
  top:Nat
  rd:Int
  wr:Int
inductive Deed where
  | find (k:Int) | put (k w:Int) | cut (k:Int) | stretch (l h:Int)
def Deed.key:Deed -> Int
  | .find k=>k
  | .put k _=>k
  | .cut k=>k
  | .stretch l _=>l
structure Wk where
  deed:Deed
  aim:Int
  goal:Nat
  place:Option Nat
  forks:List (Nat × Nat)
  newp:Option Nat
  worth:Option Int
  pairs:List (Int × Int)
  ended:Bool
inductive Row where
  | non
  | side (n t:Nat)
  | down (n t:Nat)
  | found (n:Nat) (w:Option Int)
  | put (n:Nat) (w:Option Int) (k:Option Nat)
  | cut (n:Nat) (w:Option Int)
  | read (n:Nat) (ps:List (Int × Int)) (t:Option (Nat × Int))
  | told (n:Nat) (k:Option Nat)
  | raised (n t:Nat)
def cLe (ks:List Int) (k:Int):Nat:=(ks.filter fun x=>decide (x <= k)).length
def cLt (ks:List Int) (k:Int):Nat:=(ks.filter fun x=>decide (x < k)).length
def ZR (fs:List (Nat × Nat)) (k:Nat):Option Nat:=(fs.find? fun p=>decide (p.1 = k)).map (·.2)
def qQ (fs:List (Nat × Nat)) (k v:Nat):List (Nat × Nat):=if (fs.any fun p=>decide (p.1 = k)) = true then fs.map (fun p=>if p.1 = k then (p.1,v) else p) else fs ++ [(k,v)]
def Za (p:Pg) (k:Int):Bool:=match p.hi with
  | none=>false
  | some h=>decide (h <= k)
def QG (p:Pg) (k:Int):Option Int:=if cLt p.ks k = cLe p.ks k then none else p.ps[cLt p.ks k]?
def QE (p:Pg) (k w:Int):Pg:={ p with ks:=p.ks.take (cLt p.ks k) ++ k :: p.ks.drop (cLe p.ks k),ps:=p.ps.take (cLt p.ks k) ++ w :: p.ps.drop (cLe p.ks k) }
def without (p:Pg) (k:Int):Pg:={ p with ks:=p.ks.take (cLt p.ks k) ++ p.ks.drop (cLe p.ks k),ps:=p.ps.take (cLt p.ks k) ++ p.ps.drop (cLe p.ks k) }
def QT (p:Pg) (k:Int) (c:Nat):Pg:={ p with ks:=p.ks.take (cLe p.ks k) ++ k :: p.ks.drop (cLe p.ks k),ps:=p.ps.take (cLe p.ks k + 1) ++ (c:Int) :: p.ps.drop (cLe p.ks k + 1) }
def mid (p:Pg):Nat:=p.ks.length / 2
def Ze (p:Pg):Nat:=if p.lv = 0 then mid p else mid p + 1
def JN (p:Pg):Int:=p.ks.getD (mid p) 0
def QK (p:Pg) (n:Nat):Pg:=⟨p.lv,p.ks.take (mid p),p.ps.take (Ze p),some (JN p),some n⟩
def QA (p:Pg):Pg:=⟨p.lv,p.ks.drop (Ze p),p.ps.drop (Ze p),p.hi,p.sd⟩
def Qr (S:Sh) (w:Wk) (n:Nat) (p:Pg):Option Nat × Sh × Wk :=
  if p.ks.length <= S.room then (none,{ S with pg:=S.pg.set n p,wr:=S.wr + 1 },{ w with ended:=true })
  else (some S.pg.length,{ S with pg:=(S.pg ++ [QA p]).set n (QK p S.pg.length),wr:=S.wr + 1 + 1 },{ w with newp:=some S.pg.length,aim:=JN p,goal:=p.lv + 1,place:=ZR w.forks (p.lv + 1) })
def QM (p:Pg) (l h:Int):List (Int × Int):=(p.ks.zip p.ps).filter fun q=>decide (l <= q.1) && decide (q.1 < h)
def ZF (S:Sh) (w:Wk) (n:Nat) (p:Pg):Row × Sh × Wk:=match w.deed with
  | .find _=>(.found n (QG p w.aim),S,{ w with worth:=QG p w.aim,ended:=true })
  | .put _ x=>match Qr S { w with worth:=QG p w.aim } n (QE p w.aim x) with
    | (r,S2,w2)=>(.put n (QG p w.aim) r,S2,w2)
  | .cut _=>(.cut n (QG p w.aim),if (QG p w.aim).isSome = true then { S with pg:=S.pg.set n (without p w.aim),wr:=S.wr + 1 } else S,{ w with worth:=QG p w.aim,ended:=true })
  | .stretch l h=>match p.hi,p.sd with
    | some x,some s=>if h <= x then (.read n (QM p l h) none,S,{ w with pairs:=w.pairs ++ QM p l h,ended:=true })
        else (.read n (QM p l h) (some (s,x)),S,{ w with pairs:=w.pairs ++ QM p l h,aim:=x,place:=some s })
    | _,_=>(.read n (QM p l h) none,S,{ w with pairs:=w.pairs ++ QM p l h,ended:=true })
def Z7 (S:Sh) (w:Wk):Option (Row × Sh × Wk) :=
  if w.ended = true then some (.non,S,w) else
  match S.pg[w.place.getD S.top]? with
  | none=>none
  | some p =>
    if w.place = none /\ p.lv < w.goal then
      match w.newp with
      | none=>none
      | some k=>some (.raised S.top S.pg.length,{ S with rd:=S.rd + 1,pg:=S.pg ++ [⟨p.lv + 1,[w.aim],[(S.top:Int),(k:Int)],none,none⟩],top:=S.pg.length,wr:=S.wr + 1 },{ w with ended:=true })
    else if Za p w.aim = true then
      match p.sd with
      | none=>none
      | some s=>some (.side (w.place.getD S.top) s,{ S with rd:=S.rd + 1 },{ w with place:=some s })
    else if w.goal < p.lv then
      match p.ps[cLe p.ks w.aim]? with
      | none=>none
      | some c=>some (.down (w.place.getD S.top) c.toNat,{ S with rd:=S.rd + 1 },{ w with forks:=qQ w.forks p.lv (w.place.getD S.top),place:=some c.toNat })
    else if 0 < w.goal then
      match w.newp with
      | none=>none
      | some k=>match Qr { S with rd:=S.rd + 1 } w (w.place.getD S.top) (QT p w.aim k) with
        | (r,S2,w2)=>some (.told (w.place.getD S.top) r,S2,w2)
    else some (ZF { S with rd:=S.rd + 1 } w (w.place.getD S.top) p)
theorem Ys {ks:List Int} (h:ks.Pairwise (· < ·)) (k:Int):ks.take (cLe ks k) = ks.filter (fun x=>decide (x <= k)) /\ ks.drop (cLe ks k) = ks.filter (fun x=>decide (k < x)):=by
  unfold cLe
  induction ks with
  | nil=>simp
  | cons x xs ih =>
    obtain ⟨h1,h2⟩:=List.pairwise_cons.mp h
    by_cases q:x <= k
    . obtain ⟨i1,i2⟩:=ih h2
      have q':¬ k < x:=by omega
      simp [List.filter_cons,q,q',i1,i2]
    . have e:xs.filter (fun y=>decide (y <= k)) = []:=by
        rw [List.filter_eq_nil_iff]
        intro y hy;have:=h1 y hy;simp;omega
      have e2:xs.filter (fun y=>decide (k < y)) = xs:=by
        rw [List.filter_eq_self]
        intro y hy;have:=h1 y hy;simp;omega
      have q':k < x:=by omega
      simp [List.filter_cons,q,q',e,e2]
theorem qi {ks:List Int} (h:ks.Pairwise (· < ·)) (k:Int):ks.take (cLt ks k) = ks.filter (fun x=>decide (x < k)) /\ ks.drop (cLt ks k) = ks.filter (fun x=>decide (k <= x)):=by
  unfold cLt
  induction ks with
  | nil=>simp
  | cons x xs ih =>
    obtain ⟨h1,h2⟩:=List.pairwise_cons.mp h
    by_cases q:x < k
    . obtain ⟨i1,i2⟩:=ih h2
      have q':¬ k <= x:=by omega
      simp [List.filter_cons,q,q',i1,i2]
    . have e:xs.filter (fun y=>decide (y < k)) = []:=by
        rw [List.filter_eq_nil_iff]
        intro y hy;have:=h1 y hy;simp;omega
      have e2:xs.filter (fun y=>decide (k <= y)) = xs:=by
        rw [List.filter_eq_self]
        intro y hy;have:=h1 y hy;simp;omega
      have q':k <= x:=by omega
      simp [List.filter_cons,q,q',e,e2]
theorem JC (ks:List Int) (k:Int):cLe ks k <= ks.length:=List.length_filter_le _ _
theorem jS (ks:List Int) (k:Int):cLt ks k <= ks.length:=List.length_filter_le _ _
theorem UR (ks:List Int) (k:Int):cLt ks k <= cLe ks k:=by
  unfold cLt cLe
  induction ks with
  | nil=>simp
  | cons x xs ih =>
    by_cases q:x < k
    . have:x <= k:=by omega
      simp [List.filter_cons,q,this,ih]
    . by_cases q2:x <= k
      . simp [List.filter_cons,q,q2];omega
      . simp [List.filter_cons,q,q2,ih]
theorem kP {ks:List Int} (h:ks.Pairwise (· < ·)) (k:Int):cLe ks k <= cLt ks k + 1:=by
  unfold cLt cLe
  induction ks with
  | nil=>simp
  | cons x xs ih =>
    obtain ⟨h1,h2⟩:=List.pairwise_cons.mp h
    by_cases q:x < k
    . have:x <= k:=by omega
      have:=ih h2
      simp [List.filter_cons,q, *]
    . have e:xs.filter (fun y=>decide (y <= k)) = []:=by
        rw [List.filter_eq_nil_iff]
        intro y hy;have:=h1 y hy;simp;omega
      by_cases q2:x <= k <;> simp [List.filter_cons,q,q2,e]
theorem yN {ks:List Int} (h:ks.Pairwise (· < ·)) (k:Int):(ks.take (cLt ks k) ++ k :: ks.drop (cLe ks k)).Pairwise (· < ·):=by
  rw [(qi h k).1,(Ys h k).2]
  rw [List.pairwise_append]
  refine ⟨h.filter _,List.pairwise_cons.mpr ⟨fun y hy=>?_,h.filter _⟩,fun x hx y hy=>?_⟩
  . simpa using (List.mem_filter.mp hy).2
  . have h1:x < k:=by simpa using (List.mem_filter.mp hx).2
    rcases List.mem_cons.mp hy with rfl | hy
    . exact h1
    . have h2:k < y:=by simpa using (List.mem_filter.mp hy).2
      omega
theorem jp {ks:List Int} (h:ks.Pairwise (· < ·)) {k x:Int} (hx:x ∈ ks.take (cLt ks k) ++ k :: ks.drop (cLe ks k)):x = k ∨ x ∈ ks:=by
  rcases List.mem_append.mp hx with hx | hx
  . exact .inr (List.mem_of_mem_take hx)
  . rcases List.mem_cons.mp hx with rfl | hx
    . exact .inl rfl
    . exact .inr (List.mem_of_mem_drop hx)
theorem vf {ks:List Int} (h:ks.Pairwise (· < ·)) (k:Int):(ks.take (cLt ks k) ++ ks.drop (cLe ks k)).Pairwise (· < ·):=by
  rw [(qi h k).1,(Ys h k).2]
  rw [List.pairwise_append]
  refine ⟨h.filter _,h.filter _,fun x hx y hy=>?_⟩
  have h1:x < k:=by simpa using (List.mem_filter.mp hx).2
  have h2:k < y:=by simpa using (List.mem_filter.mp hy).2
  omega
theorem ul {ks:List Int} {k x:Int} (hx:x ∈ ks.take (cLt ks k) ++ ks.drop (cLe ks k)):x ∈ ks:=by
  rcases List.mem_append.mp hx with hx | hx
  . exact List.mem_of_mem_take hx
  . exact List.mem_of_mem_drop hx
theorem kQ {ks:List Int} (h:k ∉ ks):cLt ks k = cLe ks k:=by
  unfold cLt cLe
  congr 1
  apply List.filter_congr
  intro x hx
  have:x ≠ k:=fun e=>h (e ▸ hx)
  by_cases q:x < k
  . have:x <= k:=by omega
    simp [q,this]
  . have:¬ x <= k:=by omega
    simp [q,this]
theorem X9 (fs:List (Nat × Nat)) (k v j:Nat):ZR (qQ fs k v) j = if j = k then some v else ZR fs j:=by
  unfold qQ ZR
  by_cases h:(fs.any fun p=>decide (p.1 = k)) = true
  . rw [if_pos h]
    induction fs with
    | nil=>simp at h
    | cons p fs ih =>
      simp only [List.map_cons,List.find?_cons]
      by_cases q:p.1 = k
      . by_cases e:j = k
        . subst e;simp [q]
        . have:¬ k = j:=fun z=>e z.symm
          simp only [q,if_true,this,decide_false]
          by_cases h2:(fs.any fun p=>decide (p.1 = k)) = true
          . have:=ih h2;simpa [e] using this
          . have hid:fs.map (fun p=>if p.1 = k then (p.1,v) else p) = fs:=by
              conv=>rhs;rw [<- List.map_id fs]
              apply List.map_congr_left
              intro x hx
              have:¬ x.1 = k:=fun z=>h2 (by rw [List.any_eq_true];exact ⟨x,hx,by simpa using z⟩)
              simp [this]
            rw [hid,if_neg e]
      . have h2:(fs.any fun p=>decide (p.1 = k)) = true:=by simpa [List.any_cons,q] using h
        have:=ih h2
        simp only [q,if_false]
        by_cases e:p.1 = j
        . have:¬ j = k:=fun z=>q (e.trans z)
          simp [e,this]
        . simpa [e] using this
  . rw [if_neg h,List.find?_append]
    have hn:∀ p ∈ fs,¬ p.1 = k:=fun p hp z=>h (by rw [List.any_eq_true];exact ⟨p,hp,by simpa using z⟩)
    by_cases e:j = k
    . subst e
      have:fs.find? (fun p=>decide (p.1 = j)) = none:=by
        rw [List.find?_eq_none];intro p hp;simpa using hn p hp
      simp [this]
    . have:¬ k = j:=fun z=>e z.symm
      simp [this,e]
end TR
namespace TR
abbrev Bg:=Nat -> Option Int
def leB (b:Option Int) (x:Int):Prop:=∀ v,b = some v -> v <= x
def ltB (b:Option Int) (x:Int):Prop:=∀ v,b = some v -> v < x
def ltH (x:Int) (h:Option Int):Prop:=∀ v,h = some v -> x < v
def leBB (b c:Option Int):Prop:=∀ v,b = some v -> ∃ u,c = some u /\ v <= u
theorem leBB.refl (b:Option Int):leBB b b:=fun v h=>⟨v,h,Int.le_refl _⟩
theorem leBB.trans {a b c:Option Int} (h:leBB a b) (g:leBB b c):leBB a c:=fun v e=>by
  obtain ⟨u,e1,l1⟩:=h v e
  obtain ⟨x,e2,l2⟩:=g u e1
  exact ⟨x,e2,by omega⟩
theorem leBB.leB {a b:Option Int} {x:Int} (h:leBB a b) (g:leB b x):leB a x:=fun v e=>by
  obtain ⟨u,e1,l1⟩:=h v e
  have:=g u e1;omega
def Zs (b:Option Int) (ks:List Int):Nat -> Option Int
  | 0=>b
  | j + 1=>ks[j]?
structure Jv (room:Nat) (b:Option Int) (p:Pg):Prop where
  sorted:p.ks.Pairwise (· < ·)
  few:p.ks.length <= room
  parts:p.ps.length = p.ks.length + (if p.lv = 0 then 0 else 1)
  low:∀ k ∈ p.ks,leB b k
  lowF:0 < p.lv -> ∀ k ∈ p.ks,ltB b k
  high:∀ k ∈ p.ks,ltH k p.hi
  wide:∀ h,p.hi = some h -> ltB b h
structure Tree (S:Sh) (bg:Bg):Prop where
  room2:2 <= S.room
  root:∃ r:Pg,S.pg[S.top]? = some r /\ ∀ (n:Nat) (p:Pg),S.pg[n]? = some p -> p.lv <= r.lv
  rbg:bg S.top = none
  page:∀ (n:Nat) (p:Pg),S.pg[n]? = some p -> Jv S.room (bg n) p
  link:∀ (n:Nat) (p:Pg),S.pg[n]? = some p -> (p.hi = none /\ p.sd = none) ∨ ∃ (h:Int) (s:Nat) (q:Pg),p.hi = some h /\ p.sd = some s /\ S.pg[s]? = some q /\ q.lv = p.lv /\ bg s = some h
  kid:∀ (n:Nat) (p:Pg),S.pg[n]? = some p -> 0 < p.lv -> ∀ j k,p.ps[j]? = some k -> ∃ (c:Nat) (q:Pg),k = (c:Int) /\ S.pg[c]? = some q /\ q.lv + 1 = p.lv /\ bg c = Zs (bg n) p.ks j
  dis:∀ (n m:Nat) (p q:Pg),S.pg[n]? = some p -> S.pg[m]? = some q -> p.lv = q.lv -> n ≠ m -> (∃ h v,p.hi = some h /\ bg m = some v /\ h <= v) ∨ (∃ h v,q.hi = some h /\ bg n = some v /\ h <= v)
  pred:∀ (n:Nat) (p:Pg),S.pg[n]? = some p -> ∀ v,bg n = some v -> ∃ (m:Nat) (q:Pg),S.pg[m]? = some q /\ q.lv = p.lv /\ q.hi = some v
theorem Tree.uniq {S:Sh} {bg:Bg} (T:Tree S bg) {n m:Nat} {p q:Pg} (hn:S.pg[n]? = some p) (hm:S.pg[m]? = some q) (hl:p.lv = q.lv) (hb:bg n = bg m):n = m:=by
  rcases Nat.decEq n m with h | h
  . exfalso
    rcases T.dis n m p q hn hm hl h with ⟨x,v,h1,h2,h3⟩ | ⟨x,v,h1,h2,h3⟩
    . have:=(T.page n p hn).wide x h1 v (hb.trans h2);omega
    . have:=(T.page m q hm).wide x h1 v (hb.symm.trans h2);omega
  . exact h
structure Grow (S:Sh) (bg:Bg) (S':Sh) (bg':Bg):Prop where
  old:∀ (n:Nat) (p:Pg),S.pg[n]? = some p -> bg' n = bg n /\ ∃ p':Pg,S'.pg[n]? = some p' /\ p'.lv = p.lv
theorem Grow.refl {S:Sh} {bg:Bg}:Grow S bg S bg:=⟨fun n p h=>⟨rfl,p,h,rfl⟩⟩
theorem Grow.trans {S S' S'':Sh} {bg bg' bg'':Bg} (a:Grow S bg S' bg') (b:Grow S' bg' S'' bg''):Grow S bg S'' bg'':=⟨fun n p h=>by
  obtain ⟨e1,p1,h1,l1⟩:=a.old n p h
  obtain ⟨e2,p2,h2,l2⟩:=b.old n p1 h1
  exact ⟨e2.trans e1,p2,h2,l2.trans l1⟩⟩
def Untold (S:Sh) (k:Nat):Prop:=∀ (n:Nat) (p:Pg),S.pg[n]? = some p -> 0 < p.lv -> (k:Int) ∉ p.ps
structure WOk (S:Sh) (bg:Bg) (w:Wk):Prop where
  at_:∀ n:Nat,w.place = some n -> ∃ p:Pg,S.pg[n]? = some p /\ w.goal <= p.lv /\ leB (bg n) w.aim
  none_:w.place = none -> ∀ l f,ZR w.forks l = some f -> l < w.goal
  kept:∀ l f,ZR w.forks l = some f -> ∃ p:Pg,S.pg[f]? = some p /\ p.lv = l
  above:∀ (n:Nat) (p:Pg),w.place = some n -> S.pg[n]? = some p -> ∀ l f,ZR w.forks l = some f -> p.lv < l -> leBB (bg f) (bg n)
  chain:∀ l f l' f',ZR w.forks l = some f -> ZR w.forks l' = some f' -> w.goal <= l -> l < l' -> leBB (bg f') (bg f)
  gap:∀ (n:Nat) (p:Pg),w.place = some n -> S.pg[n]? = some p -> w.goal < p.lv -> ∀ l f,ZR w.forks l = some f -> l < w.goal ∨ p.lv < l
  full:∀ (n:Nat) (p:Pg),w.place = some n -> S.pg[n]? = some p -> ∀ l' f',ZR w.forks l' = some f' -> ∀ l,p.lv < l -> l <= l' -> ∃ f,ZR w.forks l = some f
  tell:0 < w.goal -> ∃ (k:Nat) (q:Pg),w.newp = some k /\ S.pg[k]? = some q /\ q.lv + 1 = w.goal /\ bg k = some w.aim
theorem WOk.grow {S S':Sh} {bg bg':Bg} {w:Wk} (W:WOk S bg w) (g:Grow S bg S' bg'):WOk S' bg' w where
  at_:=fun n h=>by
    obtain ⟨p,h1,h2,h3⟩:=W.at_ n h
    obtain ⟨e,p',h4,h5⟩:=g.old n p h1
    exact ⟨p',h4,by omega,by rw [e];exact h3⟩
  none_:=W.none_
  kept:=fun l f h=>by
    obtain ⟨p,h1,h2⟩:=W.kept l f h
    obtain ⟨e,p',h4,h5⟩:=g.old f p h1
    exact ⟨p',h4,by omega⟩
  above:=fun n p' hp hn l f hf hl=>by
    obtain ⟨p,h1,_⟩:=W.at_ n hp
    obtain ⟨e,p2,h4,h5⟩:=g.old n p h1
    rw [h4] at hn;cases hn
    obtain ⟨pf,h6,_⟩:=W.kept l f hf
    rw [e,(g.old f pf h6).1]
    exact W.above n p hp h1 l f hf (by omega)
  chain:=fun l f l' f' h h' a b=>by
    obtain ⟨p,h1,_⟩:=W.kept l f h
    obtain ⟨p',h1',_⟩:=W.kept l' f' h'
    rw [(g.old f p h1).1,(g.old f' p' h1').1]
    exact W.chain l f l' f' h h' a b
  gap:=fun n p' hp hn a l f hf=>by
    obtain ⟨p,h1,_⟩:=W.at_ n hp
    obtain ⟨e,p2,h4,h5⟩:=g.old n p h1
    rw [h4] at hn;cases hn
    rw [h5]
    exact W.gap n p hp h1 (by omega) l f hf
  full:=fun n p' hp hn l' f' hf l a b=>by
    obtain ⟨p,h1,_⟩:=W.at_ n hp
    obtain ⟨e,p2,h4,h5⟩:=g.old n p h1
    rw [h4] at hn;cases hn
    exact W.full n p hp h1 l' f' hf l (by omega) b
  tell:=fun h=>by
    obtain ⟨k,q,h1,h2,h3,h4⟩:=W.tell h
    obtain ⟨e,p',h5,h6⟩:=g.old k q h2
    exact ⟨k,p',h1,h5,by omega,by rw [e];exact h4⟩
theorem WOk.fresh {S:Sh} {bg:Bg} {w:Wk} (h1:w.place = none) (h2:w.forks = []) (h3:w.goal = 0):WOk S bg w where
  at_:=fun n h=>by rw [h1] at h;cases h
  none_:=fun _ l f h=>by rw [h2] at h;cases h
  kept:=fun l f h=>by rw [h2] at h;cases h
  above:=fun n p h=>by rw [h1] at h;cases h
  chain:=fun l f l' f' h=>by rw [h2] at h;cases h
  gap:=fun n p h=>by rw [h1] at h;cases h
  full:=fun n p h=>by rw [h1] at h;cases h
  tell:=fun h=>by omega
theorem Q2 {α:Type} {xs:List α} {n m:Nat} {x y:α} (h:(xs.set n x)[m]? = some y):(m = n /\ y = x /\ n < xs.length) ∨ (m ≠ n /\ xs[m]? = some y):=by
  by_cases e:m = n
  . subst e
    by_cases hl:m < xs.length
    . rw [List.getElem?_set_self hl] at h;cases h;exact .inl ⟨rfl,rfl,hl⟩
    . rw [List.getElem?_eq_none (by simpa using hl)] at h;cases h
  . rw [List.getElem?_set_ne (Ne.symm e)] at h;exact .inr ⟨e,h⟩
theorem uR {α:Type} {xs:List α} {n m:Nat} {x y:α} (h:xs[m]? = some y):(xs.set n x)[m]? = some (if m = n then x else y):=by
  have hl:=(List.getElem?_eq_some_iff.mp h).1
  by_cases e:m = n
  . subst e;rw [List.getElem?_set_self hl,if_pos rfl]
  . rw [List.getElem?_set_ne (Ne.symm e),h,if_neg e]
theorem Tree.write {S:Sh} {bg:Bg} (T:Tree S bg) {n:Nat} {p p':Pg} {x y:Int} (hn:S.pg[n]? = some p) (hl:p'.lv = p.lv) (hh:p'.hi = p.hi) (hs:p'.sd = p.sd) (ok:Jv S.room (bg n) p')
    (hk:0 < p.lv -> ∀ j k,p'.ps[j]? = some k -> ∃ (c:Nat) (q:Pg),k = (c:Int) /\ S.pg[c]? = some q /\ q.lv + 1 = p.lv /\ bg c = Zs (bg n) p'.ks j) :
    Tree { S with pg:=S.pg.set n p',rd:=x,wr:=y } bg /\ Grow S bg { S with pg:=S.pg.set n p',rd:=x,wr:=y } bg:=by
  have old:∀ (m:Nat) (q:Pg),S.pg[m]? = some q -> ∃ q':Pg,(S.pg.set n p')[m]? = some q' /\ q'.lv = q.lv /\ q'.hi = q.hi /\ q'.sd = q.sd:=fun m q h=>by
    refine ⟨_,uR h,?_⟩
    by_cases e:m = n
    . subst e;rw [hn] at h;cases h;simp [hl,hh,hs]
    . simp [e]
  have new:∀ (m:Nat) (q':Pg),(S.pg.set n p')[m]? = some q' -> ∃ q:Pg,S.pg[m]? = some q /\ q'.lv = q.lv /\ q'.hi = q.hi /\ q'.sd = q.sd:=fun m q' h=>by
    rcases Q2 h with ⟨rfl,rfl,_⟩ | ⟨_,h⟩
    . exact ⟨p,hn,hl,hh,hs⟩
    . exact ⟨q',h,rfl,rfl,rfl⟩
  refine ⟨⟨T.room2,?_,T.rbg,fun m q h=>?_,fun m q h=>?_,fun m q h h0 j k hj=>?_,fun a b q r ha hb hab e=>?_,fun m q h v hv=>?_⟩,⟨fun m q h=>⟨rfl,by obtain ⟨q',h1,h2,_⟩:=old m q h;exact ⟨q',h1,h2⟩⟩⟩⟩
  . obtain ⟨r,h1,h2⟩:=T.root
    obtain ⟨r',h3,h4,_⟩:=old _ _ h1
    exact ⟨r',h3,fun m q h=>by obtain ⟨q0,h5,h6,_⟩:=new m q h;rw [h6,h4];exact h2 m q0 h5⟩
  . rcases Q2 h with ⟨rfl,rfl,_⟩ | ⟨_,h⟩
    . exact ok
    . exact T.page m q h
  . obtain ⟨q0,h1,h2,h3,h4⟩:=new m q h
    rcases T.link m q0 h1 with ⟨a,b⟩ | ⟨x,s,r,a,b,c,d,e⟩
    . exact .inl ⟨h3.trans a,h4.trans b⟩
    . obtain ⟨r',c1,c2,_⟩:=old s r c
      exact .inr ⟨x,s,r',h3.trans a,h4.trans b,c1,by rw [c2,d,h2],e⟩
  . rcases Q2 h with ⟨rfl,rfl,_⟩ | ⟨_,h⟩
    . obtain ⟨c,r,h1,h2,h3,h4⟩:=hk (by omega) j k hj
      obtain ⟨r',c1,c2,_⟩:=old c r h2
      exact ⟨c,r',h1,c1,by omega,h4⟩
    . obtain ⟨c,r,h1,h2,h3,h4⟩:=T.kid m q h h0 j k hj
      obtain ⟨r',c1,c2,_⟩:=old c r h2
      exact ⟨c,r',h1,c1,by omega,h4⟩
  . obtain ⟨q0,h1,h2,h3,_⟩:=new a q ha
    obtain ⟨r0,h5,h6,h7,_⟩:=new b r hb
    rw [h3,h7]
    exact T.dis a b q0 r0 h1 h5 (by omega) e
  . obtain ⟨q0,h1,h2,_⟩:=new m q h
    obtain ⟨a,r,h3,h4,h5⟩:=T.pred m q0 h1 v hv
    obtain ⟨r',c1,c2,c3,_⟩:=old a r h3
    exact ⟨a,r',c1,by omega,c3.trans h5⟩
end TR
namespace TR
theorem Ja {α:Type} {xs:List α} {x:α} {m:Nat} {y:α} (h:(xs ++ [x])[m]? = some y):(m = xs.length /\ y = x) ∨ xs[m]? = some y:=by
  rcases Nat.lt_or_ge m xs.length with q | q
  . rw [List.getElem?_append_left q] at h;exact .inr h
  . rw [List.getElem?_append_right q] at h
    by_cases e:m - xs.length = 0
    . rw [e] at h;simp at h;exact .inl ⟨by omega,h.symm⟩
    . rw [List.getElem?_eq_none (by simp;omega)] at h;cases h
theorem JI {α:Type} {xs:List α} {x:α} {m:Nat} {y:α} (h:xs[m]? = some y):(xs ++ [x])[m]? = some y:=by
  rw [List.getElem?_append_left (List.getElem?_eq_some_iff.mp h).1];exact h
theorem Qw {α:Type} {xs:List α} {m:Nat} {y:α} (h:xs[m]? = some y):m < xs.length:=(List.getElem?_eq_some_iff.mp h).1
def XM (bg:Bg) (l:Nat) (k:Option Int):Bg:=fun i=>if i = l then k else bg i
theorem VZ {bg:Bg} {l:Nat} {k:Option Int} {i:Nat} (h:i < l):XM bg l k i = bg i:=by unfold XM;rw [if_neg (by omega)]
theorem ZW {bg:Bg} {l:Nat} {k:Option Int}:XM bg l k l = k:=by unfold XM;rw [if_pos rfl]
section
variable {S:Sh} {bg:Bg} {n:Nat} {p P:Pg}
theorem Yk (h3:1 <= P.ks.length):P.ks[mid P]? = some (JN P):=by
  have:mid P < P.ks.length:=by unfold mid;omega
  unfold JN
  rw [List.getD_eq_getElem?_getD,List.getElem?_eq_getElem this];rfl
theorem Xi {ks:List Int} (h:ks.Pairwise (· < ·)) {i j:Nat} {x y:Int} (hi:ks[i]? = some x) (hj:ks[j]? = some y) (hij:i < j):x < y:=by
  obtain ⟨a,rfl⟩:=List.getElem?_eq_some_iff.mp hi
  obtain ⟨b,rfl⟩:=List.getElem?_eq_some_iff.mp hj
  exact List.pairwise_iff_getElem.mp h i j a b hij
theorem U9 (ok:Jv P.ks.length (bg n) P) (h3:3 <= P.ks.length):ltB (bg n) (JN P):=by
  intro v hv
  have h0:P.ks[0]? = some (P.ks[0]'(by omega)):=List.getElem?_eq_getElem _
  have a:=ok.low _ (List.getElem_mem (by omega:0 < P.ks.length)) v hv
  have b:=Xi ok.sorted h0 (Yk (P:=P) (by omega)) (by unfold mid;omega)
  omega
theorem QdN (ok:Jv P.ks.length (bg n) P) (h3:3 <= P.ks.length) (hr:P.ks.length <= S.room + 1) (l:Nat):Jv S.room (bg n) (QK P l) where
  sorted:=ok.sorted.sublist (List.take_sublist _ _)
  few:=by show (P.ks.take (mid P)).length <= _;rw [List.length_take];unfold mid;omega
  parts:=by
    show (P.ps.take (Ze P)).length = (P.ks.take (mid P)).length + (if P.lv = 0 then 0 else 1)
    have:=ok.parts
    rw [List.length_take,List.length_take]
    unfold Ze mid
    split at this <;> split <;> simp_all <;> omega
  low:=fun k hk=>ok.low k (List.mem_of_mem_take hk)
  lowF:=fun h k hk=>ok.lowF h k (List.mem_of_mem_take hk)
  high:=fun k hk v hv=>by
    cases hv
    obtain ⟨i,hi,e⟩:=List.mem_iff_getElem.mp hk
    simp only [QK,List.getElem_take] at e
    have hi':i < mid P:=by have:=hi;rw [show (QK P l).ks = P.ks.take (mid P) from rfl,List.length_take] at this;omega
    exact Xi ok.sorted (i:=i) (by rw [<- e];exact List.getElem?_eq_getElem _) (Yk (P:=P) (by omega)) hi'
  wide:=fun h hh=>by cases hh;exact U9 ok h3
theorem QdK (ok:Jv P.ks.length (bg n) P) (h3:3 <= P.ks.length) (hr:P.ks.length <= S.room + 1):Jv S.room (some (JN P)) (QA P) where
  sorted:=ok.sorted.sublist (List.drop_sublist _ _)
  few:=by show (P.ks.drop (Ze P)).length <= _;rw [List.length_drop];unfold Ze mid;split <;> omega
  parts:=by
    show (P.ps.drop (Ze P)).length = (P.ks.drop (Ze P)).length + (if P.lv = 0 then 0 else 1)
    have:=ok.parts
    rw [List.length_drop,List.length_drop]
    unfold Ze mid
    split at this <;> split <;> simp_all <;> omega
  low:=fun k hk v hv=>by
    cases hv
    obtain ⟨i,hi,e⟩:=List.mem_iff_getElem.mp hk
    rw [show (QA P).ks = P.ks.drop (Ze P) from rfl] at hi
    have hi2:Ze P + i < P.ks.length:=by rw [List.length_drop] at hi;omega
    have e':P.ks[Ze P + i]? = some k:=by rw [<- e];rw [List.getElem?_eq_getElem hi2];simp [QA]
    rcases Nat.lt_or_ge (mid P) (Ze P + i) with q | q
    . exact Int.le_of_lt (Xi ok.sorted (Yk (P:=P) (by omega)) e' q)
    . have:mid P = Ze P + i:=by unfold Ze at q ⊢;split <;> simp_all <;> omega
      rw [<- this,Yk (P:=P) (by omega)] at e';cases e';omega
  lowF:=fun h k hk v hv=>by
    cases hv
    obtain ⟨i,hi,e⟩:=List.mem_iff_getElem.mp hk
    rw [show (QA P).ks = P.ks.drop (Ze P) from rfl] at hi
    have hi2:Ze P + i < P.ks.length:=by rw [List.length_drop] at hi;omega
    have e':P.ks[Ze P + i]? = some k:=by rw [<- e];rw [List.getElem?_eq_getElem hi2];simp [QA]
    have h':0 < P.lv:=h
    exact Xi ok.sorted (Yk (P:=P) (by omega)) e' (by unfold Ze;rw [if_neg (by omega)];omega)
  high:=fun k hk=>ok.high k (List.mem_of_mem_drop hk)
  wide:=fun h hh v hv=>by
    cases hv
    exact ok.high _ (List.mem_of_getElem? (Yk (P:=P) (by omega))) h hh
theorem Tree.split (T:Tree S bg) {x y:Int} (hn:S.pg[n]? = some p) (hl:P.lv = p.lv) (hh:P.hi = p.hi) (hs:P.sd = p.sd) (ok:Jv P.ks.length (bg n) P) (h1:S.room < P.ks.length) (h2:P.ks.length <= S.room + 1)
    (hk:0 < p.lv -> ∀ j k,P.ps[j]? = some k -> ∃ (c:Nat) (q:Pg),k = (c:Int) /\ S.pg[c]? = some q /\ q.lv + 1 = p.lv /\ bg c = Zs (bg n) P.ks j) :
    Tree { S with pg:=(S.pg ++ [QA P]).set n (QK P S.pg.length),rd:=x,wr:=y } (XM bg S.pg.length (some (JN P))) /\ Grow S bg { S with pg:=(S.pg ++ [QA P]).set n (QK P S.pg.length),rd:=x,wr:=y } (XM bg S.pg.length (some (JN P))):=by
  have r2:=T.room2
  have h3:3 <= P.ks.length:=by omega
  have hnl:=Qw hn
  have kg:=Yk (P:=P) (by omega)
  have kl:=U9 ok h3
  have kh:∀ h,p.hi = some h -> JN P < h:=fun h e=>ok.high _ (List.mem_of_getElem? kg) h (hh.trans e)
  have bo:∀ m q,S.pg[m]? = some q -> XM bg S.pg.length (some (JN P)) m = bg m:=fun m q h=>VZ (Qw h)
  have old:∀ (m:Nat) (q:Pg),S.pg[m]? = some q -> ∃ q':Pg,((S.pg ++ [QA P]).set n (QK P S.pg.length))[m]? = some q' /\ q'.lv = q.lv /\ (m ≠ n -> q' = q) /\ (m = n -> q' = QK P S.pg.length):=fun m q h=>by
    refine ⟨_,uR (JI h),?_,fun e=>by rw [if_neg e],fun e=>by rw [if_pos e]⟩
    by_cases e:m = n
    . subst e;rw [hn] at h;cases h;rw [if_pos rfl];exact hl
    . rw [if_neg e]
  have gl:((S.pg ++ [QA P]).set n (QK P S.pg.length))[S.pg.length]? = some (QA P):=by
    rw [List.getElem?_set_ne (by omega),List.getElem?_append_right (Nat.le_refl _)];simp
  have gn:((S.pg ++ [QA P]).set n (QK P S.pg.length))[n]? = some (QK P S.pg.length):=by
    rw [List.getElem?_set_self (by simp;omega)]
  have new:∀ (m:Nat) (q:Pg),((S.pg ++ [QA P]).set n (QK P S.pg.length))[m]? = some q -> (m = n /\ q = QK P S.pg.length) ∨ (m = S.pg.length /\ q = QA P) ∨ (m ≠ n /\ S.pg[m]? = some q):=fun m q h=>by
    rcases Q2 h with ⟨a,b,_⟩ | ⟨a,b⟩
    . exact .inl ⟨a,b⟩
    . rcases Ja b with c | c
      . exact .inr (.inl c)
      . exact .inr (.inr ⟨a,c⟩)
  have olv:(QK P S.pg.length).lv = p.lv:=hl
  have nlv:(QA P).lv = p.lv:=hl
  refine ⟨⟨r2,?_,?_,fun m q h=>?_,fun m q h=>?_,fun m q h h0 j k hj=>?_,fun a b q r ha hb hab e=>?_,fun m q h v hv=>?_⟩,⟨fun m q h=>⟨bo m q h,by obtain ⟨q',a,b,_⟩:=old m q h;exact ⟨q',a,b⟩⟩⟩⟩
  . obtain ⟨r,a,b⟩:=T.root
    obtain ⟨r',c,d,_⟩:=old _ _ a
    refine ⟨r',c,fun m q h=>?_⟩
    rcases new m q h with ⟨_,rfl⟩ | ⟨_,rfl⟩ | ⟨_,h⟩
    . rw [olv,d];exact b n p hn
    . rw [nlv,d];exact b n p hn
    . rw [d];exact b m q h
  . obtain ⟨r,a,_⟩:=T.root
    rw [show XM bg S.pg.length (some (JN P)) S.top = bg S.top from bo _ _ a];exact T.rbg
  . rcases new m q h with ⟨rfl,rfl⟩ | ⟨rfl,rfl⟩ | ⟨_,h⟩
    . rw [bo _ _ hn];exact QdN ok h3 h2 _
    . rw [ZW];exact QdK ok h3 h2
    . rw [bo _ _ h];exact T.page m q h
  . rcases new m q h with ⟨rfl,rfl⟩ | ⟨rfl,rfl⟩ | ⟨_,h⟩
    . exact .inr ⟨JN P,S.pg.length,QA P,rfl,rfl,gl,rfl,ZW⟩
    . rcases T.link n p hn with ⟨a,b⟩ | ⟨z,s,r,a,b,c,d,e⟩
      . exact .inl ⟨hh.trans a,hs.trans b⟩
      . obtain ⟨r',c1,c2,_⟩:=old s r c
        exact .inr ⟨z,s,r',hh.trans a,hs.trans b,c1,by rw [c2,d,nlv],by rw [bo _ _ c];exact e⟩
    . rcases T.link m q h with ⟨a,b⟩ | ⟨z,s,r,a,b,c,d,e⟩
      . exact .inl ⟨a,b⟩
      . obtain ⟨r',c1,c2,_⟩:=old s r c
        exact .inr ⟨z,s,r',a,b,c1,by rw [c2,d],by rw [bo _ _ c];exact e⟩
  . have lift:∀ {b0:Option Int} {ks0:List Int} {j0:Nat} {b1:Option Int} {ks1:List Int} {l1:Nat},Zs b0 ks0 j0 = Zs b1 ks1 j -> l1 = p.lv -> (∃ (c:Nat) (q:Pg),k = (c:Int) /\ S.pg[c]? = some q /\ q.lv + 1 = p.lv /\ bg c = Zs b0 ks0 j0) -> ∃ (c:Nat) (q:Pg),k = (c:Int) /\ ((S.pg ++ [QA P]).set n (QK P S.pg.length))[c]? = some q /\ q.lv + 1 = l1 /\ XM bg S.pg.length (some (JN P)) c = Zs b1 ks1 j:=fun {b0 ks0 j0 b1 ks1 l1} e el ⟨c,q,a1,a2,a3,a4⟩=>by
      obtain ⟨q',c1,c2,_⟩:=old c q a2
      exact ⟨c,q',a1,c1,by omega,by rw [bo _ _ a2,a4,e]⟩
    rcases new m q h with ⟨rfl,rfl⟩ | ⟨rfl,rfl⟩ | ⟨_,h⟩
    . rw [olv] at h0
      have hc:Ze P = mid P + 1:=by unfold Ze;rw [if_neg (by omega)]
      have hjl:j < mid P + 1:=by
        have:=Qw hj
        rw [show (QK P S.pg.length).ps = P.ps.take (Ze P) from rfl,List.length_take,hc] at this;omega
      have hj':P.ps[j]? = some k:=by
        rw [show (QK P S.pg.length).ps = P.ps.take (Ze P) from rfl,List.getElem?_take_of_lt (by omega)] at hj;exact hj
      refine lift ?_ olv (hk h0 j k hj')
      rw [bo _ _ hn]
      cases j with
      | zero=>rfl
      | succ i=>show P.ks[i]? = (P.ks.take (mid P))[i]?;rw [List.getElem?_take_of_lt (by omega)]
    . rw [nlv] at h0
      have hc:Ze P = mid P + 1:=by unfold Ze;rw [if_neg (by omega)]
      have hj':P.ps[mid P + 1 + j]? = some k:=by
        rw [show (QA P).ps = P.ps.drop (Ze P) from rfl,List.getElem?_drop,hc] at hj;exact hj
      refine lift ?_ nlv (hk h0 _ k hj')
      rw [ZW]
      cases j with
      | zero=>show P.ks[mid P + 0]? = some (JN P);exact kg
      | succ i=>show P.ks[mid P + 1 + i]? = (P.ks.drop (Ze P))[i]?;rw [List.getElem?_drop,hc]
    . obtain ⟨c,r,a1,a2,a3,a4⟩:=T.kid m q h h0 j k hj
      obtain ⟨r',c1,c2,_⟩:=old c r a2
      exact ⟨c,r',a1,c1,by omega,by rw [bo _ _ a2,bo _ _ h,a4]⟩
  . have on:∀ (b:Nat) (r:Pg),b ≠ n -> S.pg[b]? = some r -> p.lv = r.lv -> (∃ h v,(QK P S.pg.length).hi = some h /\ XM bg S.pg.length (some (JN P)) b = some v /\ h <= v) ∨ (∃ h v,r.hi = some h /\ XM bg S.pg.length (some (JN P)) n = some v /\ h <= v):=fun b r hbn hb hlv=>by
      rcases T.dis n b p r hn hb hlv (Ne.symm hbn) with ⟨h,v,a1,a2,a3⟩ | ⟨h,v,a1,a2,a3⟩
      . exact .inl ⟨JN P,v,rfl,by rw [bo _ _ hb];exact a2,by have:=kh h a1;omega⟩
      . exact .inr ⟨h,v,a1,by rw [bo _ _ hn];exact a2,a3⟩
    have nn:∀ (b:Nat) (r:Pg),b ≠ n -> S.pg[b]? = some r -> p.lv = r.lv -> (∃ h v,(QA P).hi = some h /\ XM bg S.pg.length (some (JN P)) b = some v /\ h <= v) ∨ (∃ h v,r.hi = some h /\ XM bg S.pg.length (some (JN P)) S.pg.length = some v /\ h <= v):=fun b r hbn hb hlv=>by
      rcases T.dis n b p r hn hb hlv (Ne.symm hbn) with ⟨h,v,a1,a2,a3⟩ | ⟨h,v,a1,a2,a3⟩
      . exact .inl ⟨h,v,hh.trans a1,by rw [bo _ _ hb];exact a2,a3⟩
      . exact .inr ⟨h,JN P,a1,ZW,by have:=kl v a2;omega⟩
    rcases new a q ha with ⟨rfl,rfl⟩ | ⟨rfl,rfl⟩ | ⟨na,ha2⟩
    . rcases new b r hb with ⟨rfl,rfl⟩ | ⟨rfl,rfl⟩ | ⟨nb,hb2⟩
      . exact absurd rfl e
      . exact .inl ⟨JN P,JN P,rfl,ZW,Int.le_refl _⟩
      . exact on b r nb hb2 (by rw [<- hab,olv])
    . rcases new b r hb with ⟨rfl,rfl⟩ | ⟨rfl,rfl⟩ | ⟨nb,hb2⟩
      . exact .inr ⟨JN P,JN P,rfl,ZW,Int.le_refl _⟩
      . exact absurd rfl e
      . exact nn b r nb hb2 (by rw [<- hab,nlv])
    . rcases new b r hb with ⟨rfl,rfl⟩ | ⟨rfl,rfl⟩ | ⟨nb,hb2⟩
      . exact (on a q na ha2 (by rw [hab,olv])).symm
      . exact (nn a q na ha2 (by rw [hab,nlv])).symm
      . rcases T.dis a b q r ha2 hb2 hab e with ⟨h,v,a1,a2,a3⟩ | ⟨h,v,a1,a2,a3⟩
        . exact .inl ⟨h,v,a1,by rw [bo _ _ hb2];exact a2,a3⟩
        . exact .inr ⟨h,v,a1,by rw [bo _ _ ha2];exact a2,a3⟩
  . have pr:∀ (l:Nat) (z:Pg),S.pg[l]? = some z -> z.hi = some v -> ∃ (m:Nat) (q:Pg),((S.pg ++ [QA P]).set n (QK P S.pg.length))[m]? = some q /\ q.lv = z.lv /\ q.hi = some v:=fun l z hz hv=>by
      by_cases e:l = n
      . subst e;rw [hn] at hz;cases hz
        exact ⟨_,_,gl,nlv,hh.trans hv⟩
      . obtain ⟨z',c1,c2,c3,_⟩:=old l z hz
        exact ⟨l,z',c1,c2,by rw [c3 e];exact hv⟩
    rcases new m q h with ⟨rfl,rfl⟩ | ⟨rfl,rfl⟩ | ⟨nm,h⟩
    . rw [bo _ _ hn] at hv
      obtain ⟨a,z,b1,b2,b3⟩:=T.pred m p hn v hv
      obtain ⟨c,z',d1,d2,d3⟩:=pr a z b1 b3
      exact ⟨c,z',d1,by rw [d2,b2,olv],d3⟩
    . rw [ZW] at hv
      exact ⟨n,_,gn,by rw [olv,nlv],hv⟩
    . rw [bo _ _ h] at hv
      obtain ⟨a,z,b1,b2,b3⟩:=T.pred m q h v hv
      obtain ⟨c,z',d1,d2,d3⟩:=pr a z b1 b3
      exact ⟨c,z',d1,by rw [d2,b2],d3⟩
end
end TR
namespace TR
section
variable {S:Sh} {bg:Bg} {n:Nat} {p:Pg}
theorem Tree.raise (T:Tree S bg) {r q:Pg} {k:Nat} {aim x y:Int} (hr:S.pg[S.top]? = some r) (hk:S.pg[k]? = some q) (hl:q.lv = r.lv) (hb:bg k = some aim) :
    Tree { S with rd:=x,pg:=S.pg ++ [⟨r.lv + 1,[aim],[(S.top:Int),(k:Int)],none,none⟩],top:=S.pg.length,wr:=y } (XM bg S.pg.length none) /\ Grow S bg { S with rd:=x,pg:=S.pg ++ [⟨r.lv + 1,[aim],[(S.top:Int),(k:Int)],none,none⟩],top:=S.pg.length,wr:=y } (XM bg S.pg.length none):=by
  have r2:=T.room2
  have lev:∀ (m:Nat) (z:Pg),S.pg[m]? = some z -> z.lv <= r.lv:=fun m z h=>by
    obtain ⟨r',a,b⟩:=T.root
    rw [hr] at a;cases a;exact b m z h
  have bo:∀ (m:Nat) (z:Pg),S.pg[m]? = some z -> XM bg S.pg.length none m = bg m:=fun m z h=>VZ (Qw h)
  have gl:(S.pg ++ [(⟨r.lv + 1,[aim],[(S.top:Int),(k:Int)],none,none⟩:Pg)])[S.pg.length]? = some ⟨r.lv + 1,[aim],[(S.top:Int),(k:Int)],none,none⟩:=by simp
  refine ⟨⟨r2,⟨_,gl,fun m z h=>?_⟩,ZW,fun m z h=>?_,fun m z h=>?_,fun m z h h0 j c hj=>?_,fun a b z z' ha hb' hab e=>?_,fun m z h v hv=>?_⟩,⟨fun m z h=>⟨bo m z h,z,JI h,rfl⟩⟩⟩
  . rcases Ja h with ⟨_,rfl⟩ | h
    . exact Nat.le_refl _
    . exact Nat.le_succ_of_le (lev m z h)
  . rcases Ja h with ⟨rfl,rfl⟩ | h
    . rw [ZW]
      exact ⟨by simp,by show 1 <= S.room;omega,by simp,fun k hk v hv=>(by cases hv),fun _ k hk v hv=>(by cases hv),fun k hk v hv=>(by cases hv),fun h hh=>(by cases hh)⟩
    . rw [bo _ _ h];exact T.page m z h
  . rcases Ja h with ⟨rfl,rfl⟩ | h
    . exact .inl ⟨rfl,rfl⟩
    . rcases T.link m z h with a | ⟨z1,s,z2,a,b,c,d,e⟩
      . exact .inl a
      . exact .inr ⟨z1,s,z2,a,b,JI c,d,by rw [bo _ _ c];exact e⟩
  . rcases Ja h with ⟨rfl,rfl⟩ | h
    . match j,hj with
      | 0,hj =>
        cases hj
        exact ⟨S.top,r,rfl,JI hr,rfl,by rw [bo _ _ hr,ZW];exact T.rbg⟩
      | 1,hj =>
        cases hj
        exact ⟨k,q,rfl,JI hk,by show q.lv + 1 = r.lv + 1;omega,by rw [bo _ _ hk];exact hb⟩
      | j + 2,hj=>simp at hj
    . obtain ⟨c',z',a1,a2,a3,a4⟩:=T.kid m z h h0 j c hj
      exact ⟨c',z',a1,JI a2,a3,by rw [bo _ _ a2,bo _ _ h,a4]⟩
  . rcases Ja ha with ⟨rfl,rfl⟩ | ha2
    . rcases Ja hb' with ⟨rfl,rfl⟩ | hb2
      . exact absurd rfl e
      . have:=lev b z' hb2;have:r.lv + 1 = z'.lv:=hab;omega
    . rcases Ja hb' with ⟨rfl,rfl⟩ | hb2
      . have:=lev a z ha2;have:z.lv = r.lv + 1:=hab;omega
      . rcases T.dis a b z z' ha2 hb2 hab e with ⟨h,v,a1,a2,a3⟩ | ⟨h,v,a1,a2,a3⟩
        . exact .inl ⟨h,v,a1,by rw [bo _ _ hb2];exact a2,a3⟩
        . exact .inr ⟨h,v,a1,by rw [bo _ _ ha2];exact a2,a3⟩
  . rcases Ja h with ⟨rfl,rfl⟩ | h
    . rw [ZW] at hv;cases hv
    . rw [bo _ _ h] at hv
      obtain ⟨a,z1,b1,b2,b3⟩:=T.pred m z h v hv
      exact ⟨a,z1,JI b1,b2,b3⟩
theorem zL {k:Int} (h:Za p k = false):ltH k p.hi:=fun v hv=>by
  unfold Za at h;rw [hv] at h;simp at h;omega
theorem xP {room:Nat} (ok:Jv room (bg n) p) (hl:p.lv = 0) {k x:Int} (h1:leB (bg n) k) (h2:ltH k p.hi):Jv (QE p k x).ks.length (bg n) (QE p k x) where
  sorted:=yN ok.sorted k
  few:=Nat.le_refl _
  parts:=by
    have a:=ok.parts
    rw [if_pos hl] at a
    have b:=jS p.ks k
    have c:=JC p.ks k
    show (p.ps.take (cLt p.ks k) ++ x :: p.ps.drop (cLe p.ks k)).length = (p.ks.take (cLt p.ks k) ++ k :: p.ks.drop (cLe p.ks k)).length + (if p.lv = 0 then 0 else 1)
    rw [if_pos hl]
    simp only [List.length_append,List.length_cons,List.length_take,List.length_drop];omega
  low:=fun y hy=>by
    rcases jp ok.sorted hy with rfl | hy
    . exact h1
    . exact ok.low y hy
  lowF:=fun h=>by have:0 < p.lv:=h;omega
  high:=fun y hy=>by
    rcases jp ok.sorted hy with rfl | hy
    . exact h2
    . exact ok.high y hy
  wide:=ok.wide
theorem jK {room:Nat} (ok:Jv room (bg n) p) {k x:Int}:(QE p k x).ks.length <= room + 1:=by
  have b:=jS p.ks k
  have c:=JC p.ks k
  have d:=UR p.ks k
  have e:=ok.few
  show (p.ks.take (cLt p.ks k) ++ k :: p.ks.drop (cLe p.ks k)).length <= _
  simp only [List.length_append,List.length_cons,List.length_take,List.length_drop];omega
theorem v7 {room:Nat} (ok:Jv room (bg n) p) (hl:p.lv = 0) {k:Int}:Jv room (bg n) (without p k) where
  sorted:=vf ok.sorted k
  few:=by
    have b:=jS p.ks k
    have c:=JC p.ks k
    have d:=UR p.ks k
    have e:=ok.few
    show (p.ks.take (cLt p.ks k) ++ p.ks.drop (cLe p.ks k)).length <= _
    simp only [List.length_append,List.length_take,List.length_drop];omega
  parts:=by
    have a:=ok.parts
    rw [if_pos hl] at a
    have b:=jS p.ks k
    have c:=JC p.ks k
    show (p.ps.take (cLt p.ks k) ++ p.ps.drop (cLe p.ks k)).length = (p.ks.take (cLt p.ks k) ++ p.ks.drop (cLe p.ks k)).length + (if p.lv = 0 then 0 else 1)
    rw [if_pos hl]
    simp only [List.length_append,List.length_take,List.length_drop];omega
  low:=fun y hy=>ok.low y (ul hy)
  lowF:=fun h=>by have:0 < p.lv:=h;omega
  high:=fun y hy=>ok.high y (ul hy)
  wide:=ok.wide
theorem GR (T:Tree S bg) (hn:S.pg[n]? = some p) {k:Nat} {q:Pg} {aim:Int} (hk:S.pg[k]? = some q) (hl:q.lv + 1 = p.lv) (hb:bg k = some aim) (hu:Untold S k):aim ∉ p.ks /\ bg n ≠ some aim:=by
  have ok:=T.page n p hn
  have h0:0 < p.lv:=by omega
  have pl:=ok.parts
  rw [if_neg (by omega)] at pl
  have key:∀ j,Zs (bg n) p.ks j = some aim -> j < p.ps.length -> False:=fun j e hj=>by
    obtain ⟨c,z,a1,a2,a3,a4⟩:=T.kid n p hn h0 j _ (List.getElem?_eq_getElem hj)
    have:c = k:=T.uniq a2 hk (by omega) (by rw [a4,e,hb])
    subst this
    exact hu n p hn h0 (by rw [<- a1];exact List.getElem_mem hj)
  refine ⟨fun hm=>?_,fun e=>key 0 e (by omega)⟩
  obtain ⟨i,hi,e⟩:=List.mem_iff_getElem.mp hm
  exact key (i + 1) (by show p.ks[i]? = some aim;rw [List.getElem?_eq_getElem hi,e]) (by omega)
theorem qj {k:Int} {c:Nat} (h:k ∉ p.ks):(QT p k c).ks = p.ks.take (cLt p.ks k) ++ k :: p.ks.drop (cLe p.ks k):=by
  show p.ks.take (cLe p.ks k) ++ k :: p.ks.drop (cLe p.ks k) = _
  rw [kQ h]
theorem Vz {room:Nat} (ok:Jv room (bg n) p) (hl:0 < p.lv) {k:Int} {c:Nat} (hk:k ∉ p.ks) (h1:ltB (bg n) k) (h2:ltH k p.hi):Jv (QT p k c).ks.length (bg n) (QT p k c) where
  sorted:=by rw [qj hk];exact yN ok.sorted k
  few:=Nat.le_refl _
  parts:=by
    have a:=ok.parts
    rw [if_neg (by omega)] at a
    have d:=JC p.ks k
    show (p.ps.take (cLe p.ks k + 1) ++ (c:Int) :: p.ps.drop (cLe p.ks k + 1)).length = (p.ks.take (cLe p.ks k) ++ k :: p.ks.drop (cLe p.ks k)).length + (if p.lv = 0 then 0 else 1)
    rw [if_neg (by omega)]
    simp only [List.length_append,List.length_cons,List.length_take,List.length_drop];omega
  low:=fun y hy=>by
    rw [qj hk] at hy
    rcases jp ok.sorted hy with rfl | hy
    . exact fun v hv=>Int.le_of_lt (h1 v hv)
    . exact ok.low y hy
  lowF:=fun h y hy=>by
    rw [qj hk] at hy
    rcases jp ok.sorted hy with rfl | hy
    . exact h1
    . exact ok.lowF hl y hy
  high:=fun y hy=>by
    rw [qj hk] at hy
    rcases jp ok.sorted hy with rfl | hy
    . exact h2
    . exact ok.high y hy
  wide:=ok.wide
theorem xO {room:Nat} (ok:Jv room (bg n) p) {k:Int} {c:Nat}:(QT p k c).ks.length <= room + 1:=by
  have d:=JC p.ks k
  have e:=ok.few
  show (p.ks.take (cLe p.ks k) ++ k :: p.ks.drop (cLe p.ks k)).length <= _
  simp only [List.length_append,List.length_cons,List.length_take,List.length_drop];omega
theorem KG (T:Tree S bg) (hn:S.pg[n]? = some p) {k:Nat} {q:Pg} {aim:Int} (hk:S.pg[k]? = some q) (hl:q.lv + 1 = p.lv) (hb:bg k = some aim) :
    ∀ j c,(QT p aim k).ps[j]? = some c -> ∃ (c':Nat) (q:Pg),c = (c':Int) /\ S.pg[c']? = some q /\ q.lv + 1 = p.lv /\ bg c' = Zs (bg n) (QT p aim k).ks j:=by
  intro j c hj
  have ok:=T.page n p hn
  have h0:0 < p.lv:=by omega
  have pl:=ok.parts
  rw [if_neg (by omega)] at pl
  have d:=JC p.ks aim
  have hj:(p.ps.take (cLe p.ks aim + 1) ++ (k:Int) :: p.ps.drop (cLe p.ks aim + 1))[j]? = some c:=hj
  show ∃ (c':Nat) (q:Pg),c = (c':Int) /\ S.pg[c']? = some q /\ q.lv + 1 = p.lv /\ bg c' = Zs (bg n) (p.ks.take (cLe p.ks aim) ++ aim :: p.ks.drop (cLe p.ks aim)) j
  have lt:(p.ps.take (cLe p.ks aim + 1)).length = cLe p.ks aim + 1:=by rw [List.length_take];omega
  have lk:(p.ks.take (cLe p.ks aim)).length = cLe p.ks aim:=by rw [List.length_take];omega
  rcases Nat.lt_or_ge j (cLe p.ks aim + 1) with h | h
  . rw [List.getElem?_append_left (by omega),List.getElem?_take_of_lt h] at hj
    obtain ⟨c',z,a1,a2,a3,a4⟩:=T.kid n p hn h0 j c hj
    refine ⟨c',z,a1,a2,a3,?_⟩
    rw [a4]
    cases j with
    | zero=>rfl
    | succ i =>
      show p.ks[i]? = (p.ks.take (cLe p.ks aim) ++ aim :: p.ks.drop (cLe p.ks aim))[i]?
      rw [List.getElem?_append_left (by omega),List.getElem?_take_of_lt (by omega)]
  . rw [List.getElem?_append_right (by omega),lt] at hj
    rcases Nat.lt_or_ge (cLe p.ks aim + 1) j with h2 | h2
    . obtain ⟨i,rfl⟩:∃ i,j = cLe p.ks aim + 2 + i:=⟨j - (cLe p.ks aim + 2),by omega⟩
      rw [show cLe p.ks aim + 2 + i - (cLe p.ks aim + 1) = i + 1 by omega,List.getElem?_cons_succ,List.getElem?_drop] at hj
      obtain ⟨c',z,a1,a2,a3,a4⟩:=T.kid n p hn h0 _ c hj
      refine ⟨c',z,a1,a2,a3,?_⟩
      rw [a4]
      rw [show cLe p.ks aim + 1 + i = (cLe p.ks aim + i) + 1 by omega,show cLe p.ks aim + 2 + i = (cLe p.ks aim + 1 + i) + 1 by omega]
      show p.ks[cLe p.ks aim + i]? = (p.ks.take (cLe p.ks aim) ++ aim :: p.ks.drop (cLe p.ks aim))[cLe p.ks aim + 1 + i]?
      rw [List.getElem?_append_right (by omega),lk,show cLe p.ks aim + 1 + i - cLe p.ks aim = i + 1 by omega,List.getElem?_cons_succ,List.getElem?_drop]
    . have e:j = cLe p.ks aim + 1:=by omega
      subst e
      rw [show cLe p.ks aim + 1 - (cLe p.ks aim + 1) = 0 by omega] at hj
      cases hj
      refine ⟨k,q,rfl,hk,hl,?_⟩
      rw [hb]
      show some aim = (p.ks.take (cLe p.ks aim) ++ aim :: p.ks.drop (cLe p.ks aim))[cLe p.ks aim]?
      rw [List.getElem?_append_right (by omega),lk];simp
end
end TR
namespace TR
structure All (S:Sh) (bg:Bg) (ws:List Wk):Prop where
  ok:∀ (i:Nat) (w:Wk),ws[i]? = some w -> w.ended = false -> WOk S bg w
  unt:∀ (i:Nat) (w:Wk) (k:Nat),ws[i]? = some w -> w.ended = false -> 0 < w.goal -> w.newp = some k -> Untold S k
  diff:∀ (i j:Nat) (w v:Wk) (k:Nat),i ≠ j -> ws[i]? = some w -> ws[j]? = some v -> w.ended = false -> v.ended = false -> 0 < w.goal -> 0 < v.goal -> w.newp = some k -> v.newp ≠ some k
structure Stp (S:Sh) (bg:Bg) (w:Wk) (S':Sh) (bg':Bg) (w':Wk):Prop where
  tree:Tree S' bg'
  grow:Grow S bg S' bg'
  wok:w'.ended = false -> WOk S' bg' w'
  unt:∀ k v,Untold S k -> bg k = some v -> (0 < w.goal -> w.newp ≠ some k) -> Untold S' k
  new:∀ k,w'.ended = false -> 0 < w'.goal -> w'.newp = some k -> Untold S' k /\ ((0 < w.goal /\ w.newp = some k) ∨ S.pg.length <= k)
  room:S'.room = S.room
  len:S'.pg.length <= S.pg.length + 1
theorem All.step {S S':Sh} {bg bg':Bg} {ws:List Wk} {i:Nat} {w w':Wk} (A:All S bg ws) (hi:ws[i]? = some w) (hw:w.ended = false) (st:Stp S bg w S' bg' w'):All S' bg' (ws.set i w') where
  ok:=fun j v hj hv=>by
    rcases Q2 hj with ⟨rfl,rfl,_⟩ | ⟨_,h⟩
    . exact st.wok hv
    . exact (A.ok j v h hv).grow st.grow
  unt:=fun j v k hj hv hg hk=>by
    rcases Q2 hj with ⟨rfl,rfl,_⟩ | ⟨e,h⟩
    . exact (st.new k hv hg hk).1
    . obtain ⟨k',q,a1,a2,a3,a4⟩:=(A.ok j v h hv).tell hg
      rw [hk] at a1;cases a1
      exact st.unt k _ (A.unt j v k h hv hg hk) a4 fun g0=>(A.diff j i v w k e h hi hv hw hg g0 hk)
  diff:=fun a b u v k e ha hb hu hv gu gv hk hk'=>by
    have key:∀ (c:Nat) (x:Wk),c ≠ i -> ws[c]? = some x -> x.ended = false -> 0 < x.goal -> x.newp = some k -> w'.ended = false -> 0 < w'.goal -> w'.newp = some k -> False:=fun c x hc hx he hg hk he' hg' hk'=>by
      rcases (st.new k he' hg' hk').2 with ⟨g0,n0⟩ | l
      . exact A.diff c i x w k hc hx hi he hw hg g0 hk n0
      . obtain ⟨k',q,a1,a2,_⟩:=(A.ok c x hx he).tell hg
        rw [hk] at a1;cases a1
        have:=Qw a2;omega
    rcases Q2 ha with ⟨rfl,rfl,_⟩ | ⟨ea,ha2⟩
    . rcases Q2 hb with ⟨rfl,rfl,_⟩ | ⟨eb,hb2⟩
      . exact e rfl
      . exact key b v eb hb2 hv gv hk' hu gu hk
    . rcases Q2 hb with ⟨rfl,rfl,_⟩ | ⟨eb,hb2⟩
      . exact key a u ea ha2 hu gu hk hv gv hk'
      . exact A.diff a b u v k e ha2 hb2 hu hv gu gv hk hk'
theorem All.put {S:Sh} {bg:Bg} {ws:List Wk} {i:Nat} {w:Wk} (A:All S bg ws) (h1:w.place = none) (h2:w.forks = []) (h3:w.goal = 0):All S bg (ws.set i w) where
  ok:=fun j v hj hv=>by
    rcases Q2 hj with ⟨rfl,rfl,_⟩ | ⟨_,h⟩
    . exact WOk.fresh h1 h2 h3
    . exact A.ok j v h hv
  unt:=fun j v k hj hv hg hk=>by
    rcases Q2 hj with ⟨rfl,rfl,_⟩ | ⟨_,h⟩
    . omega
    . exact A.unt j v k h hv hg hk
  diff:=fun a b u v k e ha hb hu hv gu gv hk=>by
    rcases Q2 ha with ⟨rfl,rfl,_⟩ | ⟨_,ha⟩
    . omega
    . rcases Q2 hb with ⟨rfl,rfl,_⟩ | ⟨_,hb⟩
      . omega
      . exact A.diff a b u v k e ha hb hu hv gu gv hk
theorem Tree.rd {S:Sh} {bg:Bg} (T:Tree S bg) (x y:Int):Tree { S with rd:=x,wr:=y } bg:=⟨T.room2,T.root,T.rbg,T.page,T.link,T.kid,T.dis,T.pred⟩
section
variable {S:Sh} {bg:Bg} {n:Nat} {p P:Pg} {w:Wk}
theorem Untold.set {S:Sh} {n:Nat} {p P:Pg} {k:Nat} {x y:Int} (h:Untold S k) (hn:S.pg[n]? = some p) (hl:P.lv = p.lv) (hs:0 < p.lv -> (k:Int) ∈ P.ps -> (k:Int) ∈ p.ps):Untold { S with pg:=S.pg.set n P,rd:=x,wr:=y } k:=fun m q hm h0 hk=>by
  rcases Q2 hm with ⟨rfl,rfl,_⟩ | ⟨_,hm⟩
  . exact h m p hn (by omega) (hs (by omega) hk)
  . exact h m q hm h0 hk
theorem Untold.halves {S:Sh} {n:Nat} {p P:Pg} {k l:Nat} {x y:Int} (h:Untold S k) (hn:S.pg[n]? = some p) (hl:P.lv = p.lv) (hs:0 < p.lv -> (k:Int) ∈ P.ps -> (k:Int) ∈ p.ps):Untold { S with pg:=(S.pg ++ [QA P]).set n (QK P l),rd:=x,wr:=y } k:=fun m q hm h0 hk=>by
  rcases Q2 hm with ⟨rfl,rfl,_⟩ | ⟨_,hm⟩
  . have h0':0 < P.lv:=h0
    exact h m p hn (by omega) (hs (by omega) (List.mem_of_mem_take hk))
  . rcases Ja hm with ⟨rfl,rfl⟩ | hm
    . have h0':0 < P.lv:=h0
      exact h n p hn (by omega) (hs (by omega) (List.mem_of_mem_drop hk))
    . exact h m q hm h0 hk
theorem Tree.untold_new (T:Tree S bg) {k:Nat} (h:S.pg.length <= k):Untold S k:=fun m q hm h0 hk=>by
  obtain ⟨j,hj,e⟩:=List.mem_iff_getElem.mp hk
  obtain ⟨c,z,a1,a2,_⟩:=T.kid m q hm h0 j _ (List.getElem?_eq_getElem hj)
  rw [e] at a1
  have:k = c:=by omega
  have:=Qw a2;omega
theorem Us (T:Tree S bg) (hn:S.pg[n]? = some p) (hl:P.lv = p.lv) (hh:P.hi = p.hi) (hs:P.sd = p.sd) (ok:Jv P.ks.length (bg n) P) (h2:P.ks.length <= S.room + 1)
    (hk:0 < p.lv -> ∀ j k,P.ps[j]? = some k -> ∃ (c:Nat) (q:Pg),k = (c:Int) /\ S.pg[c]? = some q /\ q.lv + 1 = p.lv /\ bg c = Zs (bg n) P.ks j)
    (W:WOk S bg w) (hw:w.ended = false) (hpl:w.place = some n ∨ w.place = none) (hg:p.lv = w.goal) (hsub:∀ k:Nat,0 < p.lv -> (k:Int) ∈ P.ps -> (k:Int) ∈ p.ps ∨ (0 < w.goal /\ w.newp = some k)) :
    ∃ bg',Stp S bg w (Qr S w n P).2.1 bg' (Qr S w n P).2.2:=by
  unfold Qr
  by_cases hr:P.ks.length <= S.room
  . rw [if_pos hr]
    obtain ⟨T',G⟩:=T.write (x:=S.rd) (y:=S.wr + 1) (p':=P) hn hl hh hs ⟨ok.sorted,hr,ok.parts,ok.low,ok.lowF,ok.high,ok.wide⟩ hk
    refine ⟨bg,T',G,fun h=>(by cases h),fun k v hu hb hne=>hu.set hn hl fun h0 hm=>?_,fun k h=>(by cases h),rfl,(by simp)⟩
    rcases hsub k h0 hm with a | ⟨a,b⟩
    . exact a
    . exact absurd b (hne a)
  . rw [if_neg hr]
    obtain ⟨T',G⟩:=T.split (x:=S.rd) (y:=S.wr + 1 + 1) hn hl hh hs ok (by omega) h2 hk
    have r2:=T.room2
    have kl:=U9 ok (by omega)
    have gl:((S.pg ++ [QA P]).set n (QK P S.pg.length))[S.pg.length]? = some (QA P):=by
      rw [List.getElem?_set_ne (by have:=Qw hn;omega),List.getElem?_append_right (Nat.le_refl _)];simp
    have pln:∀ f,ZR w.forks (p.lv + 1) = some f -> w.place = some n:=fun f hf=>by
      rcases hpl with h | h
      . exact h
      . have:=W.none_ h _ f hf;omega
    refine ⟨_,T',G,fun _=>?_,fun k v hu hb hne=>hu.halves hn hl fun h0 hm=>?_,fun k _ _ e=>?_,rfl,by simp⟩
    . have lv':P.lv = w.goal:=hl.trans hg
      refine ⟨fun f hf=>?_,fun hnone l f hf=>?_,fun l f hf=>?_,fun f q hf hq l f' hf' hlt=>?_,fun l f l' f' hf hf' a b=>?_,fun f q hf hq hlt=>?_,fun f q hf hq l' f' hf' l a b=>?_,fun _=>⟨S.pg.length,QA P,rfl,gl,rfl,ZW⟩⟩
      . have hf:ZR w.forks (P.lv + 1) = some f:=hf
        rw [hl] at hf
        obtain ⟨q,a1,a2⟩:=W.kept _ f hf
        obtain ⟨e,q',a3,a4⟩:=G.old f q a1
        refine ⟨q',a3,?_,?_⟩
        . show P.lv + 1 <= q'.lv;omega
        . rw [e]
          intro v hv
          obtain ⟨u,b1,b2⟩:=W.above n p (pln f hf) hn _ f hf (by omega) v hv
          have:=kl u b1;show v <= JN P;omega
      . have hnone:ZR w.forks (P.lv + 1) = none:=hnone
        show l < P.lv + 1
        rcases Nat.lt_or_ge l (P.lv + 1) with h | h
        . exact h
        . exfalso
          rcases hpl with hp | hp
          . obtain ⟨f0,hf0⟩:=W.full n p hp hn l f hf (P.lv + 1) (by omega) h
            rw [hnone] at hf0;cases hf0
          . have:=W.none_ hp l f hf;omega
      . obtain ⟨q,a1,a2⟩:=W.kept l f hf
        obtain ⟨e,q',a3,a4⟩:=G.old f q a1
        exact ⟨q',a3,by omega⟩
      . have hf:ZR w.forks (P.lv + 1) = some f:=hf
        obtain ⟨q0,a1,a2⟩:=W.kept _ f hf
        obtain ⟨q1,b1,b2⟩:=W.kept _ f' hf'
        obtain ⟨e,q',a3,a4⟩:=G.old f q0 a1
        rw [e,(G.old f' q1 b1).1]
        rw [a3] at hq;cases hq
        exact W.chain _ f l f' hf hf' (by omega) (by omega)
      . obtain ⟨q0,a1,a2⟩:=W.kept _ f hf
        obtain ⟨q1,b1,b2⟩:=W.kept _ f' hf'
        rw [(G.old f q0 a1).1,(G.old f' q1 b1).1]
        have a:P.lv + 1 <= l:=a
        exact W.chain l f l' f' hf hf' (by omega) b
      . have hf:ZR w.forks (P.lv + 1) = some f:=hf
        obtain ⟨q0,a1,a2⟩:=W.kept _ f hf
        obtain ⟨e,q',a3,a4⟩:=G.old f q0 a1
        have hlt2:P.lv + 1 < q.lv:=hlt
        rw [a3] at hq;cases hq
        omega
      . have hf:ZR w.forks (P.lv + 1) = some f:=hf
        obtain ⟨q0,a1,a2⟩:=W.kept _ f hf
        obtain ⟨e,q',a3,a4⟩:=G.old f q0 a1
        rw [a3] at hq;cases hq
        rw [hl] at hf
        exact W.full n p (pln f hf) hn l' f' hf' l (by omega) b
    . rcases hsub k h0 hm with a | ⟨a,b⟩
      . exact a
      . exact absurd b (hne a)
    . have e:S.pg.length = k:=Option.some.inj e
      subst e
      refine ⟨(T.untold_new (Nat.le_refl _)).halves hn hl fun h0 hm=>?_,.inr (Nat.le_refl _)⟩
      obtain ⟨j,hj,e⟩:=List.mem_iff_getElem.mp hm
      obtain ⟨c,z,a1,a2,_⟩:=hk h0 j _ (List.getElem?_eq_getElem hj)
      rw [e] at a1
      have:S.pg.length = c:=by omega
      have:=Qw a2;omega
end
end TR
namespace TR
section
variable {S:Sh} {bg:Bg} {n:Nat} {p:Pg} {w:Wk}
theorem gH {ks:List Int} (h:ks.Pairwise (· < ·)) {k x:Int} {i:Nat} (hi:i < cLe ks k) (hx:ks[i]? = some x):x <= k:=by
  have e:(ks.take (cLe ks k))[i]? = some x:=by rw [List.getElem?_take_of_lt hi];exact hx
  rw [(Ys h k).1] at e
  simpa using (List.mem_filter.mp (List.mem_of_getElem? e)).2
theorem uC (T:Tree S bg) (W:WOk S bg w) (hpl:w.place = some n ∨ w.place = none) (hn:S.pg[n]? = some p) (hg:w.goal <= p.lv) {s:Nat} {q:Pg} {h:Int} (hh:p.hi = some h) (hs:S.pg[s]? = some q) (hl:q.lv = p.lv) (hb:bg s = some h) {w':Wk} (e1:w'.place = some s) (e2:w'.forks = w.forks) (e3:w'.goal = w.goal) (e4:h <= w'.aim) (e5:0 < w.goal -> w'.newp = w.newp /\ w'.aim = w.aim):WOk S bg w' where
  at_:=fun m hm=>by
    rw [e1] at hm;cases hm
    exact ⟨q,hs,by omega,fun v hv=>by rw [hb] at hv;cases hv;exact e4⟩
  none_:=fun hm=>by rw [e1] at hm;cases hm
  kept:=fun l f hf=>W.kept l f (e2 ▸ hf)
  above:=fun m z hm hz l f hf hlt=>by
    rw [e1] at hm;cases hm
    rw [hs] at hz;cases hz
    rw [e2] at hf
    rcases hpl with hp | hp
    . refine (W.above n p hp hn l f hf (by omega)).trans fun v hv=>⟨h,hb,?_⟩
      have:=(T.page n p hn).wide h hh v hv;omega
    . have:=W.none_ hp l f hf;omega
  chain:=fun l f l' f' hf hf' a b=>W.chain l f l' f' (e2 ▸ hf) (e2 ▸ hf') (e3 ▸ a) b
  gap:=fun m z hm hz hlt l f hf=>by
    rw [e1] at hm;cases hm
    rw [hs] at hz;cases hz
    rw [e2] at hf
    rcases hpl with hp | hp
    . rcases W.gap n p hp hn (by omega) l f hf with a | a
      . exact .inl (by omega)
      . exact .inr (by omega)
    . exact .inl (by have:=W.none_ hp l f hf;omega)
  full:=fun m z hm hz l' f' hf' l a b=>by
    rw [e1] at hm;cases hm
    rw [hs] at hz;cases hz
    rw [e2] at hf' ⊢
    rcases hpl with hp | hp
    . exact W.full n p hp hn l' f' hf' l (by omega) b
    . have:=W.none_ hp l' f' hf';omega
  tell:=fun h0=>by
    rw [e3] at h0 ⊢
    obtain ⟨k,z,a1,a2,a3,a4⟩:=W.tell h0
    obtain ⟨b1,b2⟩:=e5 h0
    exact ⟨k,z,b1.trans a1,a2,a3,by rw [b2];exact a4⟩
theorem Qb0 (T:Tree S bg) (W:WOk S bg w) (hpl:w.place = some n ∨ (w.place = none /\ n = S.top)) (hn:S.pg[n]? = some p) (hg:w.goal < p.lv) {c:Nat} {q:Pg} (hc:S.pg[c]? = some q) (hl:q.lv + 1 = p.lv) (hb:bg c = Zs (bg n) p.ks (cLe p.ks w.aim)):WOk S bg { w with forks:=qQ w.forks p.lv n,place:=some c }:=by
  have ok:=T.page n p hn
  have lb:leBB (bg n) (bg c):=by
    rw [hb]
    cases e:cLe p.ks w.aim with
    | zero=>exact leBB.refl _
    | succ i =>
      intro v hv
      have hi:i < p.ks.length:=by have:=JC p.ks w.aim;omega
      refine ⟨p.ks[i],List.getElem?_eq_getElem hi,Int.le_of_lt (ok.lowF (by omega) _ (List.getElem_mem hi) v hv)⟩
  have la:leB (bg n) w.aim:=by
    rcases hpl with hp | ⟨_,rfl⟩
    . obtain ⟨p',a1,a2,a3⟩:=W.at_ n hp
      exact a3
    . intro v hv;rw [T.rbg] at hv;cases hv
  have ca:leB (bg c) w.aim:=by
    rw [hb]
    cases e:cLe p.ks w.aim with
    | zero=>exact la
    | succ i=>intro v hv;exact gH ok.sorted (by omega) hv
  have old:∀ l f,ZR w.forks l = some f -> l ≠ p.lv -> l < w.goal ∨ (p.lv < l /\ w.place = some n):=fun l f hf hne=>by
    rcases hpl with hp | ⟨hp,_⟩
    . rcases W.gap n p hp hn hg l f hf with a | a
      . exact .inl a
      . exact .inr ⟨a,hp⟩
    . exact .inl (W.none_ hp l f hf)
  have gp:∀ l f,ZR (qQ w.forks p.lv n) l = some f -> (l = p.lv /\ f = n) ∨ (l ≠ p.lv /\ ZR w.forks l = some f):=fun l f hf=>by
    rw [X9] at hf
    by_cases e:l = p.lv
    . rw [if_pos e] at hf;cases hf;exact .inl ⟨e,rfl⟩
    . rw [if_neg e] at hf;exact .inr ⟨e,hf⟩
  refine ⟨fun m hm=>?_,fun hm=>(by cases hm),fun l f hf=>?_,fun m z hm hz l f hf hlt=>?_,fun l f l' f' hf hf' a b=>?_,fun m z hm hz hlt l f hf=>?_,fun m z hm hz l' f' hf' l a b=>?_,W.tell⟩
  . cases hm
    refine ⟨q,hc,?_,ca⟩
    show w.goal <= q.lv;omega
  . rcases gp l f hf with ⟨rfl,rfl⟩ | ⟨_,h⟩
    . exact ⟨p,hn,rfl⟩
    . exact W.kept l f h
  . cases hm
    rw [hc] at hz;cases hz
    rcases gp l f hf with ⟨rfl,rfl⟩ | ⟨hne,h⟩
    . exact lb
    . rcases old l f h hne with a | ⟨a,hp⟩
      . omega
      . exact (W.above n p hp hn l f h a).trans lb
  . have a:w.goal <= l:=a
    rcases gp l f hf with ⟨rfl,rfl⟩ | ⟨hne,h⟩
    . rcases gp l' f' hf' with ⟨rfl,rfl⟩ | ⟨hne',h'⟩
      . omega
      . rcases old l' f' h' hne' with c1 | ⟨c1,hp⟩
        . omega
        . exact W.above _ p hp hn l' f' h' c1
    . rcases gp l' f' hf' with ⟨rfl,rfl⟩ | ⟨hne',h'⟩
      . rcases old l f h hne with c1 | ⟨c1,hp⟩ <;> omega
      . exact W.chain l f l' f' h h' a b
  . cases hm
    rw [hc] at hz;cases hz
    show l < w.goal ∨ _
    rcases gp l f hf with ⟨rfl,rfl⟩ | ⟨hne,h⟩
    . exact .inr (by omega)
    . rcases old l f h hne with c1 | ⟨c1,hp⟩
      . exact .inl c1
      . exact .inr (by omega)
  . cases hm
    rw [hc] at hz;cases hz
    by_cases e:l = p.lv
    . exact ⟨n,by rw [X9,if_pos e]⟩
    . rcases gp l' f' hf' with ⟨rfl,rfl⟩ | ⟨hne,h⟩
      . omega
      . rcases old l' f' h hne with c1 | ⟨c1,hp⟩
        . omega
        . obtain ⟨f,hf⟩:=W.full n p hp hn l' f' h l (by omega) b
          exact ⟨f,by rw [X9,if_neg e];exact hf⟩
theorem Stp.of_rd {S':Sh} {bg':Bg} {w':Wk} {x y:Int} (h:Stp { S with rd:=x,wr:=y } bg w S' bg' w'):Stp S bg w S' bg' w':=⟨h.tree,⟨h.grow.old⟩,h.wok,h.unt,h.new,h.room,h.len⟩
theorem Stp.still (T:Tree S bg) {w':Wk} {x y:Int} (hu:0 < w.goal -> ∀ k,w.newp = some k -> Untold S k) (h:w'.ended = false -> WOk S bg w' /\ (w'.goal = w.goal /\ (0 < w.goal -> w'.newp = w.newp))):Stp S bg w { S with rd:=x,wr:=y } bg w' where
  tree:=T.rd x y
  grow:=⟨fun n p h=>⟨rfl,p,h,rfl⟩⟩
  wok:=fun e=>let W:=(h e).1;⟨W.at_,W.none_,W.kept,W.above,W.chain,W.gap,W.full,W.tell⟩
  unt:=fun k v hu _ _=>hu
  new:=fun k e g0 hk=>by
    obtain ⟨_,e1,e2⟩:=h e
    rw [e1] at g0
    rw [e2 g0] at hk
    exact ⟨hu g0 k hk,.inl ⟨g0,hk⟩⟩
  room:=rfl
  len:=Nat.le_succ _
theorem WOk.rd (W:WOk S bg w) (x y:Int):WOk { S with rd:=x,wr:=y } bg w:=⟨W.at_,W.none_,W.kept,W.above,W.chain,W.gap,W.full,W.tell⟩
theorem yr (T:Tree S bg) (W:WOk S bg w) (hw:w.ended = false) (hu:0 < w.goal -> ∀ k,w.newp = some k -> Untold S k):∃ r S' w' bg',Z7 S w = some (r,S',w') /\ Stp S bg w S' bg' w':=by
  obtain ⟨n,hn0,hpl⟩:∃ n,w.place.getD S.top = n /\ (w.place = some n ∨ (w.place = none /\ n = S.top)):=by
    cases e:w.place with
    | none=>exact ⟨S.top,rfl,.inr ⟨rfl,rfl⟩⟩
    | some m=>exact ⟨m,rfl,.inl rfl⟩
  obtain ⟨p,hn⟩:∃ p,S.pg[n]? = some p:=by
    rcases hpl with hp | ⟨_,rfl⟩
    . obtain ⟨p,a,_⟩:=W.at_ n hp;exact ⟨p,a⟩
    . obtain ⟨p,a,_⟩:=T.root;exact ⟨p,a⟩
  have hpl':w.place = some n ∨ w.place = none:=hpl.imp id And.left
  have ok:=T.page n p hn
  have la:leB (bg n) w.aim:=by
    rcases hpl with hp | ⟨_,rfl⟩
    . obtain ⟨p',a1,a2,a3⟩:=W.at_ n hp
      exact a3
    . intro v hv;rw [T.rbg] at hv;cases hv
  unfold Z7
  rw [if_neg (by rw [hw];simp),hn0]
  simp only [hn]
  by_cases hr:w.place = none /\ p.lv < w.goal
  . rw [if_pos hr]
    have htop:n = S.top:=by
      rcases hpl with hp | ⟨_,e⟩
      . rw [hr.1] at hp;cases hp
      . exact e
    subst htop
    obtain ⟨k,q,a1,a2,a3,a4⟩:=W.tell (by omega)
    simp only [a1]
    have lev:q.lv <= p.lv:=by
      obtain ⟨r,b1,b2⟩:=T.root
      rw [hn] at b1;cases b1;exact b2 k q a2
    obtain ⟨T',G⟩:=T.raise (x:=S.rd + 1) (y:=S.wr + 1) hn a2 (by omega) a4
    refine ⟨_,_,_,_,rfl,T',G,fun h=>(by cases h),fun k' v hu' hb hne m z hm h0 hk'=>?_,fun k' h=>(by cases h),rfl,by simp⟩
    rcases Ja hm with ⟨rfl,rfl⟩ | hm
    . have hk2:(k':Int) = (S.top:Int) ∨ (k':Int) = (k:Int):=by simpa using hk'
      rcases hk2 with e | e
      . have:k' = S.top:=by omega
        subst this;rw [T.rbg] at hb;cases hb
      . have:k' = k:=by omega
        subst this;exact hne (by omega) a1
    . exact hu' m z hm h0 hk'
  . rw [if_neg hr]
    have hg:w.goal <= p.lv:=by
      rcases hpl with hp | ⟨hp,_⟩
      . obtain ⟨p',b1,b2,_⟩:=W.at_ n hp
        rw [hn] at b1;cases b1;exact b2
      . exact Nat.le_of_not_lt fun h=>hr ⟨hp,h⟩
    cases hb:Za p w.aim with
    | true =>
      rw [if_pos rfl]
      rcases T.link n p hn with ⟨a,b⟩ | ⟨h,s,q,a,b,c,d,e⟩
      . unfold Za at hb;rw [a] at hb;cases hb
      . simp only [b]
        have ha:h <= w.aim:=by unfold Za at hb;rw [a] at hb;simpa using hb
        exact ⟨_,_,_,bg,rfl,Stp.still T hu fun _=>⟨uC T W hpl' hn hg a c d e rfl rfl rfl ha fun _=>⟨rfl,rfl⟩,rfl,fun _=>rfl⟩⟩
    | false =>
      have lh:=zL hb
      rw [if_neg (by simp)]
      by_cases hd:w.goal < p.lv
      . rw [if_pos hd]
        have pl:=ok.parts
        rw [if_neg (by omega)] at pl
        have hc:cLe p.ks w.aim < p.ps.length:=by have:=JC p.ks w.aim;omega
        obtain ⟨c,q,a1,a2,a3,a4⟩:=T.kid n p hn (by omega) _ _ (List.getElem?_eq_getElem hc)
        rw [List.getElem?_eq_getElem hc,a1]
        simp only [Int.toNat_natCast]
        exact ⟨_,_,_,bg,rfl,Stp.still T hu fun _=>⟨Qb0 T W hpl hn hd a2 a3 a4,rfl,fun _=>rfl⟩⟩
      . rw [if_neg hd]
        have hlv:p.lv = w.goal:=by omega
        by_cases h0:0 < w.goal
        . rw [if_pos h0]
          obtain ⟨k,q,a1,a2,a3,a4⟩:=W.tell h0
          simp only [a1]
          obtain ⟨n1,n2⟩:=GR T hn a2 (by omega) a4 (hu h0 k a1)
          have lt:ltB (bg n) w.aim:=fun v hv=>by
            have:=la v hv
            have:v ≠ w.aim:=fun e=>n2 (by rw [hv,e])
            omega
          obtain ⟨bg',st⟩:=Us (S:={ S with rd:=S.rd + 1,wr:=S.wr }) (P:=QT p w.aim k) (T.rd _ _) hn rfl rfl rfl (Vz ok (by omega) n1 lt lh) (xO ok) (fun _=>KG T hn a2 (by omega) a4) (W.rd _ _) hw hpl' hlv (fun k' _ hm=>by
            rcases List.mem_append.mp hm with hm | hm
            . exact .inl (List.mem_of_mem_take hm)
            . rcases List.mem_cons.mp hm with e | hm
              . have:k' = k:=by omega
                subst this;exact .inr ⟨h0,a1⟩
              . exact .inl (List.mem_of_mem_drop hm))
          exact ⟨_,_,_,bg',rfl,st.of_rd⟩
        . rw [if_neg h0]
          have hz:p.lv = 0:=by omega
          have g0:w.goal = 0:=by omega
          unfold ZF
          cases hdd:w.deed with
          | find k=>exact ⟨_,_,_,bg,rfl,Stp.still T hu fun h=>(by cases h)⟩
          | put k x =>
            have W1:WOk { S with rd:=S.rd + 1,wr:=S.wr } bg ({ deed:=.put k x,aim:=w.aim,goal:=w.goal,place:=w.place,forks:=w.forks,newp:=w.newp,worth:=QG p w.aim,pairs:=w.pairs,ended:=w.ended }:Wk):=⟨W.at_,W.none_,W.kept,W.above,W.chain,W.gap,W.full,W.tell⟩
            obtain ⟨bg',st⟩:=Us (S:={ S with rd:=S.rd + 1,wr:=S.wr }) (w:=({ deed:=.put k x,aim:=w.aim,goal:=w.goal,place:=w.place,forks:=w.forks,newp:=w.newp,worth:=QG p w.aim,pairs:=w.pairs,ended:=w.ended }:Wk)) (P:=QE p w.aim x) (T.rd _ _) hn rfl rfl rfl (xP ok hz la lh) (jK ok) (fun h=>(by omega)) W1 hw hpl' hlv (fun k' h=>(by omega))
            exact ⟨_,_,_,bg',rfl,⟨st.tree,⟨st.grow.old⟩,st.wok,st.unt,st.new,st.room,st.len⟩⟩
          | cut k =>
            dsimp only
            by_cases hs:(QG p w.aim).isSome = true
            . rw [if_pos hs]
              obtain ⟨T',G⟩:=T.write (x:=S.rd + 1) (y:=S.wr + 1) (p':=without p w.aim) hn rfl rfl rfl (v7 ok hz) (fun h=>(by omega))
              exact ⟨_,_,_,bg,rfl,T',G,fun h=>(by cases h),fun k' v hu' _ _=>hu'.set hn rfl fun h=>(by omega),fun k' h=>(by cases h),rfl,by simp⟩
            . rw [if_neg hs]
              exact ⟨_,_,_,bg,rfl,Stp.still T hu fun h=>(by cases h)⟩
          | stretch l h =>
            dsimp only
            rcases T.link n p hn with ⟨a,b⟩ | ⟨x,s,q,a,b,c,d,e⟩
            . simp only [a,b]
              exact ⟨_,_,_,bg,rfl,Stp.still T hu fun h=>(by cases h)⟩
            . simp only [a,b]
              by_cases hx:h <= x
              . rw [if_pos hx]
                exact ⟨_,_,_,bg,rfl,Stp.still T hu fun h=>(by cases h)⟩
              . rw [if_neg hx]
                exact ⟨_,_,_,bg,rfl,Stp.still T hu fun _=>⟨uC T W hpl' hn hg a c d e rfl rfl rfl (Int.le_refl _) (fun z=>(by omega)),rfl,fun _=>rfl⟩⟩
end
end TR
namespace TR
def ltO:Option Int -> Option Int -> Bool
  | none,some _=>true
  | some v,some u=>decide (v < u)
  | _,none=>false
theorem Uf {a b c:Option Int} (h:ltO a b = true) (g:ltO b c = true):ltO a c = true:=by
  cases a <;> cases b <;> cases c <;> simp_all [ltO];omega
theorem yk (a:Option Int):ltO a a = false:=by cases a <;> simp [ltO]
theorem jr {b:Option Int} {h:Int} (w:ltB b h):ltO b (some h) = true:=by
  cases b with
  | none=>rfl
  | some v=>simpa [ltO] using w v rfl
theorem UZ {α:Type} (p q:α -> Bool):∀ l:List α,(∀ x ∈ l,q x = true -> p x = true) -> (l.filter q).length <= (l.filter p).length
  | [],_=>Nat.le_refl _
  | x :: l,h=>by
    have ih:=UZ p q l fun y hy=>h y (List.mem_cons_of_mem _ hy)
    have hx:=h x (by simp)
    by_cases a:q x = true
    . simp [List.filter_cons,a,hx a,ih]
    . by_cases b:p x = true
      . simp [List.filter_cons,a,b];omega
      . simp [List.filter_cons,a,b,ih]
theorem ji {α:Type} (p q:α -> Bool):∀ l:List α,(∀ x ∈ l,q x = true -> p x = true) -> (∃ a ∈ l,p a = true /\ q a = false) -> (l.filter q).length < (l.filter p).length
  | [],_,h=>by obtain ⟨a,h,_⟩:=h;cases h
  | x :: l,h,⟨a,ha,pa,qa⟩=>by
    have le:=UZ p q l fun y hy=>h y (List.mem_cons_of_mem _ hy)
    rcases List.mem_cons.mp ha with rfl | ha
    . simp [List.filter_cons,pa,qa];omega
    . have ih:=ji p q l (fun y hy=>h y (List.mem_cons_of_mem _ hy)) ⟨a,ha,pa,qa⟩
      have hx:=h x (by simp)
      by_cases a:q x = true
      . simp [List.filter_cons,a,hx a];omega
      . by_cases b:p x = true
        . simp [List.filter_cons,a,b];omega
        . simp [List.filter_cons,a,b];omega
section
variable {S:Sh} {bg:Bg}
theorem KC (T:Tree S bg) {n s:Nat} {p:Pg} (hn:S.pg[n]? = some p) (hs:p.sd = some s):∃ h q,p.hi = some h /\ S.pg[s]? = some q /\ q.lv = p.lv /\ bg s = some h /\ ltO (bg n) (bg s) = true:=by
  rcases T.link n p hn with ⟨_,b⟩ | ⟨h,s',q,a,b,c,d,e⟩
  . rw [hs] at b;cases b
  . rw [hs] at b;cases b
    exact ⟨h,q,a,c,d,e,by rw [e];exact jr ((T.page n p hn).wide h a)⟩
def mu (S:Sh) (bg:Bg) (n:Nat):Nat:=((List.range S.pg.length).filter fun m=>ltO (bg n) (bg m)).length
def lvB (S:Sh) (f:Nat -> Bool) (n:Nat):Bool:=match S.pg[n]? with
  | some p=>f p.lv
  | none=>false
theorem XY (S:Sh) (j:Nat):∀ l:List Nat,(l.filter (lvB S fun x=>decide (x < j + 1))).length = (l.filter (lvB S fun x=>decide (x < j))).length + (l.filter (lvB S fun x=>decide (x = j))).length
  | []=>rfl
  | n :: l=>by
    have ih:=XY S j l
    have e:∀ f:Nat -> Bool,((n :: l).filter (lvB S f)).length = (if lvB S f n = true then 1 else 0) + (l.filter (lvB S f)).length:=fun f=>by
      by_cases h:lvB S f n = true
      . simp [List.filter_cons,h];omega
      . simp [List.filter_cons,h]
    rw [e,e,e,ih]
    unfold lvB
    cases S.pg[n]? with
    | none=>simp
    | some p =>
      simp only [decide_eq_true_eq]
      rcases Nat.lt_trichotomy p.lv j with h | h | h
      . rw [if_pos (by omega),if_pos h,if_neg (by omega)];omega
      . rw [if_pos (by omega),if_neg (by omega),if_pos h];omega
      . rw [if_neg (by omega),if_neg (by omega),if_neg (by omega)];omega
theorem yB (S:Sh) (l:List Nat):(l.filter (lvB S fun x=>decide (x < 0))).length = 0:=by
  rw [List.length_eq_zero_iff,List.filter_eq_nil_iff]
  intro n _
  unfold lvB
  cases S.pg[n]? <;> simp
theorem jU {L:Nat} (h:∀ (n:Nat) (p:Pg),S.pg[n]? = some p -> p.lv <= L):((List.range S.pg.length).filter (lvB S fun x=>decide (x < L + 1))).length = S.pg.length:=by
  rw [List.filter_eq_self.mpr,List.length_range]
  intro n hn
  rw [List.mem_range] at hn
  unfold lvB
  rw [List.getElem?_eq_getElem hn]
  have:=h n _ (List.getElem?_eq_getElem hn)
  simp;omega
inductive Lefts (S:Sh) (bg:Bg):Nat -> List Nat -> Prop
  | leaf {n:Nat} {p:Pg}:S.pg[n]? = some p -> p.lv = 0 -> bg n = none -> Lefts S bg n [n]
  | fork {n c:Nat} {p:Pg} {r:List Nat}:S.pg[n]? = some p -> 0 < p.lv -> bg n = none -> p.ps[0]? = some (c:Int) -> Lefts S bg c r -> Lefts S bg n (n :: r)
theorem Gm (T:Tree S bg):∀ (l n:Nat) (p:Pg),p.lv = l -> S.pg[n]? = some p -> bg n = none -> ∃ r,Lefts S bg n r /\ r.length = l + 1
  | 0,n,p,h,hn,hb=>⟨_,.leaf hn h hb,rfl⟩
  | l + 1,n,p,h,hn,hb=>by
    have ok:=T.page n p hn
    have pl:=ok.parts
    rw [if_neg (by omega)] at pl
    have h0:0 < p.ps.length:=by omega
    obtain ⟨c,q,a1,a2,a3,a4⟩:=T.kid n p hn (by omega) 0 _ (List.getElem?_eq_getElem h0)
    obtain ⟨r,b1,b2⟩:=Gm T l c q (by omega) a2 (by rw [a4];exact hb)
    exact ⟨_,.fork hn (by omega) hb (by rw [List.getElem?_eq_getElem h0,a1]) b1,by simp [b2]⟩
theorem Lefts.get {n:Nat} {r:List Nat} (h:Lefts S bg n r):∀ (T:Tree S bg) (p:Pg),S.pg[n]? = some p -> r.length = p.lv + 1 /\ ∀ i c,r[i]? = some c -> ∃ q,S.pg[c]? = some q /\ q.lv + i = p.lv /\ bg c = none:=by
  induction h with
  | @leaf n p0 hn h0 hb =>
    intro T p hp
    rw [hn] at hp;cases hp
    refine ⟨by simp [h0],fun i c hc=>?_⟩
    match i,hc with
    | 0,hc=>cases hc;exact ⟨_,hn,rfl,hb⟩
    | i + 1,hc=>simp at hc
  | @fork n c p0 r hn h0 hb hc l ih =>
    intro T p hp
    rw [hn] at hp;cases hp
    obtain ⟨c',q,a1,a2,a3,a4⟩:=T.kid n p0 hn h0 0 _ hc
    have:c = c':=by omega
    subst this
    obtain ⟨i1,i2⟩:=ih T q a2
    refine ⟨by simp [i1];omega,fun i d hd=>?_⟩
    match i,hd with
    | 0,hd=>cases hd;exact ⟨_,hn,rfl,hb⟩
    | i + 1,hd =>
      obtain ⟨z,b1,b2,b3⟩:=i2 i d (by simpa using hd)
      exact ⟨z,b1,by omega,b3⟩
end
end TR
namespace TR
theorem GC (fs:List (Nat × Nat)) (k v:Nat):(qQ fs k v).length <= fs.length + 1:=by
  unfold qQ;split <;> simp
theorem jH (S:Sh) (w:Wk) (n:Nat) (P:Pg):(Qr S w n P).2.2.forks = w.forks /\ (Qr S w n P).2.2.pairs = w.pairs:=by
  unfold Qr;split <;> exact ⟨rfl,rfl⟩
theorem Gx (p:Pg) (l h:Int):(QM p l h).length <= p.ks.length:=by
  unfold QM
  refine Nat.le_trans (List.length_filter_le _ _) ?_
  rw [List.length_zip];omega
theorem vA (S:Sh) (w:Wk) (n:Nat) (p:Pg):(ZF S w n p).2.2.forks = w.forks /\ (ZF S w n p).2.2.pairs.length <= w.pairs.length + p.ks.length:=by
  obtain ⟨deed,aim,goal,place,forks,newp,worth,pairs,ended⟩:=w
  cases deed with
  | find k=>exact ⟨rfl,by simp [ZF]⟩
  | put k x =>
    have:=jH S ⟨.put k x,aim,goal,place,forks,newp,QG p aim,pairs,ended⟩ n (QE p aim x)
    refine ⟨this.1,?_⟩
    show (Qr S ⟨.put k x,aim,goal,place,forks,newp,QG p aim,pairs,ended⟩ n (QE p aim x)).2.2.pairs.length <= _
    rw [this.2]
    exact Nat.le_add_right _ _
  | cut k=>exact ⟨rfl,by simp [ZF]⟩
  | stretch l h =>
    have pl:=Gx p l h
    unfold ZF
    dsimp only
    split
    . split
      . exact ⟨rfl,by simp;omega⟩
      . exact ⟨rfl,by simp;omega⟩
    . exact ⟨rfl,by simp;omega⟩
theorem Vw {S S':Sh} {w w':Wk} {r:Row} {m:Nat} (hk:∀ (n:Nat) (p:Pg),S.pg[n]? = some p -> p.ks.length <= m) (h:Z7 S w = some (r,S',w')):w'.forks.length <= w.forks.length + 1 /\ w'.pairs.length <= w.pairs.length + m:=by
  unfold Z7 at h
  split at h
  . cases h;exact ⟨by omega,by omega⟩
  . split at h
    . cases h
    . rename_i p hp
      have kl:=hk _ p hp
      split at h
      . split at h
        . cases h
        . cases h;exact ⟨by simp,by simp⟩
      . split at h
        . split at h
          . cases h
          . cases h;exact ⟨by simp,by simp⟩
        . split at h
          . split at h
            . cases h
            . cases h;exact ⟨GC _ _ _,by simp⟩
          . split at h
            . split at h
              . cases h
              . rename_i c hc
                have z:=jH { S with rd:=S.rd + 1 } w (w.place.getD S.top) (QT p w.aim c)
                have e:=Option.some.inj h
                have e2:(Qr { S with rd:=S.rd + 1 } w (w.place.getD S.top) (QT p w.aim c)).2.2 = w':=congrArg (fun t=>t.2.2) e
                rw [e2] at z
                exact ⟨by rw [z.1];omega,by rw [z.2];omega⟩
            . have e:=Option.some.inj h
              have z:=vA { S with rd:=S.rd + 1 } w (w.place.getD S.top) p
              rw [e] at z
              have z2:w'.pairs.length <= w.pairs.length + p.ks.length:=z.2
              have z1:w'.forks = w.forks:=z.1
              exact ⟨by rw [z1];omega,by omega⟩
def fresh (d:Deed):Wk:=⟨d,d.key,0,none,[],none,none,[],false⟩
end TR
namespace D
open PySem PySem.Spec PyProof.Rows L2
def oN:Option Nat -> DV
  | none=>.non
  | some n=>.int n
def pgD (p:TR.Pg):DV:=.tup [.int p.lv,.tup (p.ks.map .int),.tup (p.ps.map .int),opt p.hi,oN p.sd]
def Jq:TR.Deed -> DV
  | .find k=>.tup [.str "find", .int k]
  | .put k w=>.tup [.str "put", .int k,.int w]
  | .cut k=>.tup [.str "cut", .int k]
  | .stretch l h=>.tup [.str "stretch", .int l,.int h]
def fkD (fs:List (Nat × Nat)):List (Key × DV):=fs.map fun p=>(.inl p.1,.int p.2)
def prD (ps:List (Int × Int)):List DV:=ps.map fun p=>.tup [.int p.1,.int p.2]
def wkF (s f q:Nat) (d a g p n w e:DV):List (Str × DV):=[("shelf", .ref s),("deed", d),("aim", a),("goal", g),("place", p),("forks", .ref f),("new_page", n),("worth", w),("pairs", .ref q),("ended", e)]
def wkO (s f q:Nat) (w:TR.Wk):OV:=.ins "Walk" (wkF s f q (Jq w.deed) (.int w.aim) (.int w.goal) (oN w.place) (oN w.newp) (opt w.worth) (.bl w.ended))
def Ve:TR.Row -> DV
  | .non=>.non
  | .side n t=>.tup [.str "side", .int n,.int t]
  | .down n t=>.tup [.str "down", .int n,.int t]
  | .found n w=>.tup [.str "found", .int n,opt w]
  | .put n w k=>.tup [.str "put", .int n,opt w,oN k]
  | .cut n w=>.tup [.str "cut", .int n,opt w]
  | .read n ps none=>.tup [.str "read", .int n,.tup (prD ps),.non,.non]
  | .read n ps (some (t,a))=>.tup [.str "read", .int n,.tup (prD ps),.int t,.int a]
  | .told n k=>.tup [.str "told", .int n,oN k]
  | .raised n t=>.tup [.str "raised", .int n,.int t]
section
variable (s f q:Nat) (d a g p n w e x:DV)
theorem kE:List.lookup ("shelf" : Str) (wkF s f q d a g p n w e) = some (.ref s):=by rfl
theorem jL:List.lookup ("deed" : Str) (wkF s f q d a g p n w e) = some d:=by rfl
theorem Yt:List.lookup ("aim" : Str) (wkF s f q d a g p n w e) = some a:=by rfl
theorem GW:List.lookup ("goal" : Str) (wkF s f q d a g p n w e) = some g:=by rfl
theorem YV:List.lookup ("place" : Str) (wkF s f q d a g p n w e) = some p:=by rfl
theorem UB:List.lookup ("forks" : Str) (wkF s f q d a g p n w e) = some (.ref f):=by rfl
theorem KJ:List.lookup ("new_page" : Str) (wkF s f q d a g p n w e) = some n:=by rfl
theorem YW:List.lookup ("worth" : Str) (wkF s f q d a g p n w e) = some w:=by rfl
theorem kD:List.lookup ("pairs" : Str) (wkF s f q d a g p n w e) = some (.ref q):=by rfl
theorem YU:List.lookup ("ended" : Str) (wkF s f q d a g p n w e) = some e:=by rfl
theorem QcT:(wkF s f q d a g p n w e).length = 10:=rfl
theorem QbA:List.lookup ("go_on" : Str) (wkF s f q d a g p n w e) = none:=by rfl
theorem Qes:List.lookup ("do_deed" : Str) (wkF s f q d a g p n w e) = none:=by rfl
theorem Qet:List.lookup ("tell_fork" : Str) (wkF s f q d a g p n w e) = none:=by rfl
theorem Qeu:List.lookup ("raise_root_over" : Str) (wkF s f q d a g p n w e) = none:=by rfl
theorem QbB:List.lookup ("settle" : Str) (wkF s f q d a g p n w e) = none:=by rfl
theorem Qev:List.lookup ("find_worth" : Str) (wkF s f q d a g p n w e) = none:=by rfl
theorem Qew:List.lookup ("put_pair" : Str) (wkF s f q d a g p n w e) = none:=by rfl
theorem Qex:List.lookup ("cut_key" : Str) (wkF s f q d a g p n w e) = none:=by rfl
theorem Qey:List.lookup ("read_pairs" : Str) (wkF s f q d a g p n w e) = none:=by rfl
theorem jM:List.lookup ("step" : Str) (wkF s f q d a g p n w e) = none:=by rfl
theorem jN:List.lookup ("over" : Str) (wkF s f q d a g p n w e) = none:=by rfl
end
theorem QbU (fs:List (Nat × Nat)) (k v:Nat):Vc (fkD fs) (.inl (k:Int)) (.int v) = fkD (TR.qQ fs k v):=by
  unfold Vc TR.qQ
  have e:((fkD fs).any fun kv=>decide (kv.1 = (.inl (k:Int):Key))) = fs.any fun p=>decide (p.1 = k):=by
    unfold fkD
    rw [List.any_map]
    congr 1
    funext p
    simp only [Function.comp]
    congr 1
    simp
    omega
  rw [e]
  by_cases h:(fs.any fun p=>decide (p.1 = k)) = true
  . rw [if_pos h,if_pos h]
    unfold fkD
    rw [List.map_map,List.map_map]
    apply List.map_congr_left
    intro p _
    simp only [Function.comp]
    by_cases q:p.1 = k
    . simp [q]
    . have:¬ ((p.1:Int) = (k:Int)):=by omega
      simp [q,this]
  . rw [if_neg h,if_neg h]
    simp [fkD]
theorem QbV (fs:List (Nat × Nat)) (k:Nat):zp (fkD fs) (.inl (k:Int)) = (TR.ZR fs k).map fun v=>.int v:=by
  induction fs with
  | nil=>rfl
  | cons p r ih =>
    rw [show fkD (p :: r) = (.inl (p.1:Int),.int p.2) :: fkD r from rfl,kC,ih]
    unfold TR.ZR
    rw [List.find?_cons]
    by_cases q:p.1 = k
    . simp [q]
    . have:¬ ((p.1:Int) = (k:Int)):=by omega
      simp [q,this]
theorem QbT (fs:List (Nat × Nat)):(fkD fs).length = fs.length:=List.length_map _
end D
namespace D
open PySem PySem.Spec PyProof.Rows L2
section
variable {c f m:Str} {o e:DEx} {fa:DAx} {env:En} {hp hp1 hp2:Hs} {a n:Nat} {fs:List (Str × DV)} {d v:DV} {ds:List DV} {F:List DV -> M DV}
theorem Km {α:Type} {k:Nat -> List (Str × DV) -> M α} (h:hp[a]? = some (.ins c fs)):onI c (.ref a) k hp = k a fs hp:=by
  show (Jz a >>= _) hp = _
  rw [Qg (JX h)]
  show (QB (decide (c = c)) >>= fun _=>k a fs) hp = _
  rw [decide_eq_true rfl];rfl
theorem Jn (he:e env hp = some (v,hp1)) (ho:o env hp1 = some (.ref a,hp1)) (h:hp1[a]? = some (.ins c fs)) (hl:fs.length < 1000):Q9 c f o e env hp = some ((.nx,env),hp1.set a (.ins c (Xa f v fs))):=by
  unfold Q9
  rw [Qg he,Qg ho]
  unfold xm
  have:onI c (.ref a) (fun n fs=>do QB (decide (fs.length < 1000));xo n (.ins c (Xa f v fs))) hp1 = some ((),hp1.set a (.ins c (Xa f v fs))):=by
    rw [Km h,decide_eq_true hl];rfl
  rw [Qg this];rfl
theorem Q8 (ho:o env hp = some (.ref a,hp1)) (h:hp1[a]? = some (.ins c fs)) (hf:fs.lookup f = some d):QH c f o env hp = some (d,hp1):=by
  unfold QH
  rw [Qg ho]
  unfold j7
  rw [Km h,hf];rfl
theorem QR (ho:o env hp = some (.ref a,hp)) (h:hp[a]? = some (.ins c fs)) (hm:fs.lookup m = none) (ha:fa env hp = some (ds,hp1)) (hn:ds.length + 1 = n) (hF:F (.ref a :: ds) hp1 = some (d,hp2)):QD c m n F o fa env hp = some (d,hp2):=by
  unfold QD
  rw [Qg ho]
  have:onI c (.ref a) (fun _ fs=>QB (fs.lookup m).isNone) hp = some ((),hp):=by rw [Km h,hm];rfl
  rw [Qg this,Qg ha,decide_eq_true hn]
  show (QB true >>= fun _=>F (.ref a :: ds)) hp1 = _
  exact hF
theorem Xe:Qm env hp = some ([],hp):=rfl
theorem ZQ (h:e env hp = some (v,hp1)):Qc e Qm env hp = some ([v],hp1):=by unfold Qc;rw [Qg h];rfl
theorem ZZ {e':DEx} {v':DV} (h:e env hp = some (v,hp1)) (h':e' env hp1 = some (v',hp2)):Qc e (Qc e' Qm) env hp = some ([v,v'],hp2):=by
  have:=ZQ h'
  unfold Qc at this ⊢;rw [Qg h,Qg this];rfl
theorem Z0 {e' e'':DEx} {v' v'':DV} {hp3:Hs} (h:e env hp = some (v,hp1)) (h':e' env hp1 = some (v',hp2)) (h'':e'' env hp2 = some (v'',hp3)):Qc e (Qc e' (Qc e'' Qm)) env hp = some ([v,v',v''],hp3):=by
  have:=ZZ h' h''
  unfold Qc at this ⊢;rw [Qg h,Qg this];rfl
theorem Qe {i:Nat} (h:env[i]? = some (.val d)):Qd i env hp = some (d,hp):=by unfold Qd;rw [h];rfl
theorem QS {k:Nat} (ha:fa env hp = some (ds,hp1)) (hk:ds.length = k) (hF:F ds hp1 = some (d,hp2)):Qt k F fa env hp = some (d,hp2):=by
  unfold Qt;rw [Qg ha,decide_eq_true hk];exact hF
theorem ZE {c:DTx} {f g:DSx} (h:c env hp = some (true,hp1)):sIf c f g env hp = f env hp1:=by rw [Qbg h];rfl
theorem Zc {c:DTx} {f g:DSx} (h:c env hp = some (false,hp1)):sIf c f g env hp = g env hp1:=by rw [Qbg h];rfl
theorem Zd:ZH env hp = some ((.nx,env),hp):=rfl
theorem U8 {i:Nat} (h:hp[a]? = some (.lst ds)) (hd:ds[i]? = some d):ixG (.ref a) (.int i) hp = some (d,hp):=by
  show (Jz a >>= _) hp = _
  rw [Qg (JX h)]
  show (asI (.int (i:Int)) >>= fun i=>qx (atI ds i)) hp = _
  simp only [asI,pure_bind,Y6 hd];rfl
end
theorem QbP {o:DEx} {fa:DAx} {env:En} {hp:Hs} {a:Nat} {fs:List (Nat × Nat)} {j:Nat} (ho:o env hp = some (.ref a,hp)) (h:hp[a]? = some (.dic (fkD fs))) (ha:fa env hp = some ([.int (j:Int)],hp)):qd "dict" Ym o fa env hp = some (oN (TR.ZR fs j),hp):=by
  unfold qd
  rw [Qg ho]
  have e2:Yl "dict" (.ref a) hp = some ((),hp):=by
    show (Jz a >>= _) hp = _
    rw [Qg (JX h)];rfl
  rw [Qg e2,Qg ha]
  show (Jz a >>= _) hp = _
  rw [Qg (JX h)]
  show some (((zp (fkD fs) (.inl (j:Int))).getD .non),hp) = _
  rw [QbV]
  cases TR.ZR fs j <;> rfl
theorem wl {s f q:Nat} {d a g p n w e:DV}:(wkF s f q d a g p n w e).length < 1000:=by rw [QcT];decide
theorem J2 {xs:List DV} {i:Nat} {d:DV} (h:xs[i]? = some d) (hp:Hs):ixG (.tup xs) (.int i) hp = some (d,hp):=by
  show ixD (.tup xs) (.int i) hp = _
  simp only [ixD,Y6 h];rfl
theorem xi (p:TR.Pg) (hp:Hs):ixG (pgD p) (.int 0) hp = some (.int p.lv,hp):=J2 (i:=0) rfl hp
theorem Qa1 (p:TR.Pg) (hp:Hs):ixG (pgD p) (.int 1) hp = some (.tup (p.ks.map .int),hp):=J2 (i:=1) rfl hp
theorem vI (p:TR.Pg) (hp:Hs):ixG (pgD p) (.int 2) hp = some (.tup (p.ps.map .int),hp):=J2 (i:=2) rfl hp
theorem Qd3 (p:TR.Pg) (hp:Hs):ixG (pgD p) (.int 3) hp = some (opt p.hi,hp):=J2 (i:=3) rfl hp
theorem Qa2 (p:TR.Pg) (hp:Hs):ixG (pgD p) (.int 4) hp = some (oN p.sd,hp):=J2 (i:=4) rfl hp
theorem kZ (d:TR.Deed) (hp:Hs):ixG (Jq d) (.int 1) hp = some (.int d.key,hp):=by cases d <;> exact J2 (i:=1) rfl hp
end D
namespace D
open PySem PySem.Spec PyProof.Rows L2
section
variable {e e' e'' e3 e4:DEx} {fa:DAx} {env:En} {hp hp1 hp2 hp3 hp4 hp5:Hs} {v v' v'' v3 v4 d:DV} {ds:List DV}
theorem JQ (ha:fa env hp = some (ds,hp1)) (hs:ds.length <= 100000):ZC fa env hp = some (.tup ds,hp1):=by
  unfold ZC
  rw [Qg ha]
  have:zH ds = true:=decide_eq_true hs
  rw [this];rfl
theorem kJ (h:e env hp = some (v,hp1)) (h':e' env hp1 = some (v',hp2)) (h'':e'' env hp2 = some (v'',hp3)) (h3:e3 env hp3 = some (v3,hp4)):Qc e (Qc e' (Qc e'' (Qc e3 Qm))) env hp = some ([v,v',v'',v3],hp4):=by
  have:=Z0 h' h'' h3
  unfold Qc at this ⊢;rw [Qg h,Qg this];rfl
theorem kK (h:e env hp = some (v,hp1)) (h':e' env hp1 = some (v',hp2)) (h'':e'' env hp2 = some (v'',hp3)) (h3:e3 env hp3 = some (v3,hp4)) (h4:e4 env hp4 = some (v4,hp5)):Qc e (Qc e' (Qc e'' (Qc e3 (Qc e4 Qm)))) env hp = some ([v,v',v'',v3,v4],hp5):=by
  have:=kJ h' h'' h3 h4
  unfold Qc at this ⊢;rw [Qg h,Qg this];rfl
end
theorem gk {t:DV -> M Bool} {f:DV -> M DV} {p:DV -> Bool} {hp:Hs} (ds:List DV) (ht:∀ d ∈ ds,t d hp = some (p d,hp)) (hf:∀ d ∈ ds,f d hp = some (d,hp)) (hl:ds.length < 100000):ZL (nxD ds) t f 100000 0 hp = some (ds.filter p,hp):=by
  suffices h:∀ (m i n:Nat),m + i = ds.length -> m < n -> ZL (nxD ds) t f n i hp = some ((ds.drop i).filter p,hp) by simpa using h ds.length 0 100000 rfl hl
  intro m
  induction m with
  | zero =>
    intro i n e hn'
    obtain ⟨n,rfl⟩:∃ k,n = k + 1:=⟨n - 1,by omega⟩
    have:i = ds.length:=by omega
    subst this
    have e1:=YB ds ds.length (Nat.le_refl _) hp
    rw [show ds[ds.length]? = none by simp] at e1
    rw [ZL,Qg e1,List.drop_length]
    rfl
  | succ m ih =>
    intro i n e hn'
    obtain ⟨n,rfl⟩:∃ k,n = k + 1:=⟨n - 1,by omega⟩
    have hlt:i < ds.length:=by omega
    have e1:=YB ds i (by omega) hp
    rw [List.getElem?_eq_getElem hlt] at e1
    have hi:=ih (i + 1) n (by omega) (by omega)
    rw [ZL,Qg e1]
    simp only
    rw [Qg (ht ds[i] (List.getElem_mem hlt)),List.drop_eq_getElem_cons hlt]
    cases q:p ds[i] with
    | false=>rw [List.filter_cons_of_neg (by simp [q])];simpa using hi
    | true =>
      rw [List.filter_cons_of_pos q]
      simp only [if_true]
      rw [Qg (hf ds[i] (List.getElem_mem hlt)),Qg hi]
      rfl
theorem uV:∀ (ks ps:List Int),zq (ks.map .int) (ps.map .int) = prD (ks.zip ps)
  | [],_=>by cases ‹List Int› <;> rfl
  | _ :: _,[]=>rfl
  | k :: ks,p :: ps=>by
    show .tup [.int k,.int p] :: zq (ks.map .int) (ps.map .int) = _
    rw [uV ks ps];rfl
def Qct (l h:Int):DV -> Bool
  | .tup [.int x,_]=>decide (l <= x) && decide (x < h)
  | _=>false
theorem vN (l h:Int) (zs:List (Int × Int)):(prD zs).filter (Qct l h) = prD (zs.filter fun q=>decide (l <= q.1) && decide (q.1 < h)):=by
  unfold prD
  rw [List.filter_map];rfl
theorem gA {o:DEx} {fa:DAx} {env:En} {hp:Hs} {a b:Nat} {ds es:List DV} (ho:o env hp = some (.ref a,hp)) (h:hp[a]? = some (.lst ds)) (ha:fa env hp = some ([.ref b],hp)) (hb:hp[b]? = some (.lst es)) (hl:ds.length + es.length <= 100000):qd "list" jt o fa env hp = some (.non,hp.set a (.lst (ds ++ es))):=by
  unfold qd
  rw [Qg ho]
  have e2:Yl "list" (.ref a) hp = some ((),hp):=by
    show (Jz a >>= _) hp = _
    rw [Qg (JX h)];rfl
  rw [Qg e2,Qg ha]
  show (Jz a >>= _) hp = _
  rw [Qg (JX h)]
  show (Jz b >>= _) hp = _
  rw [Qg (JX hb)]
  show (QB (decide (ds.length + es.length <= lim)) >>= fun _=>xo a (.lst (ds ++ es)) >>= fun _=>pure DV.non) hp = _
  rw [show decide (ds.length + es.length <= lim) = true from decide_eq_true hl];rfl
theorem Kq (zs:List (Int × Int)):(prD zs).length = zs.length:=List.length_map _
theorem Qcs (zs ys:List (Int × Int)):prD zs ++ prD ys = prD (zs ++ ys):=by simp [prD]
theorem xh (o:Option Int):isD (opt o) .non = pure (.bl o.isNone):=by cases o <;> rfl
theorem vH (o:Option Int):Gi (opt o) .non = pure (.bl o.isSome):=by cases o <;> rfl
theorem yY (o:Option Nat):isD (oN o) .non = pure (.bl o.isNone):=by cases o <;> rfl
theorem uL {x:Str} (h:PyData.strOk x = true):okP (.str x) = true:=by simp [okP,Uh,toP,SeqAt.shaped,PyData.canLay0,PyData.depth,h]
theorem eqS {x y:Str} (hp:Hs) (h1:PyData.strOk x = true) (h2:PyData.strOk y = true) {b:Bool} (h:(x == y) = b):eqG (.str x) (.str y) hp = some (.bl b,hp):=by
  unfold eqG
  have e:xZ (.str x) (.str y) hp = some (x == y,hp):=by
    rw [uy (uu 39 hp x) (uu 39 hp y) (uL h1) (uL h2)];rfl
  rw [Qg e,h];rfl
section
variable {c c':DTx} {e e':DEx} {env:En} {hp hp1:Hs} {b:Bool}
theorem Qc5 (h:c env hp = some (true,hp1)):eOr c c' env hp = some (true,hp1):=by unfold eOr;rw [Qg h];rfl
theorem K7 (h:c env hp = some (false,hp1)):eOr c c' env hp = c' env hp1:=by unfold eOr;rw [Qg h];rfl
theorem Qae (h:c env hp = some (true,hp1)):Yh c c' env hp = c' env hp1:=by unfold Yh;rw [Qg h];rfl
theorem Qad (h:c env hp = some (false,hp1)):Yh c c' env hp = some (false,hp1):=by unfold Yh;rw [Qg h];rfl
theorem QeM (h:c env hp = some (true,hp1)):eIf c e e' env hp = e env hp1:=by unfold eIf;rw [Qg h];rfl
theorem QeL (h:c env hp = some (false,hp1)):eIf c e e' env hp = e' env hp1:=by unfold eIf;rw [Qg h];rfl
end
theorem yS {S:TR.Sh} {w:TR.Wk} {i:Nat} {p:TR.Pg} {k:Int} (h:w.deed = .find k):TR.ZF S w i p = (.found i (TR.QG p w.aim),S,{ w with worth:=TR.QG p w.aim,ended:=true }):=by
  cases w;simp only at h;subst h;rfl
theorem Ue {S:TR.Sh} {w:TR.Wk} {i:Nat} {p:TR.Pg} {k x:Int} (h:w.deed = .put k x):TR.ZF S w i p = (.put i (TR.QG p w.aim) (TR.Qr S { w with worth:=TR.QG p w.aim } i (TR.QE p w.aim x)).1,(TR.Qr S { w with worth:=TR.QG p w.aim } i (TR.QE p w.aim x)).2.1,(TR.Qr S { w with worth:=TR.QG p w.aim } i (TR.QE p w.aim x)).2.2):=by
  cases w;simp only at h;subst h;rfl
theorem Ud {S:TR.Sh} {w:TR.Wk} {i:Nat} {p:TR.Pg} {k:Int} (h:w.deed = .cut k):TR.ZF S w i p = (.cut i (TR.QG p w.aim),if (TR.QG p w.aim).isSome = true then { S with pg:=S.pg.set i (TR.without p w.aim),wr:=S.wr + 1 } else S,{ w with worth:=TR.QG p w.aim,ended:=true }):=by
  cases w;simp only at h;subst h;rfl
theorem gI {S:TR.Sh} {w:TR.Wk} {i:Nat} {p:TR.Pg} {l h:Int} (e:w.deed = .stretch l h) (h1:p.hi = none):TR.ZF S w i p = (.read i (TR.QM p l h) none,S,{ w with pairs:=w.pairs ++ TR.QM p l h,ended:=true }):=by
  cases w;cases p;simp only at e h1;subst e h1;rfl
theorem QaB {S:TR.Sh} {w:TR.Wk} {i:Nat} {p:TR.Pg} {l h x:Int} {s:Nat} (e:w.deed = .stretch l h) (h1:p.hi = some x) (h2:p.sd = some s):TR.ZF S w i p = if h <= x then (.read i (TR.QM p l h) none,S,{ w with pairs:=w.pairs ++ TR.QM p l h,ended:=true }) else (.read i (TR.QM p l h) (some (s,x)),S,{ w with pairs:=w.pairs ++ TR.QM p l h,aim:=x,place:=some s }):=by
  cases w;cases p;simp only at e h1 h2;subst e h1 h2;rfl
theorem Qel {e o j:DEx} {env:En} {hp:Hs} {a l v:Nat} {fs:List (Nat × Nat)} (he:e env hp = some (.int (v:Int),hp)) (ho:o env hp = some (.ref a,hp)) (hj:j env hp = some (.int (l:Int),hp)) (h:hp[a]? = some (.dic (fkD fs))) (hf:fs.length < 5000):Yd e (gSb o j) env hp = some ((.nx,env),hp.set a (.dic (fkD (TR.qQ fs l v)))):=by
  refine yo he ?_
  unfold gSb
  rw [Qg ho,Qg hj]
  have:=GA (d:=.int (v:Int)) h (show qF (.int (l:Int)) = some (.inl (l:Int)) from rfl) (by rw [QbT];omega)
  rw [QbU] at this
  rw [Qg this];rfl
end D
namespace D
open PySem PySem.Spec PyProof.Rows L2
section
variable {f g:DEx} {fa:DAx} {env:En} {hp hp1 hp2:Hs} {d x y:DV} {ds:List DV} {F:List DV -> M DV}
theorem zM (h:fa env hp = some (ds,hp1)) (hF:F ds hp1 = some (d,hp2)):Jf F fa env hp = some (d,hp2):=by unfold Jf;rw [Qg h];exact hF
theorem Gn (ds:List DV) (hp:Hs):XO [.lst ds] hp = some (.int ds.length,hp):=rfl
theorem QaD {n:Nat} (h:hp[n]? = some (.lst ds)):XO [.ref n] hp = some (.int ds.length,hp):=by
  show (Jz n >>= _) hp = _
  rw [Qg (JX h)];rfl
theorem neI (i j:Int) (hp:Hs):neG (.int i) (.int j) hp = some (.bl (!(i == j)),hp):=by
  unfold neG;rw [Qg (Ga i j hp)];rfl
theorem QfG (i:Int) (hp:Hs):neG (.int i) (.int i) hp = some (.bl false,hp):=by rw [neI];simp
theorem eqI (i j:Int) (hp:Hs):eqG (.int i) (.int j) hp = some (.bl (i == j),hp):=by
  unfold eqG;rw [Qg (Ga i j hp)];rfl
end
theorem KK {f:DIx} {env:En} {hp hp1:Hs} {ds:List DV} (h:f env hp = some (ds,hp1)):xOf f env hp = some (nxD ds,hp1):=by unfold xOf;rw [Qg h];rfl
end D
namespace D
open PySem PySem.Spec PyProof.Rows L2
section
variable {c:DTx} {b:DSx} {n:Nat} {env env1:En} {hp hp1 hp2:Hs}
end
def nD (r:List Nat):List DV:=r.map fun n:Nat=>DV.int (n:Int)
end D
namespace D
open PySem PySem.Spec PyProof.Rows L2
theorem QcH {n:Nat} {body:DSx} {ds:List DV} {env:En} {hp hp1:Hs} (h:body (ds.map .val ++ List.replicate (n - ds.length) .un) hp = some ((.nx,env),hp1)):Q7 n body ds hp = some (.non,hp1):=by
  unfold Q7
  rw [Qg h];rfl
theorem Gz (f:Str) (d:DV):∀ fs:List (Str × DV),(Xa f d fs).length <= fs.length + 1
  | []=>Nat.le_refl _
  | (g,x) :: r=>by
    unfold Xa
    split
    . simp
    . simpa using Gz f d r
theorem JV {f:Str} {d:DV} {fs:List (Str × DV)} {m:Nat} (h:fs.length <= m):(Xa f d fs).length <= m + 1:=Nat.le_trans (Gz f d fs) (Nat.succ_le_succ h)
theorem kj (f g h:DSx) (env:En) (hp:Hs):Qs f (Qs g h) env hp = Qs (Qs f g) h env hp:=by
  cases e:f env hp with
  | none =>
    unfold Qs
    rw [ZG,ZG,ZG,e];rfl
  | some r =>
    obtain ⟨⟨fl,env1⟩,hp1⟩:=r
    cases fl with
    | nx =>
      have e2:Qs f g env hp = g env1 hp1:=Ql e
      rw [Ql e]
      show (Qs g h env1) hp1 = (Qs (Qs f g) h env) hp
      unfold Qs at e2 ⊢
      rw [ZG,ZG,e2]
    | rt d=>rw [Q3 e,Q3 (Q3 e)]
    | bk =>
      have a:∀ k:DSx,Qs f k env hp = some ((.bk,env1),hp1):=fun k=>by unfold Qs;rw [Qg e];rfl
      rw [a];unfold Qs at a ⊢;rw [Qg (a g)];rfl
    | ct =>
      have a:∀ k:DSx,Qs f k env hp = some ((.ct,env1),hp1):=fun k=>by unfold Qs;rw [Qg e];rfl
      rw [a];unfold Qs at a ⊢;rw [Qg (a g)];rfl
end D
namespace D
open PySem PySem.Spec PyProof.Rows L2
section
variable {X:Cx} {e:Expr} {f:DEx} {pos:Pos}
end
end D
namespace D
open PySem PySem.Spec PyProof.Rows L2
def Pl:Nat -> DV -> Prop
  | _,.non=>True
  | _,.bl _=>True
  | _,.int _=>True
  | _,.str x=>PyData.strOk x = true
  | n + 1,.tup ds=>∀ d ∈ ds,Pl n d
  | n + 1,.lst ds=>∀ d ∈ ds,Pl n d
  | _,_=>False
theorem UW:∀ (n:Nat) (d:DV) (k:Nat) (hp:Hs),Pl n d -> drf (n + k + 1) hp d = some d
  | n,.non,k,hp,_=>rfl
  | n,.bl _,k,hp,_=>rfl
  | n,.int _,k,hp,_=>rfl
  | n,.str _,k,hp,_=>rfl
  | 0,.tup ds,k,hp,h=>h.elim
  | 0,.lst ds,k,hp,h=>h.elim
  | 0,.ref _,k,hp,h=>h.elim
  | n + 1,.ref _,k,hp,h=>h.elim
  | n + 1,.tup ds,k,hp,h=>by
    show (ds.mapM (drf (n + 1 + k) hp)).map DV.tup = _
    rw [ze fun d hd=>(by rw [Nat.add_right_comm];exact UW n d k hp (h d hd))];rfl
  | n + 1,.lst ds,k,hp,h=>by
    show (ds.mapM (drf (n + 1 + k) hp)).map DV.lst = _
    rw [ze fun d hd=>(by rw [Nat.add_right_comm];exact UW n d k hp (h d hd))];rfl
theorem Ke:∀ (ds:List DV),(∀ d ∈ ds,(toP d).canLay0 = true) -> PyData.canLayAll0 (toPs ds) = true
  | [],_=>by unfold toPs PyData.canLayAll0;rfl
  | d :: ds,h=>by unfold toPs PyData.canLayAll0;rw [h d (by simp),Ke ds fun x hx=>h x (List.mem_cons_of_mem _ hx)];rfl
theorem yQ:∀ (n:Nat) (d:DV),Pl n d -> (toP d).canLay0 = true
  | n,.non,_=>by unfold toP PyData.canLay0;rfl
  | n,.bl _,_=>by unfold toP PyData.canLay0;rfl
  | n,.int _,_=>by unfold toP PyData.canLay0;rfl
  | n,.str x,h=>by cases n <;> (unfold toP PyData.canLay0;exact h)
  | 0,.tup ds,h=>h.elim
  | 0,.lst ds,h=>h.elim
  | 0,.ref _,h=>h.elim
  | n + 1,.ref _,h=>h.elim
  | n + 1,.tup ds,h=>by unfold toP PyData.canLay0;exact Ke ds fun d hd=>yQ n d (h d hd)
  | n + 1,.lst ds,h=>by unfold toP PyData.canLay0;exact Ke ds fun d hd=>yQ n d (h d hd)
theorem jW (n:Nat):∀ (ds:List DV),(∀ d ∈ ds,(toP d).depth <= n) -> PyData.depthAll (toPs ds) <= n
  | [],_=>by unfold toPs PyData.depthAll;exact Nat.zero_le _
  | d :: ds,h=>by unfold toPs PyData.depthAll;exact Nat.max_le.mpr ⟨h d (by simp),jW n ds fun x hx=>h x (List.mem_cons_of_mem _ hx)⟩
theorem yF:∀ (n:Nat) (d:DV),Pl n d -> (toP d).depth <= n
  | n,.non,_=>by unfold toP PyData.depth;exact Nat.zero_le _
  | n,.bl _,_=>by unfold toP PyData.depth;exact Nat.zero_le _
  | n,.int _,_=>by unfold toP PyData.depth;exact Nat.zero_le _
  | n,.str x,h=>by unfold toP PyData.depth;exact Nat.zero_le _
  | 0,.tup ds,h=>h.elim
  | 0,.lst ds,h=>h.elim
  | 0,.ref _,h=>h.elim
  | n + 1,.ref _,h=>h.elim
  | n + 1,.tup ds,h=>by unfold toP PyData.depth;exact Nat.succ_le_succ (jW n ds fun d hd=>yF n d (h d hd))
  | n + 1,.lst ds,h=>by unfold toP PyData.depth;exact Nat.succ_le_succ (jW n ds fun d hd=>yF n d (h d hd))
theorem xq {n:Nat} {d:DV} (h:Pl n d) (hn:n <= 64):SeqAt.shaped (toP d) = true:=by
  unfold SeqAt.shaped;rw [yQ n d h,decide_eq_true (Nat.le_trans (yF n d h) hn)];rfl
theorem yH {n:Nat} {d:DV} (h:Pl n d) (hn:n < 40) (hp:Hs):drf 40 hp d = some d:=by
  have:=UW n d (39 - n) hp h
  rwa [show n + (39 - n) + 1 = 40 by omega] at this
theorem vL (n:Nat) (i:Int):Pl n (.int i):=by cases n <;> trivial
theorem Qa6 {n:Nat} {x:Str} (h:PyData.strOk x = true):Pl n (.str x):=by cases n <;> exact h
theorem gy {x y:DV} {n m:Nat} (h:Pl n x) (h':Pl m y) (hn:n < 40) (hm:m < 40) (hp:Hs):xZ x y hp = some (PyData.eqv (toP x) (toP y),hp):=by
  unfold xZ vi
  show ((Option.map _ (drf 40 hp x)).bind _) = _
  rw [yH h hn]
  show ((Option.map _ (drf 40 hp y)).bind _) = _
  rw [yH h' hm]
  show (QB (SeqAt.shaped (toP x) && SeqAt.shaped (toP y)) >>= fun _=>pure (PyData.eqv (toP x) (toP y)):M Bool) hp = _
  rw [xq h (by omega),xq h' (by omega)]
  rfl
theorem V8 {x:DV} {n:Nat} (h:Pl n x) (hn:n < 40) (hp:Hs):xZ x x hp = some (true,hp):=by
  rw [gy h h hn hn,SeqAt.eqv_refl _ (yQ n x h)]
theorem Qai {x:DV} {n:Nat} (h:Pl n x) (hn:n < 40) (hp:Hs):eqG x x hp = some (.bl true,hp):=by
  unfold eqG;rw [Qg (V8 h hn hp)];rfl
theorem QaK {x:DV} {n:Nat} (h:Pl n x) (hn:n < 40) (hp:Hs):neG x x hp = some (.bl false,hp):=by
  unfold neG;rw [Qg (V8 h hn hp)];rfl
theorem gz {a:Nat} {ds:List DV} {n:Nat} {hp:Hs} (ha:hp[a]? = some (.lst ds)) (h:∀ d ∈ ds,Pl n d) (hn:n < 38):xZ (.ref a) (.lst ds) hp = some (true,hp):=by
  have hl:Pl (n + 1) (.lst ds):=h
  have e:drf 40 hp (.ref a) = some (.lst ds):=by
    show (match hp[a]? with | some (.lst ds)=>(ds.mapM (drf 39 hp)).map DV.lst | _=>none) = _
    rw [ha]
    show (ds.mapM (drf 39 hp)).map DV.lst = _
    rw [ze fun d hd=>(by have:=UW n d (38 - n) hp (h d hd);rwa [show n + (38 - n) + 1 = 39 by omega] at this)];rfl
  unfold xZ vi
  show ((Option.map _ (drf 40 hp (.ref a))).bind _) = _
  rw [e]
  show ((Option.map _ (drf 40 hp (.lst ds))).bind _) = _
  rw [yH hl (by omega)]
  show (QB (SeqAt.shaped (toP (.lst ds)) && SeqAt.shaped (toP (.lst ds))) >>= fun _=>pure (PyData.eqv (toP (.lst ds)) (toP (.lst ds))):M Bool) hp = _
  rw [xq hl (by omega),SeqAt.eqv_refl _ (yQ _ _ hl)]
  rfl
theorem Qah {a:Nat} {ds:List DV} {n:Nat} {hp:Hs} (ha:hp[a]? = some (.lst ds)) (h:∀ d ∈ ds,Pl n d) (hn:n < 38):eqG (.ref a) (.lst ds) hp = some (.bl true,hp):=by
  unfold eqG;rw [Qg (gz ha h hn)];rfl
theorem qY {t:DV -> M Bool} {f:DV -> M DV} {g:DV -> DV} {hp:Hs} (ds:List DV) (ht:∀ d ∈ ds,t d hp = some (true,hp)) (hf:∀ d ∈ ds,f d hp = some (g d,hp)) (hl:ds.length < 100000):ZL (nxD ds) t f 100000 0 hp = some (ds.map g,hp):=by
  suffices h:∀ (m i n:Nat),m + i = ds.length -> m < n -> ZL (nxD ds) t f n i hp = some ((ds.drop i).map g,hp) by simpa using h ds.length 0 100000 rfl hl
  intro m
  induction m with
  | zero =>
    intro i n e hn'
    obtain ⟨n,rfl⟩:∃ k,n = k + 1:=⟨n - 1,by omega⟩
    have:i = ds.length:=by omega
    subst this
    have e1:=YB ds ds.length (Nat.le_refl _) hp
    rw [show ds[ds.length]? = none by simp] at e1
    rw [ZL,Qg e1,List.drop_length];rfl
  | succ m ih =>
    intro i n e hn'
    obtain ⟨n,rfl⟩:∃ k,n = k + 1:=⟨n - 1,by omega⟩
    have hlt:i < ds.length:=by omega
    have e1:=YB ds i (by omega) hp
    rw [List.getElem?_eq_getElem hlt] at e1
    rw [ZL,Qg e1]
    simp only
    rw [Qg (ht ds[i] (List.getElem_mem hlt)),List.drop_eq_getElem_cons hlt]
    simp only [if_true]
    rw [Qg (hf ds[i] (List.getElem_mem hlt)),Qg (ih (i + 1) n (by omega) (by omega))];rfl
theorem ua {α:Type} {m:M α} {x:α} (h:∀ hp,m hp = some (x,hp)):m = pure x:=funext h
section
variable {env:En} {hp hp1 hp2 hp3 hp4 hp5 hp6 hp7:Hs} {e e' e'' e3 e4 e5 e6:DEx} {v v' v'' v3 v4 v5 v6:DV}
end
end D
namespace D
open PySem PySem.Spec PyProof.Rows L2
section
variable {env:En} {hp hp1 hp2 hp3:Hs} {f g h:DEx} {ds:List DV} {d:DV}
end
end D
namespace TR
def prs (p:Pg):List (Int × Int):=p.ks.zip p.ps
theorem mem_zip_iff {xs ys:List Int} {a b:Int}:(a,b) ∈ xs.zip ys ↔ ∃ i:Nat,xs[i]? = some a /\ ys[i]? = some b:=by
  rw [List.mem_iff_getElem?]
  constructor
  . rintro ⟨i,h⟩
    have:=List.getElem?_zip_eq_some.mp h
    exact ⟨i,this.1,this.2⟩
  . rintro ⟨i,h1,h2⟩
    exact ⟨i,List.getElem?_zip_eq_some.mpr ⟨h1,h2⟩⟩
theorem VG (a b:List Int) (n:Nat):(a.zip b).take n = (a.take n).zip (b.take n):=List.take_zipWith
theorem VF (a b:List Int) (n:Nat):(a.zip b).drop n = (a.drop n).zip (b.drop n):=List.drop_zipWith
theorem vB {ks:List Int} (h:ks.Pairwise (· < ·)) {i:Nat} {a k:Int} (ha:ks[i]? = some a):i < cLt ks k ↔ a < k:=by
  obtain ⟨h1,h2⟩:=qi h k
  constructor
  . intro hi
    have:a ∈ ks.take (cLt ks k):=List.mem_iff_getElem?.mpr ⟨i,by rw [List.getElem?_take,if_pos hi];exact ha⟩
    rw [h1] at this
    simpa using (List.mem_filter.mp this).2
  . intro hl
    refine Nat.lt_of_not_le fun hi=>?_
    have:a ∈ ks.drop (cLt ks k):=List.mem_iff_getElem?.mpr ⟨i - cLt ks k,by rw [List.getElem?_drop,show cLt ks k + (i - cLt ks k) = i by omega];exact ha⟩
    rw [h2] at this
    have:k <= a:=by simpa using (List.mem_filter.mp this).2
    omega
theorem yT {ks:List Int} (h:ks.Pairwise (· < ·)) {i:Nat} {a k:Int} (ha:ks[i]? = some a):i < cLe ks k ↔ a <= k:=by
  obtain ⟨h1,h2⟩:=Ys h k
  constructor
  . intro hi
    have:a ∈ ks.take (cLe ks k):=List.mem_iff_getElem?.mpr ⟨i,by rw [List.getElem?_take,if_pos hi];exact ha⟩
    rw [h1] at this
    simpa using (List.mem_filter.mp this).2
  . intro hl
    refine Nat.lt_of_not_le fun hi=>?_
    have:a ∈ ks.drop (cLe ks k):=List.mem_iff_getElem?.mpr ⟨i - cLe ks k,by rw [List.getElem?_drop,show cLe ks k + (i - cLe ks k) = i by omega];exact ha⟩
    rw [h2] at this
    have:k < a:=by simpa using (List.mem_filter.mp this).2
    omega
theorem kM {ks:List Int} (h:ks.Pairwise (· < ·)) {i:Nat} {k:Int} (hi:ks[i]? = some k):cLt ks k = i /\ cLe ks k = i + 1:=by
  have a:=not_congr (vB (k:=k) h hi)
  have b:=(yT (k:=k) h hi).mpr (Int.le_refl _)
  have c:=kP h k
  have d:=a.mpr (by omega)
  omega
theorem UD {p:Pg} (h:p.ks.Pairwise (· < ·)) {k v:Int}:QG p k = some v ↔ (k,v) ∈ prs p:=by
  unfold QG prs
  rw [mem_zip_iff]
  constructor
  . intro e
    by_cases q:cLt p.ks k = cLe p.ks k
    . rw [if_pos q] at e;cases e
    . rw [if_neg q] at e
      have hk:k ∈ p.ks:=Classical.byContradiction fun z=>q (kQ z)
      obtain ⟨i,hi⟩:=List.mem_iff_getElem?.mp hk
      have:=(kM h hi).1
      exact ⟨i,hi,by rw [<- this];exact e⟩
  . rintro ⟨i,hi,hv⟩
    obtain ⟨a,b⟩:=kM h hi
    rw [if_neg (by omega),a];exact hv
theorem Kr {p:Pg} {k v:Int} (h:(k,v) ∈ prs p):k ∈ p.ks:=by
  obtain ⟨i,h1,_⟩:=mem_zip_iff.mp h
  exact List.mem_of_getElem? h1
theorem KI {p:Pg} (h:p.ks.Pairwise (· < ·)) (hl:p.ps.length = p.ks.length) (k x:Int):prs (QE p k x) = (prs p).take (cLt p.ks k) ++ (k,x) :: (prs p).drop (cLe p.ks k):=by
  unfold QE prs
  rw [List.zip_append (by rw [List.length_take,List.length_take,hl]),List.zip_cons_cons,VG,VF]
theorem GV {p:Pg} (h:p.ks.Pairwise (· < ·)) (hl:p.ps.length = p.ks.length) (k:Int):prs (without p k) = (prs p).take (cLt p.ks k) ++ (prs p).drop (cLe p.ks k):=by
  unfold without prs
  rw [List.zip_append (by rw [List.length_take,List.length_take,hl]),VG,VF]
theorem Uj {p:Pg} (h:p.ks.Pairwise (· < ·)) (k:Int) {a b:Int}:((a,b) ∈ (prs p).take (cLt p.ks k) ∨ (a,b) ∈ (prs p).drop (cLe p.ks k)) ↔ a ≠ k /\ (a,b) ∈ prs p:=by
  have ix:∀ {i:Nat},(prs p)[i]? = some (a,b) -> p.ks[i]? = some a:=fun e=>(List.getElem?_zip_eq_some.mp e).1
  constructor
  . rintro (m | m)
    . obtain ⟨i,hi⟩:=List.mem_iff_getElem?.mp m
      rw [List.getElem?_take] at hi
      by_cases q:i < cLt p.ks k
      . rw [if_pos q] at hi
        have:=(vB h (ix hi)).mp q
        exact ⟨by omega,List.mem_of_getElem? hi⟩
      . rw [if_neg q] at hi;cases hi
    . obtain ⟨i,hi⟩:=List.mem_iff_getElem?.mp m
      rw [List.getElem?_drop] at hi
      have:=(not_congr (yT (k:=k) h (ix hi))).mp (by omega)
      exact ⟨by omega,List.mem_of_getElem? hi⟩
  . rintro ⟨ne,m⟩
    obtain ⟨i,hi⟩:=List.mem_iff_getElem?.mp m
    rcases Int.lt_or_gt_of_ne ne with l | l
    . have:=(vB h (ix hi)).mpr l
      exact .inl (List.mem_iff_getElem?.mpr ⟨i,by rw [List.getElem?_take,if_pos this];exact hi⟩)
    . have:=(not_congr (yT (k:=k) h (ix hi))).mpr (by omega)
      exact .inr (List.mem_iff_getElem?.mpr ⟨i - cLe p.ks k,by rw [List.getElem?_drop,show cLe p.ks k + (i - cLe p.ks k) = i by omega];exact hi⟩)
theorem KH {p:Pg} (h:p.ks.Pairwise (· < ·)) (hl:p.ps.length = p.ks.length) (k x:Int) {a b:Int}:(a,b) ∈ prs (QE p k x) ↔ (a = k /\ b = x) ∨ (a ≠ k /\ (a,b) ∈ prs p):=by
  rw [KI h hl,List.mem_append,List.mem_cons,<- Uj h k]
  constructor
  . rintro (m | m | m)
    . exact .inr (.inl m)
    . cases m;exact .inl ⟨rfl,rfl⟩
    . exact .inr (.inr m)
  . rintro (⟨rfl,rfl⟩ | m | m)
    . exact .inr (.inl rfl)
    . exact .inl m
    . exact .inr (.inr m)
theorem GU {p:Pg} (h:p.ks.Pairwise (· < ·)) (hl:p.ps.length = p.ks.length) (k:Int) {a b:Int}:(a,b) ∈ prs (without p k) ↔ a ≠ k /\ (a,b) ∈ prs p:=by
  rw [GV h hl,List.mem_append,<- Uj h k]
theorem vm {P:Pg} (hz:P.lv = 0) (n:Nat):prs (QK P n) ++ prs (QA P) = prs P:=by
  have hc:Ze P = mid P:=by unfold Ze;rw [if_pos hz]
  unfold prs QK QA
  rw [hc]
  show (P.ks.take (mid P)).zip (P.ps.take (mid P)) ++ (P.ks.drop (mid P)).zip (P.ps.drop (mid P)) = P.ks.zip P.ps
  rw [<- VG,<- VF,List.take_append_drop]
def Lf (S:Sh) (k v:Int):Prop:=∃ (n:Nat) (p:Pg),S.pg[n]? = some p /\ p.lv = 0 /\ (k,v) ∈ prs p
def TabIs (S:Sh) (F:Int -> Option Int):Prop:=∀ k v,F k = some v ↔ Lf S k v
def ku (F:Int -> Option Int) (k x:Int):Int -> Option Int:=fun j=>if j = k then some x else F j
def GQ (F:Int -> Option Int) (k:Int):Int -> Option Int:=fun j=>if j = k then none else F j
def Lo (S:Sh) (n:Nat) (k v:Int):Prop:=∃ (m:Nat) (p:Pg),m ≠ n /\ S.pg[m]? = some p /\ p.lv = 0 /\ (k,v) ∈ prs p
section
variable {S:Sh} {bg:Bg} {n:Nat} {p P:Pg} {k v:Int} {F:Int -> Option Int}
theorem Tree.len0 (T:Tree S bg) (hn:S.pg[n]? = some p) (hz:p.lv = 0):p.ps.length = p.ks.length:=by
  have:=(T.page n p hn).parts;rw [if_pos hz] at this;exact this
theorem Lf.split (hn:S.pg[n]? = some p) (hz:p.lv = 0):Lf S k v ↔ Lo S n k v ∨ (k,v) ∈ prs p:=by
  constructor
  . rintro ⟨m,q,h1,h2,h3⟩
    by_cases e:m = n
    . subst e;rw [hn] at h1;cases h1;exact .inr h3
    . exact .inl ⟨m,q,e,h1,h2,h3⟩
  . rintro (⟨m,q,_,h1,h2,h3⟩ | h)
    . exact ⟨m,q,h1,h2,h3⟩
    . exact ⟨n,p,hn,hz,h⟩
theorem Tree.lo_none (T:Tree S bg) (hn:S.pg[n]? = some p) (hz:p.lv = 0) (h1:leB (bg n) k) (h2:ltH k p.hi):¬ Lo S n k v:=by
  rintro ⟨m,q,e,hm,hq,h3⟩
  have ok:=T.page m q hm
  have hk:=Kr h3
  rcases T.dis n m p q hn hm (by omega) (fun x=>e x.symm) with ⟨h,u,a,b,c⟩ | ⟨h,u,a,b,c⟩
  . have:=h2 h a;have:=ok.low k hk u b;omega
  . have:=h1 u b;have:=ok.high k hk h a;omega
theorem Tree.tab_worth (T:Tree S bg) (hT:TabIs S F) (hn:S.pg[n]? = some p) (hz:p.lv = 0) (h1:leB (bg n) k) (h2:ltH k p.hi):QG p k = F k:=by
  have so:=(T.page n p hn).sorted
  have key:∀ v,QG p k = some v ↔ F k = some v:=fun v=>by
    rw [UD so,hT k v,Lf.split hn hz]
    exact ⟨.inr,fun h=>h.elim (fun h=>absurd h (T.lo_none hn hz h1 h2)) id⟩
  cases e:F k with
  | some v=>exact (key v).mpr e
  | none =>
    cases e':QG p k with
    | none=>rfl
    | some v=>rw [(key v).mp e'] at e;cases e
theorem kn {w:Wk} (hn:S.pg[n]? = some p) (hz:p.lv = 0) (hl:P.lv = p.lv) (k v:Int):Lf (Qr S w n P).2.1 k v ↔ Lo S n k v ∨ (k,v) ∈ prs P:=by
  have ln:=Qw hn
  unfold Qr
  by_cases hr:P.ks.length <= S.room
  . rw [if_pos hr]
    constructor
    . rintro ⟨m,q,h1,h2,h3⟩
      rcases Q2 h1 with ⟨rfl,rfl,_⟩ | ⟨e,h⟩
      . exact .inr h3
      . exact .inl ⟨m,q,e,h,h2,h3⟩
    . rintro (⟨m,q,e,h1,h2,h3⟩ | h)
      . exact ⟨m,q,by show (S.pg.set n P)[m]? = _;rw [List.getElem?_set_ne (fun x=>e x.symm)];exact h1,h2,h3⟩
      . exact ⟨n,P,by show (S.pg.set n P)[n]? = _;rw [List.getElem?_set_self ln],by omega,h⟩
  . rw [if_neg hr]
    have hv:=vm (P:=P) (by omega) S.pg.length
    constructor
    . rintro ⟨m,q,h1,h2,h3⟩
      rcases Q2 (xs:=S.pg ++ [QA P]) h1 with ⟨rfl,rfl,_⟩ | ⟨e,h⟩
      . exact .inr (by rw [<- hv];exact List.mem_append_left _ h3)
      . rcases Ja h with ⟨rfl,rfl⟩ | h
        . exact .inr (by rw [<- hv];exact List.mem_append_right _ h3)
        . exact .inl ⟨m,q,e,h,h2,h3⟩
    . rintro (⟨m,q,e,h1,h2,h3⟩ | h)
      . exact ⟨m,q,by show ((S.pg ++ [QA P]).set n (QK P S.pg.length))[m]? = _;rw [List.getElem?_set_ne (fun x=>e x.symm)];exact JI h1,h2,h3⟩
      . rw [<- hv] at h
        rcases List.mem_append.mp h with h | h
        . exact ⟨n,QK P S.pg.length,by show ((S.pg ++ [QA P]).set n (QK P S.pg.length))[n]? = _;rw [List.getElem?_set_self (by simp;omega)],by show P.lv = 0;omega,h⟩
        . exact ⟨S.pg.length,QA P,by show ((S.pg ++ [QA P]).set n (QK P S.pg.length))[S.pg.length]? = _;rw [List.getElem?_set_ne (by omega)];simp,by show P.lv = 0;omega,h⟩
theorem km {w:Wk} (hn:S.pg[n]? = some p) (hz:0 < p.lv) (hl:P.lv = p.lv) (k v:Int):Lf (Qr S w n P).2.1 k v ↔ Lf S k v:=by
  have ln:=Qw hn
  unfold Qr
  by_cases hr:P.ks.length <= S.room
  . rw [if_pos hr]
    constructor
    . rintro ⟨m,q,h1,h2,h3⟩
      rcases Q2 h1 with ⟨rfl,rfl,_⟩ | ⟨e,h⟩
      . omega
      . exact ⟨m,q,h,h2,h3⟩
    . rintro ⟨m,q,h1,h2,h3⟩
      have e:m ≠ n:=fun e=>by subst e;rw [hn] at h1;cases h1;omega
      exact ⟨m,q,by show (S.pg.set n P)[m]? = _;rw [List.getElem?_set_ne (fun x=>e x.symm)];exact h1,h2,h3⟩
  . rw [if_neg hr]
    constructor
    . rintro ⟨m,q,h1,h2,h3⟩
      rcases Q2 (xs:=S.pg ++ [QA P]) h1 with ⟨rfl,rfl,_⟩ | ⟨e,h⟩
      . have:P.lv = 0:=h2
        omega
      . rcases Ja h with ⟨rfl,rfl⟩ | h
        . have:P.lv = 0:=h2
          omega
        . exact ⟨m,q,h,h2,h3⟩
    . rintro ⟨m,q,h1,h2,h3⟩
      have e:m ≠ n:=fun e=>by subst e;rw [hn] at h1;cases h1;omega
      exact ⟨m,q,by show ((S.pg ++ [QA P]).set n (QK P S.pg.length))[m]? = _;rw [List.getElem?_set_ne (fun x=>e x.symm)];exact JI h1,h2,h3⟩
theorem Tree.tab_put (T:Tree S bg) (hT:TabIs S F) (hn:S.pg[n]? = some p) (hz:p.lv = 0) (h1:leB (bg n) k) (h2:ltH k p.hi) {x:Int} {S':Sh} (hS:∀ a b,Lf S' a b ↔ Lo S n a b ∨ (a,b) ∈ prs (QE p k x)):TabIs S' (ku F k x):=fun a b=>by
  have so:=(T.page n p hn).sorted
  rw [hS,KH so (T.len0 hn hz)]
  unfold ku
  by_cases e:a = k
  . subst e
    rw [if_pos rfl]
    constructor
    . intro h;cases h;exact .inr (.inl ⟨rfl,rfl⟩)
    . rintro (h | ⟨_,rfl⟩ | ⟨h,_⟩)
      . exact absurd h (T.lo_none hn hz h1 h2)
      . rfl
      . exact absurd rfl h
  . rw [if_neg e,hT,Lf.split hn hz]
    constructor
    . rintro (h | h)
      . exact .inl h
      . exact .inr (.inr ⟨e,h⟩)
    . rintro (h | ⟨h,_⟩ | ⟨_,h⟩)
      . exact .inl h
      . exact absurd h e
      . exact .inr h
theorem Tree.tab_cut (T:Tree S bg) (hT:TabIs S F) (hn:S.pg[n]? = some p) (hz:p.lv = 0) (h1:leB (bg n) k) (h2:ltH k p.hi) {S':Sh} (hS:∀ a b,Lf S' a b ↔ Lo S n a b ∨ (a,b) ∈ prs (without p k)):TabIs S' (GQ F k):=fun a b=>by
  have so:=(T.page n p hn).sorted
  rw [hS,GU so (T.len0 hn hz)]
  unfold GQ
  by_cases e:a = k
  . subst e
    rw [if_pos rfl]
    constructor
    . intro h;cases h
    . rintro (h | ⟨h,_⟩)
      . exact absurd h (T.lo_none hn hz h1 h2)
      . exact absurd rfl h
  . rw [if_neg e,hT,Lf.split hn hz]
    exact ⟨fun h=>h.imp id fun h=>⟨e,h⟩,fun h=>h.imp id And.right⟩
theorem TabIs.same {S':Sh} (hT:TabIs S F) (h:S'.pg = S.pg):TabIs S' F:=fun k v=>by
  rw [hT k v];unfold Lf;rw [h]
end
end TR
namespace TR
def Aim (S:Sh) (bg:Bg) (w:Wk):Prop:=w.goal = 0 -> match w.deed with
  | .stretch l h=>l < h /\ (w.aim = l ∨ ∃ (s:Nat) (p:Pg),w.place = some s /\ S.pg[s]? = some p /\ p.lv = 0 /\ bg s = some w.aim /\ l < w.aim /\ w.aim < h)
  | .find k=>w.aim = k
  | .put k _=>w.aim = k
  | .cut k=>w.aim = k
theorem Aim.grow {S S':Sh} {bg bg':Bg} {w:Wk} (A:Aim S bg w) (g:Grow S bg S' bg'):Aim S' bg' w:=fun h0=>by
  have a:=A h0
  cases hd:w.deed with
  | find k=>rw [hd] at a;exact a
  | put k x=>rw [hd] at a;exact a
  | cut k=>rw [hd] at a;exact a
  | stretch l h =>
    rw [hd] at a
    obtain ⟨a1,a2⟩:=a
    refine ⟨a1,a2.imp id ?_⟩
    rintro ⟨s,p,b1,b2,b0,b3,b4⟩
    obtain ⟨e,p',e1,e2⟩:=g.old s p b2
    exact ⟨s,p',b1,e1,e2.trans b0,by rw [e];exact b3,b4⟩
def Rds (F:Int -> Option Int) (a e:Int) (ps:List (Int × Int)):Prop:=ps.Pairwise (fun x y=>x.1 < y.1) /\ ∀ k v,(k,v) ∈ ps ↔ F k = some v /\ a <= k /\ k < e
def Did (F F':Int -> Option Int) (w w':Wk):Row -> Prop
  | .non=>False
  | .found _ x=>∃ k,w.deed = .find k /\ x = F k /\ F' = F /\ w'.worth = F k /\ w'.pairs = w.pairs /\ w'.ended = true
  | .put _ x t=>∃ k y,w.deed = .put k y /\ x = F k /\ F' = ku F k y /\ w'.worth = F k /\ w'.pairs = w.pairs /\ w'.ended = t.isNone /\ (w'.ended = false -> 0 < w'.goal)
  | .cut _ x=>∃ k,w.deed = .cut k /\ x = F k /\ F' = GQ F k /\ w'.worth = F k /\ w'.pairs = w.pairs /\ w'.ended = true
  | .read _ ps t=>∃ l h,w.deed = .stretch l h /\ F' = F /\ w'.pairs = w.pairs ++ ps /\ w'.worth = w.worth /\ match t with
    | none=>Rds F w.aim h ps /\ w'.ended = true
    | some (_,x)=>w.aim < x /\ x < h /\ Rds F w.aim x ps /\ w'.aim = x /\ w'.ended = false /\ w'.goal = 0
  | .side _ _=>F' = F /\ w'.worth = w.worth /\ w'.pairs = w.pairs /\ w'.ended = false /\ w'.goal = w.goal /\ w'.aim = w.aim
  | .down _ _=>F' = F /\ w'.worth = w.worth /\ w'.pairs = w.pairs /\ w'.ended = false /\ w'.goal = w.goal /\ w'.aim = w.aim
  | .told _ t=>0 < w.goal /\ F' = F /\ w'.worth = w.worth /\ w'.pairs = w.pairs /\ w'.ended = t.isNone /\ (w'.ended = false -> 0 < w'.goal)
  | .raised _ _=>0 < w.goal /\ F' = F /\ w'.worth = w.worth /\ w'.pairs = w.pairs /\ w'.ended = true
theorem vO {p:Pg} (h:p.ks.Pairwise (· < ·)):(prs p).Pairwise (fun x y=>x.1 < y.1):=by
  rw [List.pairwise_iff_getElem] at h ⊢
  intro i j hi hj hij
  have a:(prs p)[i].1 = p.ks[i]'(by have:=hi;simp [prs] at this;omega):=by simp [prs]
  have b:(prs p)[j].1 = p.ks[j]'(by have:=hj;simp [prs] at this;omega):=by simp [prs]
  rw [a,b];exact h i j _ _ hij
section
variable {S S':Sh} {bg:Bg} {n:Nat} {p P:Pg} {w w':Wk} {F:Int -> Option Int} {r:Row}
theorem Ut (S:Sh) (w:Wk) (n:Nat) (P:Pg):(Qr S w n P).2.2.deed = w.deed /\ (Qr S w n P).2.2.worth = w.worth /\ (Qr S w n P).2.2.pairs = w.pairs /\ (w.ended = false -> (Qr S w n P).2.2.ended = (Qr S w n P).1.isNone) /\ ((Qr S w n P).2.2.ended = false -> w.ended = false -> 0 < (Qr S w n P).2.2.goal) /\ ((Qr S w n P).2.2.goal = 0 -> (Qr S w n P).2.2.aim = w.aim /\ (Qr S w n P).2.2.place = w.place):=by
  unfold Qr
  by_cases hr:P.ks.length <= S.room
  . rw [if_pos hr];exact ⟨rfl,rfl,rfl,fun _=>rfl,fun h=>(by cases h),fun _=>⟨rfl,rfl⟩⟩
  . rw [if_neg hr];exact ⟨rfl,rfl,rfl,fun h=>h,fun _ _=>Nat.succ_pos _,fun h=>(by cases h)⟩
theorem Qbu (T:Tree S bg) (W:WOk S bg w) (A:Aim S bg w) (hw:w.ended = false) (hT:TabIs S F) (hs:Z7 S w = some (r,S',w')):∃ F',TabIs S' F' /\ Did F F' w w' r /\ Aim S bg w' /\ w'.deed = w.deed:=by
  obtain ⟨n,hn0,hpl⟩:∃ n,w.place.getD S.top = n /\ (w.place = some n ∨ (w.place = none /\ n = S.top)):=by
    cases e:w.place with
    | none=>exact ⟨S.top,rfl,.inr ⟨rfl,rfl⟩⟩
    | some m=>exact ⟨m,rfl,.inl rfl⟩
  obtain ⟨p,hn⟩:∃ p,S.pg[n]? = some p:=by
    rcases hpl with hp | ⟨_,rfl⟩
    . obtain ⟨p,a,_⟩:=W.at_ n hp;exact ⟨p,a⟩
    . obtain ⟨p,a,_⟩:=T.root;exact ⟨p,a⟩
  have ok:=T.page n p hn
  have la:leB (bg n) w.aim:=by
    rcases hpl with hp | ⟨_,rfl⟩
    . obtain ⟨p',a1,a2,a3⟩:=W.at_ n hp
      exact a3
    . intro v hv;rw [T.rbg] at hv;cases hv
  unfold Z7 at hs
  rw [if_neg (by rw [hw];simp),hn0] at hs
  simp only [hn] at hs
  by_cases hr:w.place = none /\ p.lv < w.goal
  . rw [if_pos hr] at hs
    obtain ⟨k,q,a1,a2,a3,a4⟩:=W.tell (by omega)
    simp only [a1] at hs
    cases hs
    refine ⟨F,fun a b=>?_,⟨by omega,rfl,rfl,rfl,rfl⟩,fun h0=>absurd (show w.goal = 0 from h0) (by omega),rfl⟩
    rw [hT a b]
    constructor
    . rintro ⟨m,q,h1,h2,h3⟩
      exact ⟨m,q,JI h1,h2,h3⟩
    . rintro ⟨m,q,h1,h2,h3⟩
      rcases Ja h1 with ⟨rfl,rfl⟩ | h
      . cases h2
      . exact ⟨m,q,h,h2,h3⟩
  . rw [if_neg hr] at hs
    cases hb:Za p w.aim with
    | true =>
      rw [hb,if_pos rfl] at hs
      rcases T.link n p hn with ⟨a,b⟩ | ⟨h,s,q,a,b,c,d,e⟩
      . unfold Za at hb;rw [a] at hb;cases hb
      . simp only [b] at hs
        cases hs
        refine ⟨F,hT.same rfl,⟨rfl,rfl,rfl,hw,rfl,rfl⟩,fun h0=>?_,rfl⟩
        have a5:=A h0
        cases hd:w.deed with
        | find k=>rw [hd] at a5;exact a5
        | put k x=>rw [hd] at a5;exact a5
        | cut k=>rw [hd] at a5;exact a5
        | stretch l h' =>
          rw [hd] at a5
          obtain ⟨a6,a7⟩:=a5
          refine ⟨a6,?_⟩
          rcases a7 with a7 | ⟨s',p',b1,b2,b0,b3,b4,b5⟩
          . exact .inl a7
          . exfalso
            have:s' = n:=by
              rcases hpl with hp | ⟨hp,_⟩
              . rw [hp] at b1;exact (Option.some.inj b1).symm
              . rw [hp] at b1;cases b1
            subst this
            have:=ok.wide h a _ b3
            unfold Za at hb;rw [a] at hb
            have:h <= w.aim:=by simpa using hb
            omega
    | false =>
      have lh:=zL hb
      rw [hb,if_neg (by simp)] at hs
      by_cases hd:w.goal < p.lv
      . rw [if_pos hd] at hs
        have pl:=ok.parts
        rw [if_neg (by omega)] at pl
        have hc:cLe p.ks w.aim < p.ps.length:=by have:=JC p.ks w.aim;omega
        rw [List.getElem?_eq_getElem hc] at hs
        simp only at hs
        cases hs
        refine ⟨F,hT.same rfl,⟨rfl,rfl,rfl,hw,rfl,rfl⟩,fun h0=>?_,rfl⟩
        have a5:=A h0
        cases hd':w.deed with
        | find k=>rw [hd'] at a5;exact a5
        | put k x=>rw [hd'] at a5;exact a5
        | cut k=>rw [hd'] at a5;exact a5
        | stretch l h' =>
          rw [hd'] at a5
          obtain ⟨a6,a7⟩:=a5
          refine ⟨a6,?_⟩
          rcases a7 with a7 | ⟨s',p',b1,b2,b0,b3,b4,b5⟩
          . exact .inl a7
          . exfalso
            have:s' = n:=by
              rcases hpl with hp | ⟨hp,_⟩
              . rw [hp] at b1;exact (Option.some.inj b1).symm
              . rw [hp] at b1;cases b1
            subst this
            rw [hn] at b2;cases b2;omega
      . rw [if_neg hd] at hs
        have hg:w.goal <= p.lv:=by
          rcases hpl with hp | ⟨hp,_⟩
          . obtain ⟨p',b1,b2,_⟩:=W.at_ n hp
            rw [hn] at b1;cases b1;exact b2
          . exact Nat.le_of_not_lt fun h=>hr ⟨hp,h⟩
        have hlv:p.lv = w.goal:=by omega
        by_cases h0:0 < w.goal
        . rw [if_pos h0] at hs
          obtain ⟨k,q,a1,a2,a3,a4⟩:=W.tell h0
          simp only [a1] at hs
          cases hs
          obtain ⟨c1,c2,c3,c4,c5,c6⟩:=Ut { S with rd:=S.rd + 1 } w n (QT p w.aim k)
          refine ⟨F,fun a b=>?_,⟨h0,rfl,c2,c3,c4 hw,fun h=>c5 h hw⟩,fun h1=>?_,c1⟩
          . rw [km (S:={ S with rd:=S.rd + 1 }) (p:=p) (P:=QT p w.aim k) hn (by omega) rfl];exact hT a b
          . exfalso
            by_cases e:(Qr { S with rd:=S.rd + 1 } w n (QT p w.aim k)).2.2.ended = false
            . exact absurd h1 (Nat.ne_of_gt (c5 e hw))
            . unfold Qr at h1
              by_cases q1:(QT p w.aim k).ks.length <= S.room
              . rw [if_pos q1] at h1;have:w.goal = 0:=h1;omega
              . rw [if_neg q1] at h1;cases h1
        . rw [if_neg h0] at hs
          have hz:p.lv = 0:=by omega
          have g0:w.goal = 0:=by omega
          have a5:=A g0
          have wt:=T.tab_worth hT hn hz la lh
          have hs:=Option.some.inj hs
          unfold ZF at hs
          cases hdd:w.deed with
          | find k =>
            rw [hdd] at a5 hs
            cases hs
            have a5:w.aim = k:=a5
            subst a5
            exact ⟨F,hT.same rfl,⟨_,hdd,wt,rfl,wt,rfl,rfl⟩,fun _=>by simp [hdd],by simp [hdd]⟩
          | put k x =>
            rw [hdd] at a5 hs
            have a5:w.aim = k:=a5
            subst a5
            obtain ⟨c1,c2,c3,c4,c5,c6⟩:=Ut { S with rd:=S.rd + 1 } { w with worth:=QG p w.aim } n (QE p w.aim x)
            dsimp only at hs
            simp only [Prod.mk.injEq] at hs
            obtain ⟨rfl,rfl,rfl⟩:=hs
            rw [hdd] at c1 c2 c3 c4 c5 c6
            refine ⟨ku F w.aim x,?_,⟨_,_,hdd,wt,rfl,c2.trans wt,c3,c4 hw,fun h=>c5 h hw⟩,fun h1=>?_,c1⟩
            . exact T.tab_put hT hn hz la lh fun a b=>by rw [kn (S:={ S with rd:=S.rd + 1 }) (p:=p) (P:=QE p w.aim x) hn hz rfl];exact Iff.rfl
            . have:=(c6 h1).1
              rw [c1]
              exact this
          | cut k =>
            rw [hdd] at a5 hs
            have a5:w.aim = k:=a5
            subst a5
            dsimp only at hs
            cases hs
            refine ⟨GQ F w.aim,?_,⟨_,hdd,wt,rfl,wt,rfl,rfl⟩,fun _=>by simp [hdd],by simp [hdd]⟩
            by_cases hq:(QG p w.aim).isSome = true
            . rw [if_pos hq]
              refine T.tab_cut hT hn hz la lh fun a b=>?_
              have ln:=Qw hn
              constructor
              . rintro ⟨m,q,h1,h2,h3⟩
                rcases Q2 h1 with ⟨rfl,rfl,_⟩ | ⟨e,h⟩
                . exact .inr h3
                . exact .inl ⟨m,q,e,h,h2,h3⟩
              . rintro (⟨m,q,e,h1,h2,h3⟩ | h)
                . exact ⟨m,q,by show (S.pg.set n (without p w.aim))[m]? = _;rw [List.getElem?_set_ne (fun x=>e x.symm)];exact h1,h2,h3⟩
                . exact ⟨n,without p w.aim,by show (S.pg.set n (without p w.aim))[n]? = _;rw [List.getElem?_set_self ln],hz,h⟩
            . rw [if_neg hq]
              have fn:F w.aim = none:=by rw [<- wt];exact Option.not_isSome_iff_eq_none.mp hq
              have:GQ F w.aim = F:=funext fun j=>by
                unfold GQ
                by_cases e:j = w.aim
                . rw [if_pos e,e,fn]
                . rw [if_neg e]
              rw [this];exact hT.same rfl
          | stretch l h =>
            rw [hdd] at a5 hs
            obtain ⟨a6,a7⟩:=a5
            dsimp only at hs
            have so:=vO ok.sorted
            have ge:∀ k v,(k,v) ∈ prs p -> l <= k -> w.aim <= k:=fun k v hm hlk=>by
              rcases a7 with a7 | ⟨s',p',b1,b2,b0,b3,b4,b5⟩
              . omega
              . have:s' = n:=by
                  rcases hpl with hp | ⟨hp,_⟩
                  . rw [hp] at b1;exact (Option.some.inj b1).symm
                  . rw [hp] at b1;cases b1
                subst this
                exact ok.low k (Kr hm) _ b3
            have al:l <= w.aim:=by rcases a7 with a7 | ⟨_,_,_,_,_,_,b4,_⟩ <;> omega
            have ah:w.aim < h:=by rcases a7 with a7 | ⟨_,_,_,_,_,_,_,b5⟩ <;> omega
            have rd:∀ e:Int,e <= h -> (∀ x,p.hi = some x -> e <= x) -> (∀ k v,(k,v) ∈ prs p -> k < h -> k < e) -> Rds F w.aim e (QM p l h):=fun e he hx hk=>by
              refine ⟨List.Pairwise.filter _ so,fun k v=>?_⟩
              unfold QM
              rw [List.mem_filter,hT k v,Lf.split hn hz]
              constructor
              . rintro ⟨m,c⟩
                simp only [Bool.and_eq_true,decide_eq_true_eq] at c
                exact ⟨.inr m,ge k v m c.1,hk k v m c.2⟩
              . rintro ⟨m,c1,c2⟩
                have lb:leB (bg n) k:=fun u hu=>by have:=la u hu;omega
                have lk:ltH k p.hi:=fun u hu=>by have:=hx u hu;omega
                rcases m with m | m
                . exact absurd m (T.lo_none hn hz lb lk)
                . exact ⟨m,by simp only [Bool.and_eq_true,decide_eq_true_eq];omega⟩
            rcases T.link n p hn with ⟨a,b⟩ | ⟨x,s,q,a,b,c,d,e⟩
            . simp only [a,b] at hs
              cases hs
              exact ⟨F,hT.same rfl,⟨l,h,hdd,rfl,rfl,rfl,rd h (Int.le_refl _) (fun x hx=>by rw [a] at hx;cases hx) (fun k v _ c=>c),rfl⟩,fun _=>by simp only [hdd];exact ⟨a6,a7⟩,by simp [hdd]⟩
            . simp only [a,b] at hs
              have ax:w.aim < x:=lh x a
              by_cases hx:h <= x
              . rw [if_pos hx] at hs
                cases hs
                exact ⟨F,hT.same rfl,⟨l,h,hdd,rfl,rfl,rfl,rd h (Int.le_refl _) (fun y hy=>by rw [a] at hy;cases hy;exact hx) (fun k v _ c=>c),rfl⟩,fun _=>by simp only [hdd];exact ⟨a6,a7⟩,by simp [hdd]⟩
              . rw [if_neg hx] at hs
                cases hs
                refine ⟨F,hT.same rfl,⟨l,h,hdd,rfl,rfl,rfl,ax,by omega,rd x (by omega) (fun y hy=>by rw [a] at hy;cases hy;exact Int.le_refl _) (fun k v m _=>ok.high k (Kr m) x a),rfl,hw,g0⟩,fun _=>?_,by simp [hdd]⟩
                simp only [hdd]
                exact ⟨a6,.inr ⟨s,q,rfl,c,by omega,e,by omega,by omega⟩⟩
end
end TR
namespace TR
def Kd (S:Sh) (c:Nat):Prop:=∃ (m:Nat) (q:Pg),S.pg[m]? = some q /\ 0 < q.lv /\ (c:Int) ∈ q.ps
def Tells (ws:List Wk) (c:Nat):Prop:=∃ (i:Nat) (w:Wk),ws[i]? = some w /\ w.ended = false /\ 0 < w.goal /\ w.newp = some c
def Tld (S:Sh) (ws:List Wk):Prop:=∀ n:Nat,n < S.pg.length -> n ≠ S.top -> Kd S n ∨ Tells ws n
section
variable {S S':Sh} {bg:Bg} {n:Nat} {p P:Pg} {w w':Wk} {r:Row} {ws:List Wk} {i:Nat}
theorem Ur {w:Wk} (hn:S.pg[n]? = some p) (hl:P.lv = p.lv) (hsub:0 < p.lv -> ∀ x ∈ p.ps,x ∈ P.ps) {c:Nat} (h:Kd S c ∨ (0 < P.lv /\ (c:Int) ∈ P.ps)):Kd (Qr S w n P).2.1 c:=by
  have ln:=Qw hn
  have key:(∃ (m:Nat) (q:Pg),m ≠ n /\ S.pg[m]? = some q /\ 0 < q.lv /\ (c:Int) ∈ q.ps) ∨ (0 < P.lv /\ (c:Int) ∈ P.ps):=by
    rcases h with ⟨m,q,h1,h2,h3⟩ | h
    . by_cases e:m = n
      . subst e;rw [hn] at h1;cases h1;exact .inr ⟨by omega,hsub h2 _ h3⟩
      . exact .inl ⟨m,q,e,h1,h2,h3⟩
    . exact .inr h
  unfold Qr
  by_cases hr:P.ks.length <= S.room
  . rw [if_pos hr]
    rcases key with ⟨m,q,e,h1,h2,h3⟩ | ⟨h1,h2⟩
    . exact ⟨m,q,by show (S.pg.set n P)[m]? = _;rw [List.getElem?_set_ne (fun x=>e x.symm)];exact h1,h2,h3⟩
    . exact ⟨n,P,by show (S.pg.set n P)[n]? = _;rw [List.getElem?_set_self ln],h1,h2⟩
  . rw [if_neg hr]
    rcases key with ⟨m,q,e,h1,h2,h3⟩ | ⟨h1,h2⟩
    . exact ⟨m,q,by show ((S.pg ++ [QA P]).set n (QK P S.pg.length))[m]? = _;rw [List.getElem?_set_ne (fun x=>e x.symm)];exact JI h1,h2,h3⟩
    . rw [<- List.take_append_drop (Ze P) P.ps] at h2
      rcases List.mem_append.mp h2 with h | h
      . exact ⟨n,QK P S.pg.length,by show ((S.pg ++ [QA P]).set n (QK P S.pg.length))[n]? = _;rw [List.getElem?_set_self (by simp;omega)],h1,h⟩
      . exact ⟨S.pg.length,QA P,by show ((S.pg ++ [QA P]).set n (QK P S.pg.length))[S.pg.length]? = _;rw [List.getElem?_set_ne (by omega)];simp,h1,h⟩
theorem Tells.other {c:Nat} (h:Tells ws c) (hi:ws[i]? = some w) (hne:w.ended = false -> 0 < w.goal -> w.newp ≠ some c):Tells (ws.set i w') c:=by
  obtain ⟨j,v,a,b,d,e⟩:=h
  have ne:j ≠ i:=fun z=>by subst z;rw [hi] at a;cases a;exact hne b d e
  exact ⟨j,v,by rw [List.getElem?_set_ne (fun x=>ne x.symm)];exact a,b,d,e⟩
theorem Tells.self {c:Nat} (hi:ws[i]? = some w) (h1:w'.ended = false) (h2:0 < w'.goal) (h3:w'.newp = some c):Tells (ws.set i w') c :=
  ⟨i,w',List.getElem?_set_self (Qw hi),h1,h2,h3⟩
theorem KA {w:Wk} (S:Sh) (n:Nat) (P:Pg) (h:S.room < P.ks.length) (hw:w.ended = false):(Qr S w n P).2.2.ended = false /\ 0 < (Qr S w n P).2.2.goal /\ (Qr S w n P).2.2.newp = some S.pg.length:=by
  unfold Qr;rw [if_neg (by omega)];exact ⟨hw,Nat.succ_pos _,rfl⟩
theorem vU {w:Wk} (S:Sh) (n:Nat) (P:Pg) {c:Nat} (hc:c < (Qr S w n P).2.1.pg.length):c < S.pg.length ∨ (c = S.pg.length /\ S.room < P.ks.length):=by
  unfold Qr at hc
  by_cases hr:P.ks.length <= S.room
  . rw [if_pos hr] at hc;exact .inl (by simpa using hc)
  . rw [if_neg hr] at hc
    have:c < S.pg.length + 1:=by simpa using hc
    rcases Nat.lt_or_ge c S.pg.length with h | h
    . exact .inl h
    . exact .inr ⟨by omega,by omega⟩
theorem vW {w:Wk} (S:Sh) (n:Nat) (P:Pg):(Qr S w n P).2.1.top = S.top:=by
  unfold Qr;split <;> rfl
theorem Tld.step (D:Tld S ws) (T:Tree S bg) (W:WOk S bg w) (hi:ws[i]? = some w) (hw:w.ended = false) (hs:Z7 S w = some (r,S',w')):Tld S' (ws.set i w'):=by
  obtain ⟨n,hn0,hpl⟩:∃ n,w.place.getD S.top = n /\ (w.place = some n ∨ (w.place = none /\ n = S.top)):=by
    cases e:w.place with
    | none=>exact ⟨S.top,rfl,.inr ⟨rfl,rfl⟩⟩
    | some m=>exact ⟨m,rfl,.inl rfl⟩
  obtain ⟨p,hn⟩:∃ p,S.pg[n]? = some p:=by
    rcases hpl with hp | ⟨_,rfl⟩
    . obtain ⟨p,a,_⟩:=W.at_ n hp;exact ⟨p,a⟩
    . obtain ⟨p,a,_⟩:=T.root;exact ⟨p,a⟩
  have still:∀ {x:Wk} {S2:Sh},S2.pg = S.pg -> S2.top = S.top -> (w.ended = false -> 0 < w.goal -> x.ended = false /\ x.goal = w.goal /\ x.newp = w.newp) -> Tld S2 (ws.set i x):=fun {x S2} e1 e2 e3 c hc ht=>by
    rw [e1] at hc;rw [e2] at ht
    rcases D c hc ht with ⟨m,q,h⟩ | ⟨j,v,a,b,d,e⟩
    . exact .inl ⟨m,q,by rw [e1];exact h⟩
    . by_cases z:j = i
      . subst z;rw [hi] at a;cases a
        obtain ⟨f1,f2,f3⟩:=e3 b d
        exact .inr (Tells.self hi f1 (by omega) (f3.trans e))
      . exact .inr ⟨j,v,by rw [List.getElem?_set_ne (fun x=>z x.symm)];exact a,b,d,e⟩
  unfold Z7 at hs
  rw [if_neg (by rw [hw];simp),hn0] at hs
  simp only [hn] at hs
  by_cases hr:w.place = none /\ p.lv < w.goal
  . rw [if_pos hr] at hs
    obtain ⟨k,q,a1,a2,a3,a4⟩:=W.tell (by omega)
    simp only [a1] at hs
    cases hs
    intro c hc ht
    have hc:c < S.pg.length + 1:=by simpa using hc
    have ht:c ≠ S.pg.length:=ht
    have newf:(S.pg ++ [(⟨p.lv + 1,[w.aim],[(S.top:Int),(k:Int)],none,none⟩:Pg)])[S.pg.length]? = some ⟨p.lv + 1,[w.aim],[(S.top:Int),(k:Int)],none,none⟩:=by simp
    by_cases e:c = S.top
    . exact .inl ⟨S.pg.length,_,newf,Nat.succ_pos _,by simp [e]⟩
    by_cases e':c = k
    . exact .inl ⟨S.pg.length,_,newf,Nat.succ_pos _,by simp [e']⟩
    rcases D c (by omega) e with ⟨m,q,h1,h2,h3⟩ | h
    . exact .inl ⟨m,q,JI h1,h2,h3⟩
    . exact .inr (h.other hi fun _ _ h=>by rw [a1] at h;exact e' (Option.some.inj h).symm)
  . rw [if_neg hr] at hs
    cases hb:Za p w.aim with
    | true =>
      rw [hb,if_pos rfl] at hs
      cases hsd:p.sd with
      | none=>rw [hsd] at hs;cases hs
      | some s =>
        rw [hsd] at hs;cases hs
        exact still rfl rfl fun a _=>⟨a,rfl,rfl⟩
    | false =>
      rw [hb,if_neg (by simp)] at hs
      by_cases hd:w.goal < p.lv
      . rw [if_pos hd] at hs
        cases hq:p.ps[cLe p.ks w.aim]? with
        | none=>rw [hq] at hs;cases hs
        | some c =>
          rw [hq] at hs;cases hs
          exact still rfl rfl fun a _=>⟨a,rfl,rfl⟩
      . rw [if_neg hd] at hs
        have back:∀ (w0:Wk) (P:Pg),w0.ended = false -> P.lv = p.lv -> (0 < p.lv -> ∀ x ∈ p.ps,x ∈ P.ps) -> (∀ c,0 < w.goal -> w.newp = some c -> 0 < P.lv /\ (c:Int) ∈ P.ps) -> Tld (Qr { S with rd:=S.rd + 1 } w0 n P).2.1 (ws.set i (Qr { S with rd:=S.rd + 1 } w0 n P).2.2):=fun w0 P e0 hl hsub hnew c hc ht=>by
          rw [vW] at ht
          rcases vU _ n P hc with hc | ⟨hc,hroom⟩
          . rcases D c hc ht with h | h
            . exact .inl (Ur (S:={ S with rd:=S.rd + 1 }) hn hl hsub (.inl h))
            . by_cases z:w.newp = some c /\ 0 < w.goal
              . exact .inl (Ur (S:={ S with rd:=S.rd + 1 }) hn hl hsub (.inr (hnew c z.2 z.1)))
              . exact .inr (h.other hi fun _ a b=>z ⟨b,a⟩)
          . obtain ⟨f1,f2,f3⟩:=KA (w:=w0) { S with rd:=S.rd + 1 } n P hroom e0
            exact .inr (Tells.self hi f1 f2 (by rw [f3];exact congrArg some hc.symm))
        by_cases h0:0 < w.goal
        . rw [if_pos h0] at hs
          obtain ⟨k,q,a1,a2,a3,a4⟩:=W.tell h0
          simp only [a1] at hs
          simp only [Option.some.injEq,Prod.mk.injEq] at hs
          obtain ⟨rfl,rfl,rfl⟩:=hs
          have hg:w.goal <= p.lv:=by
            rcases hpl with hp | ⟨hp,_⟩
            . obtain ⟨p',b1,b2,_⟩:=W.at_ n hp
              rw [hn] at b1;cases b1;exact b2
            . exact Nat.le_of_not_lt fun h=>hr ⟨hp,h⟩
          refine back w (QT p w.aim k) hw rfl (fun _ x hx=>?_) fun c _ hc=>⟨by show 0 < p.lv;omega,?_⟩
          . show x ∈ p.ps.take (cLe p.ks w.aim + 1) ++ (k:Int) :: p.ps.drop (cLe p.ks w.aim + 1)
            rw [<- List.take_append_drop (cLe p.ks w.aim + 1) p.ps] at hx
            rcases List.mem_append.mp hx with h | h
            . exact List.mem_append_left _ h
            . exact List.mem_append_right _ (List.mem_cons_of_mem _ h)
          . rw [a1] at hc;cases hc
            show (k:Int) ∈ p.ps.take (cLe p.ks w.aim + 1) ++ (k:Int) :: p.ps.drop (cLe p.ks w.aim + 1)
            simp
        . rw [if_neg h0] at hs
          have hs:=Option.some.inj hs
          unfold ZF at hs
          have g0:∀ {x:Wk},w.ended = false -> 0 < w.goal -> x.ended = false /\ x.goal = w.goal /\ x.newp = w.newp:=fun _ h=>absurd h h0
          cases hdd:w.deed with
          | find k=>rw [hdd] at hs;cases hs;exact still rfl rfl g0
          | put k x =>
            rw [hdd] at hs
            dsimp only at hs
            simp only [Prod.mk.injEq] at hs
            obtain ⟨rfl,rfl,rfl⟩:=hs
            exact back _ (QE p w.aim x) hw rfl (fun h=>(by
              have hg:p.lv = 0:=by omega
              omega)) fun c h=>absurd h h0
          | cut k =>
            rw [hdd] at hs;dsimp only at hs;cases hs
            by_cases hq:(QG p w.aim).isSome = true
            . rw [if_pos hq]
              intro c hc ht
              have hc:c < S.pg.length:=by simpa using hc
              rcases D c hc ht with ⟨m,q,h1,h2,h3⟩ | h
              . have e:m ≠ n:=fun e=>by subst e;rw [hn] at h1;cases h1;omega
                exact .inl ⟨m,q,by show (S.pg.set n (without p w.aim))[m]? = _;rw [List.getElem?_set_ne (fun x=>e x.symm)];exact h1,h2,h3⟩
              . exact .inr (h.other hi fun _ a=>absurd a h0)
            . rw [if_neg hq];exact still rfl rfl g0
          | stretch l h =>
            rw [hdd] at hs;dsimp only at hs
            cases hhi:p.hi with
            | none=>rw [hhi] at hs;cases hs;exact still rfl rfl g0
            | some x =>
              cases hsd:p.sd with
              | none=>rw [hhi,hsd] at hs;cases hs;exact still rfl rfl g0
              | some s =>
                rw [hhi,hsd] at hs
                dsimp only at hs
                by_cases hx:h <= x
                . rw [if_pos hx] at hs;cases hs;exact still rfl rfl g0
                . rw [if_neg hx] at hs;cases hs;exact still rfl rfl g0
theorem Tld.put (D:Tld S ws) (hi:∀ v,ws[i]? = some v -> v.ended = true) (w:Wk):Tld S (ws.set i w):=fun c hc ht=>(D c hc ht).imp id fun ⟨j,v,a,b,d,e⟩=>by
  have ne:j ≠ i:=fun z=>by subst z;rw [hi v a] at b;cases b
  exact ⟨j,v,by rw [List.getElem?_set_ne (fun x=>ne x.symm)];exact a,b,d,e⟩
theorem Tree.straight (T:Tree S bg) (hn:S.pg[n]? = some p) (hl:0 < p.lv) {aim:Int} (h1:leB (bg n) aim) (h2:ltH aim p.hi) {c:Nat} {q:Pg} (hc:S.pg[c]? = some q) (hq:q.lv + 1 = p.lv) (hb:bg c = Zs (bg n) p.ks (cLe p.ks aim)) (D:∀ s,q.sd = some s -> Kd S s):Za q aim = false:=by
  have ok:=T.page n p hn
  cases hx:Za q aim with
  | false=>rfl
  | true =>
    exfalso
    rcases T.link c q hc with ⟨a,b⟩ | ⟨h,s,z,a,b,hs,d,e⟩
    . unfold Za at hx;rw [a] at hx;cases hx
    . have ha:h <= aim:=by unfold Za at hx;rw [a] at hx;simpa using hx
      have wd:=(T.page c q hc).wide h a
      obtain ⟨m,f,hm,hf,hk⟩:=D s b
      obtain ⟨j,hj⟩:=List.mem_iff_getElem?.mp hk
      obtain ⟨c',z',e1,e2,e3,e4⟩:=T.kid m f hm hf j _ hj
      have:c' = s:=by omega
      subst this
      rw [hs] at e2;cases e2
      have okm:=T.page m f hm
      have low:ltB (bg n) h:=fun v hv=>by
        cases hcl:cLe p.ks aim with
        | zero=>rw [hcl] at hb;exact wd v (hb.trans hv)
        | succ i =>
          rw [hcl] at hb
          have li:i < p.ks.length:=by have:=JC p.ks aim;omega
          have hi:bg c = some p.ks[i]:=hb.trans (List.getElem?_eq_getElem li)
          have:=wd _ hi
          have:=ok.low _ (List.getElem_mem li) v hv
          omega
      by_cases emn:m = n
      . subst emn
        rw [hn] at hm;cases hm
        rw [e] at e4
        cases j with
        | zero=>have:=low h e4.symm;omega
        | succ i =>
          have hi:p.ks[i]? = some h:=e4.symm
          have i1:=(yT (k:=aim) ok.sorted hi).mpr ha
          cases hcl:cLe p.ks aim with
          | zero=>omega
          | succ i' =>
            rw [hcl] at hb
            have li:i' < p.ks.length:=by have:=JC p.ks aim;omega
            have hi':bg c = some p.ks[i']:=hb.trans (List.getElem?_eq_getElem li)
            have w1:=wd _ hi'
            have ge:h <= p.ks[i']:=by
              rcases Nat.lt_or_ge i i' with lt | ge
              . exact Int.le_of_lt (Xi ok.sorted hi (List.getElem?_eq_getElem li) lt)
              . have:i = i':=by omega
                subst this
                rw [List.getElem?_eq_getElem li] at hi;cases hi;exact Int.le_refl _
            omega
      . have lvm:f.lv = p.lv:=by omega
        have bm:leBB (bg m) (some h) /\ (∀ u,f.hi = some u -> h < u):=by
          rw [e] at e4
          cases j with
          | zero =>
            have e4:some h = bg m:=e4
            exact ⟨by rw [<- e4];exact leBB.refl _,fun u hu=>okm.wide u hu h e4.symm⟩
          | succ i =>
            have hi:f.ks[i]? = some h:=e4.symm
            have mem:=List.mem_of_getElem? hi
            exact ⟨fun v hv=>⟨h,rfl,okm.low h mem v hv⟩,fun u hu=>okm.high h mem u hu⟩
        rcases T.dis n m p f hn hm (by omega) (fun z=>emn z.symm) with ⟨x,v,a1,a2,a3⟩ | ⟨x,v,a1,a2,a3⟩
        . have:=h2 x a1
          obtain ⟨u,b1,b2⟩:=bm.1 v a2
          cases b1;omega
        . have:=bm.2 x a1
          have:=low v a2
          omega
end
end TR
namespace TR
inductive Steps:Nat -> Sh -> Wk -> Sh -> Wk -> Prop
  | nil (S:Sh) (w:Wk):Steps 0 S w S w
  | cons {m:Nat} {S S1 S':Sh} {w w1 w':Wk} {r:Row}:w.ended = false -> Z7 S w = some (r,S1,w1) -> Steps m S1 w1 S' w' -> Steps (m + 1) S w S' w'
def In (S:Sh) (bg:Bg) (n:Nat) (k:Int):Prop:=∃ p:Pg,S.pg[n]? = some p /\ leB (bg n) k /\ ltH k p.hi
def Fk (S:Sh):Prop:=∀ (n:Nat) (p:Pg),S.pg[n]? = some p -> 0 < p.lv -> 1 <= p.ks.length
section
variable {S S':Sh} {bg bg':Bg} {n f:Nat} {p q P:Pg} {w w':Wk} {r:Row} {a k:Int} {F:Int -> Option Int}
theorem Tree.nest (T:Tree S bg) (hn:S.pg[n]? = some p) (hf:S.pg[f]? = some q) (hl:p.lv + 1 = q.lv) (a1:leB (bg n) a) (a2:ltH a p.hi) (b1:leB (bg f) a) (b2:ltH a q.hi):leBB (bg f) (bg n) /\ ∀ h,q.hi = some h -> ∃ u,p.hi = some u /\ u <= h:=by
  constructor
  . intro v hv
    have okf:=T.page f q hf
    have pl:=okf.parts
    rw [if_neg (by omega)] at pl
    obtain ⟨c,z,e1,e2,e3,e4⟩:=T.kid f q hf (by omega) 0 _ (List.getElem?_eq_getElem (by omega:0 < q.ps.length))
    have e4:bg c = bg f:=e4
    by_cases e:n = c
    . subst e;exact ⟨v,e4.trans hv,Int.le_refl _⟩
    . rcases T.dis n c p z hn e2 (by omega) e with ⟨h,u,x1,x2,x3⟩ | ⟨h,u,x1,x2,x3⟩
      . have:=a2 h x1;have:=b1 v hv
        rw [e4,hv] at x2;cases x2;omega
      . have:=(T.page c z e2).wide h x1 v (e4.trans hv)
        exact ⟨u,x2,by omega⟩
  . intro h hh
    rcases T.link f q hf with ⟨x,_⟩ | ⟨h',s,y,x1,x2,x3,x4,x5⟩
    . rw [hh] at x;cases x
    . rw [hh] at x1;cases x1
      have pl:=(T.page s y x3).parts
      rw [if_neg (by omega)] at pl
      obtain ⟨c,z,e1,e2,e3,e4⟩:=T.kid s y x3 (by omega) 0 _ (List.getElem?_eq_getElem (by omega:0 < y.ps.length))
      have e4:bg c = bg s:=e4
      have ah:=b2 h hh
      have ne:n ≠ c:=fun e=>by
        subst e
        have:=a1 h (e4.trans x5);omega
      rcases T.dis n c p z hn e2 (by omega) ne with ⟨u,v,y1,y2,y3⟩ | ⟨u,v,y1,y2,y3⟩
      . rw [e4,x5] at y2;cases y2
        exact ⟨u,y1,y3⟩
      . have:=(T.page c z e2).wide u y1 h (e4.trans x5)
        have:=a1 v y2
        omega
theorem Tree.nest_in (T:Tree S bg) (hn:S.pg[n]? = some p) (hf:S.pg[f]? = some q) (hl:p.lv + 1 = q.lv) (ha:In S bg n a) (hb:In S bg f a) (hk:In S bg n k):In S bg f k:=by
  obtain ⟨_,e1,a1,a2⟩:=ha;rw [hn] at e1;cases e1
  obtain ⟨_,e1,b1,b2⟩:=hb;rw [hf] at e1;cases e1
  obtain ⟨_,e1,k1,k2⟩:=hk;rw [hn] at e1;cases e1
  obtain ⟨x,y⟩:=T.nest hn hf hl a1 a2 b1 b2
  refine ⟨q,hf,x.leB k1,fun h hh=>?_⟩
  obtain ⟨u,u1,u2⟩:=y h hh
  have:=k2 u u1;omega
theorem Tree.root_hi (T:Tree S bg) (D:∀ s,s < S.pg.length -> s ≠ S.top -> Kd S s) (hr:S.pg[S.top]? = some p):p.hi = none:=by
  rcases T.link S.top p hr with ⟨x,_⟩ | ⟨h,s,y,x1,x2,x3,x4,x5⟩
  . exact x
  . exfalso
    have ne:s ≠ S.top:=fun e=>by rw [e,T.rbg] at x5;cases x5
    obtain ⟨m,g,h1,h2,h3⟩:=D s (Qw x3) ne
    obtain ⟨j,hj⟩:=List.mem_iff_getElem?.mp h3
    obtain ⟨c,z,e1,e2,e3,e4⟩:=T.kid m g h1 h2 j _ hj
    have:c = s:=by omega
    subst this
    rw [x3] at e2;cases e2
    obtain ⟨r,r1,r2⟩:=T.root
    rw [hr] at r1;cases r1
    have:=r2 m g h1;omega
theorem Qc3 (T:Tree S bg) (D:∀ s,s < S.pg.length -> s ≠ S.top -> Kd S s) (hn0:w.place.getD S.top = n) (hn:S.pg[n]? = some p) (hw:w.ended = false) (hg:w.goal = 0) (hl:0 < p.lv) (hin:In S bg n w.aim) :
    ∃ (c:Nat) (q:Pg),Z7 S w = some (.down n c,{ S with rd:=S.rd + 1 },{ w with forks:=qQ w.forks p.lv n,place:=some c }) /\ S.pg[c]? = some q /\ q.lv + 1 = p.lv /\ In S bg c w.aim:=by
  obtain ⟨_,e1,a1,a2⟩:=hin;rw [hn] at e1;cases e1
  have ok:=T.page n p hn
  have pl:=ok.parts
  rw [if_neg (by omega)] at pl
  have hc:cLe p.ks w.aim < p.ps.length:=by have:=JC p.ks w.aim;omega
  obtain ⟨c,q,b1,b2,b3,b4⟩:=T.kid n p hn hl _ _ (List.getElem?_eq_getElem hc)
  have nb:Za p w.aim = false:=by
    unfold Za
    cases hh:p.hi with
    | none=>rfl
    | some h=>have:=a2 h hh;simp;omega
  have nq:=T.straight hn hl a1 a2 b2 b3 b4 fun s hs=>by
    obtain ⟨h,z,x1,x2,x3,x4,_⟩:=KC T b2 hs
    exact D s (Qw x2) fun e=>by rw [e,T.rbg] at x4;cases x4
  refine ⟨c,q,?_,b2,b3,q,b2,?_,zL nq⟩
  . unfold Z7
    rw [if_neg (by rw [hw];simp),hn0]
    simp only [hn]
    rw [if_neg (by omega),nb,if_neg (by simp),if_pos (by omega),List.getElem?_eq_getElem hc,b1]
    simp only [Int.toNat_natCast]
  . rw [b4]
    cases hcl:cLe p.ks w.aim with
    | zero=>exact a1
    | succ i =>
      intro v hv
      have hv:p.ks[i]? = some v:=hv
      exact (yT ok.sorted hv).mp (by omega)
theorem Fk.settle (K:Fk S) {w:Wk} (hn:S.pg[n]? = some p) (hl:P.lv = p.lv) (h1:0 < P.lv -> 1 <= P.ks.length) (h3:S.room < P.ks.length -> 3 <= P.ks.length):Fk (Qr S w n P).2.1:=by
  unfold Qr
  by_cases hr:P.ks.length <= S.room
  . rw [if_pos hr]
    intro m q hm h0
    rcases Q2 hm with ⟨rfl,rfl,_⟩ | ⟨_,h⟩
    . exact h1 h0
    . exact K m q h h0
  . rw [if_neg hr]
    have l3:=h3 (by omega)
    intro m q hm h0
    rcases Q2 (xs:=S.pg ++ [QA P]) hm with ⟨rfl,rfl,_⟩ | ⟨_,h⟩
    . show 1 <= (P.ks.take (mid P)).length
      rw [List.length_take];unfold mid;omega
    . rcases Ja h with ⟨rfl,rfl⟩ | h
      . show 1 <= (P.ks.drop (Ze P)).length
        have h0:0 < P.lv:=h0
        rw [List.length_drop];unfold Ze;rw [if_neg (by omega)];unfold mid;omega
      . exact K m q h h0
theorem Fk.step (K:Fk S) (T:Tree S bg) (hs:Z7 S w = some (r,S',w')):Fk S':=by
  have r2:=T.room2
  unfold Z7 at hs
  by_cases hw:w.ended = true
  . rw [if_pos hw] at hs;cases hs;exact K
  rw [if_neg hw] at hs
  cases hn:S.pg[w.place.getD S.top]? with
  | none=>rw [hn] at hs;cases hs
  | some p =>
    simp only [hn] at hs
    by_cases hr:w.place = none /\ p.lv < w.goal
    . rw [if_pos hr] at hs
      cases hk:w.newp with
      | none=>rw [hk] at hs;cases hs
      | some k =>
        rw [hk] at hs;cases hs
        intro m q hm h0
        rcases Ja hm with ⟨rfl,rfl⟩ | h
        . exact Nat.le_refl _
        . exact K m q h h0
    . rw [if_neg hr] at hs
      by_cases hb:Za p w.aim = true
      . rw [if_pos hb] at hs
        cases hsd:p.sd with
        | none=>rw [hsd] at hs;cases hs
        | some s=>rw [hsd] at hs;cases hs;exact K
      . rw [if_neg hb] at hs
        by_cases hd:w.goal < p.lv
        . rw [if_pos hd] at hs
          cases hq:p.ps[cLe p.ks w.aim]? with
          | none=>rw [hq] at hs;cases hs
          | some c=>rw [hq] at hs;cases hs;exact K
        . rw [if_neg hd] at hs
          by_cases h0:0 < w.goal
          . rw [if_pos h0] at hs
            cases hk:w.newp with
            | none=>rw [hk] at hs;cases hs
            | some k =>
              rw [hk] at hs
              simp only [Option.some.injEq,Prod.mk.injEq] at hs
              obtain ⟨rfl,rfl,rfl⟩:=hs
              exact Fk.settle (S:={ S with rd:=S.rd + 1 }) K hn rfl (fun _=>by show 1 <= (_ ++ _ :: _:List Int).length;rw [List.length_append,List.length_cons];omega) (fun h=>by
                have h:S.room < (QT p w.aim k).ks.length:=h
                omega)
          . rw [if_neg h0] at hs
            have hs:=Option.some.inj hs
            unfold ZF at hs
            cases hdd:w.deed with
            | find k=>rw [hdd] at hs;cases hs;exact K
            | put k x =>
              rw [hdd] at hs
              dsimp only at hs
              simp only [Prod.mk.injEq] at hs
              obtain ⟨rfl,rfl,rfl⟩:=hs
              exact Fk.settle (S:={ S with rd:=S.rd + 1 }) K hn rfl (fun _=>by show 1 <= (_ ++ _ :: _:List Int).length;rw [List.length_append,List.length_cons];omega) (fun h=>by
                have h:S.room < (QE p w.aim x).ks.length:=h
                omega)
            | cut k =>
              rw [hdd] at hs;dsimp only at hs;cases hs
              by_cases hq:(QG p w.aim).isSome = true
              . rw [if_pos hq]
                intro m q hm h1
                rcases Q2 hm with ⟨rfl,rfl,_⟩ | ⟨_,h⟩
                . have:0 < p.lv:=h1
                  omega
                . exact K m q h h1
              . rw [if_neg hq];exact K
            | stretch l h =>
              rw [hdd] at hs;dsimp only at hs
              cases hhi:p.hi with
              | none=>rw [hhi] at hs;cases hs;exact K
              | some x =>
                cases hsd:p.sd with
                | none=>rw [hhi,hsd] at hs;cases hs;exact K
                | some s =>
                  rw [hhi,hsd] at hs
                  dsimp only at hs
                  by_cases hx:h <= x
                  . rw [if_pos hx] at hs;cases hs;exact K
                  . rw [if_neg hx] at hs;cases hs;exact K
structure Al (S:Sh) (bg:Bg) (F:Int -> Option Int) (w:Wk):Prop where
  tree:Tree S bg
  fk:Fk S
  tab:TabIs S F
  told:Tld S [w]
  aim:Aim S bg w
  wok:w.ended = false -> WOk S bg w
  unt:w.ended = false -> 0 < w.goal -> ∀ k,w.newp = some k -> Untold S k
theorem Al.step (A:Al S bg F w) (hw:w.ended = false):∃ r S' w' bg' F',Z7 S w = some (r,S',w') /\ Al S' bg' F' w' /\ Grow S bg S' bg' /\ Did F F' w w' r /\ w'.deed = w.deed /\ S'.room = S.room:=by
  obtain ⟨r,S',w',bg',hs,st⟩:=yr A.tree (A.wok hw) hw (A.unt hw)
  obtain ⟨F',h1,h2,h3,h4⟩:=Qbu A.tree (A.wok hw) A.aim hw A.tab hs
  exact ⟨r,S',w',bg',F',hs,⟨st.tree,A.fk.step A.tree hs,h1,A.told.step (i:=0) A.tree (A.wok hw) rfl hw hs,h3.grow st.grow,st.wok,fun e g k hk=>(st.new k e g hk).1⟩,st.grow,h2,h4,st.room⟩
theorem Al.all_told (A:Al S bg F w) (h:w.goal = 0 ∨ w.ended = true):∀ s,s < S.pg.length -> s ≠ S.top -> Kd S s:=fun s h1 h2=>by
  rcases A.told s h1 h2 with h3 | ⟨i,v,a,b,c,_⟩
  . exact h3
  . cases i with
    | zero=>cases a;rcases h with h | h;omega;rw [h] at b;cases b
    | succ i=>cases a
end
end TR
namespace TR
section
variable {S S':Sh} {bg bg':Bg} {n f:Nat} {p q P:Pg} {w w':Wk} {r:Row} {a k:Int} {F F':Int -> Option Int} {R:Nat}
theorem In.grow (h:In S bg n k) (g:Grow S bg S' bg') (e:S'.pg[n]? = S.pg[n]?):In S' bg' n k:=by
  obtain ⟨p,h1,h2,h3⟩:=h
  exact ⟨p,by rw [e];exact h1,by rw [(g.old n p h1).1];exact h2,h3⟩
def Kp (S:Sh) (bg:Bg) (w:Wk) (lo R:Nat):Prop:=∀ j,lo <= j -> j <= R -> ∃ (f:Nat) (q:Pg),ZR w.forks j = some f /\ S.pg[f]? = some q /\ q.lv = j /\ In S bg f w.aim
theorem Steps.snoc {m:Nat} {S S1 S2:Sh} {w w1 w2:Wk} (h:Steps m S w S1 w1) (hw:w1.ended = false) (hs:Z7 S1 w1 = some (r,S2,w2)):Steps (m + 1) S w S2 w2:=by
  induction h with
  | nil S w=>exact .cons hw hs (.nil _ _)
  | cons a b c ih=>exact .cons a b (ih hw hs)
theorem Steps.app {m m':Nat} {S S1 S2:Sh} {w w1 w2:Wk} (h:Steps m S w S1 w1) (h':Steps m' S1 w1 S2 w2):Steps (m + m') S w S2 w2:=by
  induction h with
  | nil S w=>rw [Nat.zero_add];exact h'
  | cons a b c ih=>rw [Nat.add_right_comm];exact .cons a b (ih h')
theorem uo:∀ (l:Nat) {S:Sh} {bg:Bg} {w:Wk} {n:Nat} {p:Pg},Al S bg F w -> w.ended = false -> w.goal = 0 -> p.lv = l -> w.place.getD S.top = n -> S.pg[n]? = some p -> In S bg n w.aim ->
    ∃ S2 bg2 w2 n2 p2,Grow S bg S2 bg2 /\ Steps l S w S2 w2 /\ Al S2 bg2 F w2 /\ S2.pg = S.pg /\ S2.top = S.top /\ S2.room = S.room /\ w2.ended = false /\ w2.goal = 0 /\ w2.aim = w.aim /\ w2.deed = w.deed /\ w2.pairs = w.pairs /\ w2.place.getD S2.top = n2 /\ S2.pg[n2]? = some p2 /\ p2.lv = 0 /\ In S2 bg2 n2 w2.aim /\ Kp S2 bg2 w2 1 l /\ ∀ j,l < j -> ZR w2.forks j = ZR w.forks j
  | 0,S,bg,w,n,p,A,hw,hg,hl,h0,hn,hin=>⟨S,bg,w,n,p,Grow.refl,.nil S w,A,rfl,rfl,rfl,hw,hg,rfl,rfl,rfl,h0,hn,hl,hin,fun j a b=>(by omega),fun j _=>rfl⟩
  | l + 1,S,bg,w,n,p,A,hw,hg,hl,h0,hn,hin=>by
    obtain ⟨c,q,e1,e2,e3,e4⟩:=Qc3 A.tree (A.all_told (.inl hg)) h0 hn hw hg (by omega) hin
    obtain ⟨r,S1,w1,bg1,F1,s1,A1,g1,d1,dd1,_⟩:=A.step hw
    rw [e1] at s1
    cases s1
    have hF:F1 = F:=d1.1
    rw [hF] at A1
    obtain ⟨S2,bg2,w2,n2,p2,b0,b1,b2,b3,b4,b5,b6,b7,b8,b9,b10,b11,b12,b13,b14,b15,b16⟩:=uo l A1 hw hg (by omega) (show (some c:Option Nat).getD _ = c from rfl) e2 (e4.grow g1 rfl)
    refine ⟨S2,bg2,w2,n2,p2,g1.trans b0,?_,b2,b3,b4,b5,b6,b7,b8,b9,b10,b11,b12,b13,b14,?_,fun j hj=>?_⟩
    . rw [Nat.add_comm]
      have:=(Steps.cons hw e1 (.nil _ _)).app b1
      rwa [Nat.add_comm] at this ⊢
    . intro j j1 j2
      by_cases e:j = l + 1
      . subst e
        have gn:ZR w2.forks (l + 1) = some n:=by
          rw [b16 (l + 1) (by omega)]
          show ZR (qQ w.forks p.lv n) (l + 1) = _
          rw [X9,if_pos hl.symm]
        refine ⟨n,p,gn,by rw [b3];exact hn,hl,?_⟩
        obtain ⟨_,x1,x2,x3⟩:=hin
        rw [hn] at x1;cases x1
        refine ⟨p,by rw [b3];exact hn,?_,by rw [b8];exact x3⟩
        rw [b8]
        obtain ⟨_,y1,y2,y3⟩:=b14
        rw [b12] at y1;cases y1
        intro v hv
        have W2:=b2.wok b6
        by_cases pl:w2.place = none
        . have:=W2.none_ pl _ n gn;omega
        . obtain ⟨m,hm⟩:∃ m,w2.place = some m:=by
            cases h:w2.place with
            | none=>exact absurd h pl
            | some m=>exact ⟨m,rfl⟩
          have em:m = n2:=by rw [hm] at b11;exact b11
          subst em
          obtain ⟨u,u1,u2⟩:=W2.above m p2 hm b12 _ n gn (by omega) v hv
          have:=y2 u u1
          have e8:w2.aim = w.aim:=b8
          omega
      . exact b15 j j1 (by omega)
    . rw [b16 j (by omega)]
      show ZR (qQ w.forks p.lv n) j = _
      rw [X9,if_neg (by omega)]
structure Bs (S:Sh) (bg:Bg) (F:Int -> Option Int) (w:Wk) (R:Nat):Prop where
  al:Al S bg F w
  live:w.ended = false
  root:∃ p,S.pg[S.top]? = some p /\ p.lv = R
  pos:0 < w.goal
  le:w.goal <= R + 1
  pl:w.place = ZR w.forks w.goal
  kp:Kp S bg w w.goal R
  no:∀ j,R < j -> ZR w.forks j = none
theorem Kp.up (T:Tree S bg) (K:Kp S bg w (p.lv + 1) R) (hn:S.pg[n]? = some p) (hin:In S bg n w.aim) (hk:In S bg n k):∀ (j:Nat) (f:Nat),p.lv + 1 <= j -> j <= R -> ZR w.forks j = some f -> In S bg f k:=by
  have key:∀ (i:Nat),p.lv + 1 + i <= R -> ∃ f q,ZR w.forks (p.lv + 1 + i) = some f /\ S.pg[f]? = some q /\ q.lv = p.lv + 1 + i /\ In S bg f k:=by
    intro i
    induction i with
    | zero =>
      intro h
      obtain ⟨f,q,a1,a2,a3,a4⟩:=K (p.lv + 1) (Nat.le_refl _) h
      exact ⟨f,q,a1,a2,a3,T.nest_in hn a2 (by omega) hin a4 hk⟩
    | succ i ih =>
      intro h
      obtain ⟨f,q,a1,a2,a3,a4⟩:=ih (by omega)
      obtain ⟨f1,q1,b1,b2,b3,b4⟩:=K (p.lv + 1 + i) (by omega) (by omega)
      rw [a1] at b1;cases b1
      obtain ⟨f2,q2,c1,c2,c3,c4⟩:=K (p.lv + 1 + (i + 1)) (by omega) h
      exact ⟨f2,q2,c1,c2,c3,T.nest_in a2 c2 (by omega) b4 c4 a4⟩
  intro j f h1 h2 hf
  obtain ⟨f',q,a1,a2,a3,a4⟩:=key (j - (p.lv + 1)) (by omega)
  rw [show p.lv + 1 + (j - (p.lv + 1)) = j by omega,hf] at a1
  cases a1;exact a4
theorem Bs.of (T:Tree S bg) (A':Al S' bg' F' w') (g:Grow S bg S' bg') (hn:S.pg[n]? = some p) (hin:In S bg n w.aim) (hk:In S bg n (JN P)) (K:Kp S bg w (p.lv + 1) R) (no:∀ j,R < j -> ZR w.forks j = none) (hr:∃ z,S.pg[S.top]? = some z /\ z.lv = R) (hpR:p.lv <= R)
    (hS:S'.pg = (S.pg ++ [QA P]).set n (QK P S.pg.length)) (ht:S'.top = S.top) (e1:w'.goal = p.lv + 1) (e2:w'.aim = JN P) (e3:w'.place = ZR w.forks (p.lv + 1)) (e4:w'.forks = w.forks) (e5:w'.ended = false):Bs S' bg' F' w' R where
  al:=A'
  live:=e5
  root:=by
    obtain ⟨z,h1,h2⟩:=hr
    obtain ⟨_,z',h3,h4⟩:=g.old _ z h1
    exact ⟨z',by rw [ht];exact h3,by omega⟩
  pos:=by omega
  le:=by omega
  pl:=by rw [e3,e4,e1]
  kp:=fun j j1 j2=>by
    rw [e1] at j1
    obtain ⟨f,q,a1,a2,a3,a4⟩:=K j j1 j2
    have h:=K.up T hn hin hk j f j1 j2 a1
    have ne:f ≠ n:=fun e=>by subst e;rw [hn] at a2;cases a2;omega
    have same:S'.pg[f]? = S.pg[f]?:=by
      rw [hS,List.getElem?_set_ne (fun e=>ne e.symm),a2];exact JI a2
    exact ⟨f,q,by rw [e4];exact a1,by rw [same];exact a2,a3,by rw [e2];exact h.grow g same⟩
  no:=fun j h=>by rw [e4];exact no j h
theorem uN (ok:Jv P.ks.length (bg n) P) (h3:3 <= P.ks.length) (hn:S.pg[n]? = some p) (hh:P.hi = p.hi):In S bg n (JN P):=by
  have m:=List.mem_of_getElem? (Yk (P:=P) (by omega))
  exact ⟨p,hn,ok.low _ m,by rw [<- hh];exact ok.high _ m⟩
theorem Bs.finish:∀ (m:Nat) {S:Sh} {bg:Bg} {w:Wk},Bs S bg F w R -> R + 1 - w.goal = m -> ∃ m' S' bg' w',Grow S bg S' bg' /\ Steps m' S w S' w' /\ m' <= m + 1 /\ Al S' bg' F w' /\ w'.ended = true /\ w'.worth = w.worth /\ w'.pairs = w.pairs /\ w'.deed = w.deed /\ S'.room = S.room:=by
  intro m
  induction m with
  | zero =>
    intro S bg w B hm
    have hg:w.goal = R + 1:=by have:=B.le;omega
    have pn:w.place = none:=by rw [B.pl];exact B.no _ (by omega)
    obtain ⟨z,hz,hzl⟩:=B.root
    obtain ⟨r,S',w',bg',F',s1,A',g1,d1,dd1,rr⟩:=B.al.step B.live
    obtain ⟨k,q,a1,a2,a3,a4⟩:=(B.al.wok B.live).tell B.pos
    have hs:=s1
    unfold Z7 at hs
    rw [if_neg (by rw [B.live];simp),pn] at hs
    simp only [Option.getD_none,hz] at hs
    rw [if_pos ⟨trivial,by omega⟩] at hs
    simp only [a1] at hs
    cases hs
    obtain ⟨_,hF,b1,b2,b3⟩:=d1
    rw [hF] at A'
    exact ⟨1,_,_,_,g1,.cons B.live s1 (.nil _ _),Nat.le_refl _,A',rfl,rfl,rfl,rfl,rr⟩
  | succ m ih =>
    intro S bg w B hm
    have hg:w.goal <= R:=by omega
    obtain ⟨f,q,a1,a2,a3,a4⟩:=B.kp w.goal (Nat.le_refl _) hg
    have pf:w.place = some f:=B.pl.trans a1
    obtain ⟨_,b0,b1,b2⟩:=a4
    rw [a2] at b0;cases b0
    obtain ⟨r,S',w',bg',F',s1,A',g1,d1,dd1,rr⟩:=B.al.step B.live
    have W:=B.al.wok B.live
    obtain ⟨k,z,c1,c2,c3,c4⟩:=W.tell B.pos
    have nb:Za q w.aim = false:=by
      unfold Za
      cases hh:q.hi with
      | none=>rfl
      | some h=>have:=b2 h hh;simp;omega
    have hs:=s1
    unfold Z7 at hs
    rw [if_neg (by rw [B.live];simp),pf] at hs
    simp only [Option.getD_some,a2] at hs
    rw [if_neg (by simp),nb,if_neg (by simp),if_neg (by omega),if_pos B.pos] at hs
    simp only [c1] at hs
    simp only [Option.some.injEq,Prod.mk.injEq] at hs
    obtain ⟨rfl,rfl,rfl⟩:=hs
    obtain ⟨_,hF,x1,x2,x3,x4⟩:=d1
    rw [hF] at A'
    by_cases hroom:(QT q w.aim k).ks.length <= S.room
    . have en:(Qr { S with rd:=S.rd + 1 } w f (QT q w.aim k)).2.2.ended = true:=by unfold Qr;rw [if_pos hroom]
      exact ⟨1,_,_,_,g1,.cons B.live s1 (.nil _ _),by omega,A',en,x1,x2,dd1,rr⟩
    . obtain ⟨n1,n2⟩:=GR B.al.tree a2 c2 (by omega) c4 (B.al.unt B.live B.pos k c1)
      have lt:ltB (bg f) w.aim:=fun v hv=>by
        have:=b1 v hv
        have:v ≠ w.aim:=fun e=>n2 (by rw [hv,e])
        omega
      have okP:=Vz (B.al.tree.page f q a2) (by have:=B.pos;omega) (c:=k) n1 lt b2
      have r2:=B.al.tree.room2
      have B':Bs (Qr { S with rd:=S.rd + 1 } w f (QT q w.aim k)).2.1 bg' F (Qr { S with rd:=S.rd + 1 } w f (QT q w.aim k)).2.2 R:=by
        refine Bs.of (P:=QT q w.aim k) B.al.tree A' g1 a2 ⟨q,a2,b1,b2⟩ (uN okP (by omega) a2 rfl) (fun j j1 j2=>B.kp j (by omega) j2) B.no B.root (by omega) ?_ ?_ ?_ ?_ ?_ ?_ ?_
        all_goals (unfold Qr;rw [if_neg hroom];first | done | exact B.live | rfl)
      have gl:(Qr { S with rd:=S.rd + 1 } w f (QT q w.aim k)).2.2.goal = w.goal + 1:=by
        unfold Qr;rw [if_neg hroom];show q.lv + 1 = _;omega
      obtain ⟨m',S2,bg2,w2,t0,t1,t2,t3,t4,t5,t6,t7,t8⟩:=ih B' (by omega)
      exact ⟨m' + 1,S2,bg2,w2,g1.trans t0,.cons B.live s1 t1,by omega,t3,t4,t5.trans x1,t6.trans x2,t7.trans dd1,t8.trans rr⟩
end
end TR
namespace TR
section
variable {S S':Sh} {bg bg':Bg} {n f:Nat} {p q P:Pg} {w w':Wk} {r:Row} {a k:Int} {F F':Int -> Option Int} {R:Nat}
def Jl (S:Sh) (l:Nat):Nat:=((List.range S.pg.length).filter (lvB S fun x=>decide (x = l))).length
theorem yU {l:Nat} (h:S.pg[n]? = some p) (hl:p.lv = l):n ∈ (List.range S.pg.length).filter (lvB S fun x=>decide (x = l)) :=
  List.mem_filter.mpr ⟨List.mem_range.mpr (Qw h),by unfold lvB;rw [h];simpa using hl⟩
theorem ue {l:Nat} (h:S.pg[n]? = some p) (hl:p.lv = l):1 <= Jl S l:=List.length_pos_of_mem (yU h hl)
theorem Qeq {l:List Nat} {x y:Nat} (hx:x ∈ l) (hy:y ∈ l) (ne:x ≠ y):2 <= l.length:=by
  cases l with
  | nil=>cases hx
  | cons a l =>
    cases l with
    | nil =>
      rw [List.mem_singleton] at hx hy
      exact absurd (hx.trans hy.symm) ne
    | cons b l=>simp
theorem QbN (T:Tree S bg) (K:Fk S) (h:S.pg[n]? = some p) (hl:0 < p.lv):2 <= Jl S (p.lv - 1):=by
  have k1:=K n p h hl
  have pl:=(T.page n p h).parts
  rw [if_neg (by omega)] at pl
  obtain ⟨c,q,a1,a2,a3,a4⟩:=T.kid n p h hl 0 _ (List.getElem?_eq_getElem (by omega:0 < p.ps.length))
  obtain ⟨d,z,b1,b2,b3,b4⟩:=T.kid n p h hl 1 _ (List.getElem?_eq_getElem (by omega:1 < p.ps.length))
  refine Qeq (yU a2 (by omega)) (yU b2 (by omega)) fun e=>?_
  subst e
  have a4:bg c = bg n:=a4
  have b4:bg c = p.ks[0]?:=b4
  rw [List.getElem?_eq_getElem (by omega:0 < p.ks.length)] at b4
  have:=(T.page n p h).lowF hl _ (List.getElem_mem (by omega:0 < p.ks.length)) _ (a4.symm.trans b4)
  omega
theorem yA (m:Nat):∀ (R:Nat),(∀ j,0 < j -> j <= R -> m <= Jl S (j - 1)) -> R * m <= ((List.range S.pg.length).filter (lvB S fun x=>decide (x < R))).length
  | 0,_=>by simp
  | R + 1,h=>by
    have ih:=yA m R fun j a b=>h j a (by omega)
    have:=h (R + 1) (by omega) (Nat.le_refl _)
    rw [XY,Nat.succ_mul]
    unfold Jl at this
    simp only [Nat.add_sub_cancel] at this
    omega
theorem Tree.pages_two (T:Tree S bg) (K:Fk S) (hr:S.pg[S.top]? = some p) (hK:∀ j,0 < j -> j <= p.lv -> ∃ (f:Nat) (q:Pg),S.pg[f]? = some q /\ q.lv = j):2 * p.lv + 1 <= S.pg.length:=by
  obtain ⟨z,r1,r2⟩:=T.root
  rw [hr] at r1;cases r1
  have a:=jU (S:=S) (L:=p.lv) r2
  rw [XY] at a
  have b:=yA (S:=S) 2 p.lv fun j h1 h2=>by
    obtain ⟨f,q,x1,x2⟩:=hK j h1 h2
    subst x2
    exact QbN T K x1 h1
  have c:=ue hr rfl
  unfold Jl at c
  omega
theorem Tree.pages_row (T:Tree S bg) (hr:S.pg[S.top]? = some p) (hK:∀ j,0 < j -> j <= p.lv -> ∃ (f:Nat) (q:Pg),S.pg[f]? = some q /\ q.lv = j):Jl S 0 + p.lv <= S.pg.length:=by
  obtain ⟨z,r1,r2⟩:=T.root
  rw [hr] at r1;cases r1
  have a:=jU (S:=S) (L:=p.lv) r2
  have key:∀ R,R <= p.lv -> Jl S 0 + R <= ((List.range S.pg.length).filter (lvB S fun x=>decide (x < R + 1))).length:=by
    intro R
    induction R with
    | zero=>intro _;rw [XY,yB];unfold Jl;omega
    | succ R ih =>
      intro h
      have:=ih (by omega)
      obtain ⟨f,q,x1,x2⟩:=hK (R + 1) (by omega) h
      have:=ue x1 x2
      rw [XY]
      unfold Jl at *
      omega
  have:=key p.lv (Nat.le_refl _)
  omega
def lfR (S:Sh) (bg:Bg) (n:Nat):Nat:=((List.range S.pg.length).filter fun m=>lvB S (fun x=>decide (x = 0)) m && ltO (bg n) (bg m)).length
theorem QdG (S:Sh) (bg:Bg) (hn:S.pg[n]? = some p) (hz:p.lv = 0):lfR S bg n + 1 <= Jl S 0:=by
  refine ji (lvB S fun x=>decide (x = 0)) _ _ (fun x _ hx=>(Bool.and_eq_true_iff.mp hx).1) ⟨n,List.mem_range.mpr (Qw hn),?_,?_⟩
  . unfold lvB;rw [hn];simpa using hz
  . rw [yk,Bool.and_false]
theorem vG (h:ltH k p.hi):Za p k = false:=by
  unfold Za
  cases hh:p.hi with
  | none=>rfl
  | some x=>have:=h x hh;simp;omega
theorem zd (hw:w.ended = false) (h0:w.place.getD S.top = n) (hn:S.pg[n]? = some p) (hg:w.goal = 0) (hz:p.lv = 0) (hh:ltH w.aim p.hi):Z7 S w = some (ZF { S with rd:=S.rd + 1 } w n p):=by
  unfold Z7
  rw [if_neg (by rw [hw];simp),h0]
  simp only [hn]
  rw [if_neg (by omega),vG hh,if_neg (by simp),if_neg (by omega),if_neg (by omega)]
theorem Qbf:∀ (m:Nat) {S:Sh} {bg:Bg} {w:Wk} {n:Nat} {p:Pg} {l h:Int},Al S bg F w -> w.ended = false -> w.goal = 0 -> w.deed = .stretch l h -> l <= w.aim -> w.aim < h -> Rds F l w.aim w.pairs -> w.place.getD S.top = n -> S.pg[n]? = some p -> p.lv = 0 -> In S bg n w.aim -> lfR S bg n <= m ->
    ∃ m' S' bg' w',Grow S bg S' bg' /\ Steps m' S w S' w' /\ m' <= m + 1 /\ Al S' bg' F w' /\ w'.ended = true /\ Rds F l h w'.pairs /\ w'.deed = w.deed /\ S'.room = S.room:=by
  intro m
  induction m with
  | zero =>
    intro S bg w n p l h A hw hg hd hl hh hr h0 hn hz hin hm
    obtain ⟨_,e1,a1,a2⟩:=hin;rw [hn] at e1;cases e1
    obtain ⟨r,S',w',bg',F',s1,A',g1,d1,dd1,rr⟩:=A.step hw
    have ls:=zd hw h0 hn hg hz a2
    have join:∀ {e:Int} {ps:List (Int × Int)},w.aim <= e -> Rds F w.aim e ps -> Rds F l e (w.pairs ++ ps):=fun {e ps} he ⟨x1,x2⟩=>by
      refine ⟨List.pairwise_append.mpr ⟨hr.1,x1,fun x hx y hy=>?_⟩,fun k v=>?_⟩
      . have:=((hr.2 x.1 x.2).mp hx).2;have:=((x2 y.1 y.2).mp hy).2;omega
      . rw [List.mem_append,hr.2,x2]
        constructor
        . rintro (⟨u1,u2,u3⟩ | ⟨u1,u2,u3⟩)
          . exact ⟨u1,u2,by omega⟩
          . exact ⟨u1,by omega,u3⟩
        . rintro ⟨u1,u2,u3⟩
          rcases Int.lt_or_le k w.aim with c | c
          . exact .inl ⟨u1,u2,c⟩
          . exact .inr ⟨u1,c,u3⟩
    have over:∀ {ps:List (Int × Int)},r = .read n ps none -> ∃ m' S' bg' w',Grow S bg S' bg' /\ Steps m' S w S' w' /\ m' <= 0 + 1 /\ Al S' bg' F w' /\ w'.ended = true /\ Rds F l h w'.pairs /\ w'.deed = w.deed /\ S'.room = S.room:=fun {ps} e=>by
      subst e
      obtain ⟨l',h',b1,b2,b3,b4,b5,b6⟩:=d1
      rw [hd] at b1;cases b1
      rw [b2] at A'
      exact ⟨1,S',bg',w',g1,.cons hw s1 (.nil _ _),Nat.le_refl _,A',b6,by rw [b3];exact join (by omega) b5,dd1,rr⟩
    rw [ls] at s1
    have s1':=Option.some.inj s1
    unfold ZF at s1'
    rw [hd] at s1'
    dsimp only at s1'
    rcases A.tree.link n p hn with ⟨x,y⟩ | ⟨x,s,z,y1,y2,y3,y4,y5⟩
    . simp only [x,y] at s1'
      exact over (congrArg (·.1) s1').symm
    . simp only [y1,y2] at s1'
      by_cases hx:h <= x
      . rw [if_pos hx] at s1'
        exact over (congrArg (·.1) s1').symm
      . exfalso
        have:s ∈ (List.range S.pg.length).filter fun m=>lvB S (fun x=>decide (x = 0)) m && ltO (bg n) (bg m):=by
          refine List.mem_filter.mpr ⟨List.mem_range.mpr (Qw y3),?_⟩
          rw [Bool.and_eq_true]
          refine ⟨by unfold lvB;rw [y3];simp;omega,?_⟩
          rw [y5];exact jr ((A.tree.page n p hn).wide x y1)
        have:=List.length_pos_of_mem this
        unfold lfR at hm
        omega
  | succ m ih =>
    intro S bg w n p l h A hw hg hd hl hh hr h0 hn hz hin hm
    obtain ⟨_,e1,a1,a2⟩:=hin;rw [hn] at e1;cases e1
    obtain ⟨r,S',w',bg',F',s1,A',g1,d1,dd1,rr⟩:=A.step hw
    have ls:=zd hw h0 hn hg hz a2
    have join:∀ {e:Int} {ps:List (Int × Int)},w.aim <= e -> Rds F w.aim e ps -> Rds F l e (w.pairs ++ ps):=fun {e ps} he ⟨x1,x2⟩=>by
      refine ⟨List.pairwise_append.mpr ⟨hr.1,x1,fun x hx y hy=>?_⟩,fun k v=>?_⟩
      . have:=((hr.2 x.1 x.2).mp hx).2;have:=((x2 y.1 y.2).mp hy).2;omega
      . rw [List.mem_append,hr.2,x2]
        constructor
        . rintro (⟨u1,u2,u3⟩ | ⟨u1,u2,u3⟩)
          . exact ⟨u1,u2,by omega⟩
          . exact ⟨u1,by omega,u3⟩
        . rintro ⟨u1,u2,u3⟩
          rcases Int.lt_or_le k w.aim with c | c
          . exact .inl ⟨u1,u2,c⟩
          . exact .inr ⟨u1,c,u3⟩
    have over:∀ {ps:List (Int × Int)},r = .read n ps none -> ∃ m' S' bg' w',Grow S bg S' bg' /\ Steps m' S w S' w' /\ m' <= m + 1 + 1 /\ Al S' bg' F w' /\ w'.ended = true /\ Rds F l h w'.pairs /\ w'.deed = w.deed /\ S'.room = S.room:=fun {ps} e=>by
      subst e
      obtain ⟨l',h',b1,b2,b3,b4,b5,b6⟩:=d1
      rw [hd] at b1;cases b1
      rw [b2] at A'
      exact ⟨1,S',bg',w',g1,.cons hw s1 (.nil _ _),by omega,A',b6,by rw [b3];exact join (by omega) b5,dd1,rr⟩
    have s1c:=s1
    rw [ls] at s1
    have s1':=Option.some.inj s1
    unfold ZF at s1'
    rw [hd] at s1'
    dsimp only at s1'
    rcases A.tree.link n p hn with ⟨x,y⟩ | ⟨x,s,z,y1,y2,y3,y4,y5⟩
    . simp only [x,y] at s1'
      exact over (congrArg (·.1) s1').symm
    . simp only [y1,y2] at s1'
      by_cases hx:h <= x
      . rw [if_pos hx] at s1'
        exact over (congrArg (·.1) s1').symm
      . rw [if_neg hx] at s1'
        have er:r = .read n (QM p l h) (some (s,x)):=(congrArg (·.1) s1').symm
        have eS:S' = { S with rd:=S.rd + 1 }:=(congrArg (·.2.1) s1').symm
        have ew:w'.place = some s:=by have:=congrArg (·.2.2.place) s1';exact this.symm
        subst er
        obtain ⟨l',h',b1,b2,b3,b4,b5,b6,b7,b8,b9,b10⟩:=d1
        rw [hd] at b1;cases b1
        rw [b2] at A'
        have pgS:S'.pg = S.pg:=by rw [eS]
        have hs':S'.pg[s]? = some z:=by rw [pgS];exact y3
        have bgs:bg' s = some x:=by rw [(g1.old s z y3).1];exact y5
        have inS:In S' bg' s w'.aim:=by
          refine ⟨z,hs',fun v hv=>?_,fun v hv=>?_⟩
          . rw [bgs] at hv;cases hv;rw [b8];exact Int.le_refl _
          . rw [b8];exact (A'.tree.page s z hs').wide v hv x bgs
        have less:lfR S' bg' s <= m:=by
          have:lfR S' bg' s < lfR S bg n:=by
            unfold lfR
            rw [pgS]
            refine ji _ _ _ (fun y hy hq=>?_) ⟨s,List.mem_range.mpr (Qw y3),?_,?_⟩
            . obtain ⟨q1,q2⟩:=Bool.and_eq_true_iff.mp hq
              have ly:=List.mem_range.mp hy
              have by':bg' y = bg y:=(g1.old y _ (List.getElem?_eq_getElem ly)).1
              rw [Bool.and_eq_true]
              refine ⟨by unfold lvB at q1 ⊢;rw [pgS] at q1;exact q1,?_⟩
              rw [by',bgs] at q2
              exact Uf (jr ((A.tree.page n p hn).wide x y1)) q2
            . rw [Bool.and_eq_true]
              refine ⟨by unfold lvB;rw [y3];simp;omega,?_⟩
              rw [y5];exact jr ((A.tree.page n p hn).wide x y1)
            . rw [yk,Bool.and_false]
          omega
        obtain ⟨m',S2,bg2,w2,t0,t1,t2,t3,t4,t5,t6,t7⟩:=ih A' b9 b10 (dd1.trans hd) (by omega) (by omega) (by rw [b3,b8];exact join (by omega) b7) (by rw [ew];rfl) hs' (by omega) inS less
        exact ⟨m' + 1,S2,bg2,w2,g1.trans t0,.cons hw s1c t1,by omega,t3,t4,t5,t6.trans dd1,t7.trans rr⟩
def Ans (F F':Int -> Option Int) (w:Wk):Deed -> Prop
  | .find k=>F' = F /\ w.worth = F k
  | .put k x=>F' = ku F k x /\ w.worth = F k
  | .cut k=>F' = GQ F k /\ w.worth = F k
  | .stretch l h=>F' = F /\ Rds F l h w.pairs
def GZ:Deed -> Prop
  | .stretch l h=>l < h
  | _=>True
theorem QeD (T:Tree S bg) (D:∀ s,s < S.pg.length -> s ≠ S.top -> Kd S s) (K:Fk S) (hT:TabIs S F) (d:Deed) (hd:GZ d) :
    ∃ m S' bg' F' w',Grow S bg S' bg' /\ Steps m S (fresh d) S' w' /\ m <= S.pg.length + 8 /\ Al S' bg' F' w' /\ w'.ended = true /\ Ans F F' w' d /\ w'.deed = d /\ S'.room = S.room:=by
  have A:Al S bg F (fresh d):=by
    refine ⟨T,K,hT,fun n h1 h2=>.inl (D n h1 h2),fun _=>?_,fun _=>WOk.fresh rfl rfl rfl,fun _ h=>absurd h (by show ¬ 0 < 0;omega)⟩
    cases d with
    | find k=>rfl
    | put k x=>rfl
    | cut k=>rfl
    | stretch l h=>exact ⟨hd,.inl rfl⟩
  obtain ⟨rt,hr,_⟩:=T.root
  have rh:=T.root_hi D hr
  have inR:In S bg S.top (fresh d).aim:=⟨rt,hr,fun v hv=>(by rw [T.rbg] at hv;cases hv),fun v hv=>(by rw [rh] at hv;cases hv)⟩
  obtain ⟨S2,bg2,w2,n2,p2,b0,b1,b2,b3,b4,b5,b6,b7,b8,b9,b10,b11,b12,b13,b14,b15,b16⟩:=uo (F:=F) rt.lv A rfl rfl rfl rfl hr inR
  have hr2:S2.pg[S2.top]? = some rt:=by rw [b3,b4];exact hr
  have hK:∀ j,0 < j -> j <= rt.lv -> ∃ (f:Nat) (q:Pg),S.pg[f]? = some q /\ q.lv = j:=fun j h1 h2=>by
    obtain ⟨f,q,_,x2,x3,_⟩:=b15 j h1 h2
    exact ⟨f,q,by rw [<- b3];exact x2,x3⟩
  have two:=T.pages_two K hr hK
  have row:=T.pages_row hr hK
  have no:∀ j,rt.lv < j -> ZR w2.forks j = none:=fun j h=>by rw [b16 j h];rfl
  obtain ⟨_,y0,y1,y2⟩:=b14
  rw [b12] at y0;cases y0
  have ls:=zd b6 b11 b12 b7 b13 y2
  have dk:w2.deed = d:=b9
  obtain ⟨r,S3,w3,bg3,F3,s3,A3,g3,d3,dd3,rr3⟩:=b2.step b6
  cases d with
  | find k =>
    have s3':=s3
    rw [ls] at s3'
    have q:=Option.some.inj s3'
    unfold ZF at q;rw [dk] at q;dsimp only at q
    have er:=(congrArg (·.1) q).symm
    subst er
    obtain ⟨k',z1,z2,z3,z4,z5,z6⟩:=d3
    rw [dk] at z1;cases z1
    exact ⟨_,S3,bg3,F3,w3,b0.trans g3,b1.snoc b6 s3,by omega,A3,z6,⟨z3,z4⟩,dd3.trans dk,rr3.trans b5⟩
  | cut k =>
    have s3':=s3
    rw [ls] at s3'
    have q:=Option.some.inj s3'
    unfold ZF at q;rw [dk] at q;dsimp only at q
    have er:=(congrArg (·.1) q).symm
    subst er
    obtain ⟨k',z1,z2,z3,z4,z5,z6⟩:=d3
    rw [dk] at z1;cases z1
    exact ⟨_,S3,bg3,F3,w3,b0.trans g3,b1.snoc b6 s3,by omega,A3,z6,⟨z3,z4⟩,dd3.trans dk,rr3.trans b5⟩
  | put k x =>
    have s3':=s3
    rw [ls] at s3'
    have q:=Option.some.inj s3'
    unfold ZF at q;rw [dk] at q;dsimp only at q
    simp only [Prod.mk.injEq] at q
    obtain ⟨rfl,rfl,rfl⟩:=q
    obtain ⟨k',x',z1,z2,z3,z4,z5,z6,z7⟩:=d3
    rw [dk] at z1;cases z1
    by_cases hroom:(QE p2 w2.aim x).ks.length <= S2.room
    . refine ⟨_,_,bg3,F3,_,b0.trans g3,b1.snoc b6 s3,by omega,A3,?_,⟨z3,z4⟩,dd3.trans dk,rr3.trans b5⟩
      unfold Qr;rw [if_pos hroom]
    . have r2:=b2.tree.room2
      have okP:=xP (x:=x) (b2.tree.page n2 p2 b12) b13 y1 y2
      have B:=by
        refine Bs.of (R:=rt.lv) (P:=QE p2 w2.aim x) (w:=w2) (n:=n2) (p:=p2) b2.tree A3 g3 b12 ⟨p2,b12,y1,y2⟩ (uN okP (by omega) b12 rfl) (by rw [b13];exact b15) no ⟨rt,hr2,rfl⟩ (by omega) ?_ ?_ ?_ ?_ ?_ ?_ ?_
        all_goals (unfold Qr;rw [if_neg hroom];first | done | exact b6 | rfl)
      obtain ⟨m',S4,bg4,w4,t0,t1,t2,t3,t4,t5,t6,t7,t8⟩:=B.finish _ rfl
      exact ⟨_,S4,bg4,F3,w4,(b0.trans g3).trans t0,(b1.snoc b6 s3).app t1,by omega,t3,t4,⟨z3,t5.trans z4⟩,t7.trans (dd3.trans dk),t8.trans (rr3.trans b5)⟩
  | stretch l h =>
    have hd:l < h:=hd
    have e8:w2.aim = l:=b8
    obtain ⟨m',S4,bg4,w4,t0,t1,t2,t3,t4,t5,t6,t7⟩:=Qbf (lfR S2 bg2 n2) b2 b6 b7 dk (by omega) (by omega) ⟨by rw [b10];exact List.Pairwise.nil,fun k v=>⟨fun hm=>(by rw [b10] at hm;cases hm),fun ⟨_,u2,u3⟩=>(by omega)⟩⟩ b11 b12 b13 ⟨p2,b12,y1,y2⟩ (Nat.le_refl _)
    have lr:=QdG S2 bg2 b12 b13
    have ce:Jl S2 0 = Jl S 0:=by unfold Jl lvB;rw [b3]
    exact ⟨_,S4,bg4,F,w4,b0.trans t0,b1.app t1,by omega,t3,t4,⟨rfl,t5⟩,t6.trans dk,t7.trans b5⟩
end
end TR
namespace TR
section
variable {S S':Sh} {bg bg':Bg} {F:Int -> Option Int}
end
end TR
namespace TR
section
variable {S S':Sh} {bg bg':Bg} {n f:Nat} {p q P:Pg} {w w':Wk} {r:Row} {a k:Int} {F F':Int -> Option Int} {R:Nat}
theorem vV (S:Sh) (w:Wk) (n:Nat) (P:Pg) (hn:n < S.pg.length):((Qr S w n P).2.1.pg.length = S.pg.length /\ (Qr S w n P).2.2.goal = w.goal) ∨ ((Qr S w n P).2.1.pg.length = S.pg.length + 1 /\ (Qr S w n P).2.1.pg[S.pg.length]? = some (QA P) /\ (Qr S w n P).2.2.goal = P.lv + 1):=by
  unfold Qr
  by_cases hr:P.ks.length <= S.room
  . rw [if_pos hr];exact .inl ⟨by simp,rfl⟩
  . rw [if_neg hr]
    refine .inr ⟨by simp,?_,rfl⟩
    show ((S.pg ++ [QA P]).set n (QK P S.pg.length))[S.pg.length]? = _
    rw [List.getElem?_set_ne (by omega)];simp
theorem Qbt (T:Tree S bg) (W:WOk S bg w) (hw:w.ended = false) (hs:Z7 S w = some (r,S',w')):(0 < w.goal -> 0 < w'.goal) /\ (S'.pg.length = S.pg.length ∨ (S'.pg.length = S.pg.length + 1 /\ ∃ q,S'.pg[S.pg.length]? = some q /\ q.lv = w.goal /\ 0 < w'.goal)):=by
  obtain ⟨n,hn0,hpl⟩:∃ n,w.place.getD S.top = n /\ (w.place = some n ∨ (w.place = none /\ n = S.top)):=by
    cases e:w.place with
    | none=>exact ⟨S.top,rfl,.inr ⟨rfl,rfl⟩⟩
    | some m=>exact ⟨m,rfl,.inl rfl⟩
  obtain ⟨p,hn⟩:∃ p,S.pg[n]? = some p:=by
    rcases hpl with hp | ⟨_,rfl⟩
    . obtain ⟨p,a,_⟩:=W.at_ n hp;exact ⟨p,a⟩
    . obtain ⟨p,a,_⟩:=T.root;exact ⟨p,a⟩
  have ln:=Qw hn
  unfold Z7 at hs
  rw [if_neg (by rw [hw];simp),hn0] at hs
  simp only [hn] at hs
  by_cases hr:w.place = none /\ p.lv < w.goal
  . rw [if_pos hr] at hs
    obtain ⟨k,q,a1,a2,a3,a4⟩:=W.tell (by omega)
    simp only [a1] at hs
    cases hs
    refine ⟨id,.inr ⟨by simp,_,by simp;rfl,?_,by show 0 < w.goal;omega⟩⟩
    show p.lv + 1 = w.goal
    have htop:n = S.top:=by
      rcases hpl with hp | ⟨_,e⟩
      . rw [hr.1] at hp;cases hp
      . exact e
    subst htop
    obtain ⟨r,b1,b2⟩:=T.root
    rw [hn] at b1;cases b1
    have:=b2 k q a2;omega
  . rw [if_neg hr] at hs
    cases hb:Za p w.aim with
    | true =>
      rw [hb,if_pos rfl] at hs
      cases hsd:p.sd with
      | none=>rw [hsd] at hs;cases hs
      | some s=>rw [hsd] at hs;cases hs;exact ⟨id,.inl rfl⟩
    | false =>
      rw [hb,if_neg (by simp)] at hs
      by_cases hd:w.goal < p.lv
      . rw [if_pos hd] at hs
        cases hq:p.ps[cLe p.ks w.aim]? with
        | none=>rw [hq] at hs;cases hs
        | some c=>rw [hq] at hs;cases hs;exact ⟨id,.inl rfl⟩
      . rw [if_neg hd] at hs
        have hg:w.goal <= p.lv:=by
          rcases hpl with hp | ⟨hp,_⟩
          . obtain ⟨p',b1,b2,_⟩:=W.at_ n hp
            rw [hn] at b1;cases b1;exact b2
          . exact Nat.le_of_not_lt fun h=>hr ⟨hp,h⟩
        have back:∀ (w0:Wk) (P:Pg),w0.goal = w.goal -> P.lv = p.lv -> (0 < w.goal -> 0 < (Qr { S with rd:=S.rd + 1 } w0 n P).2.2.goal) /\ ((Qr { S with rd:=S.rd + 1 } w0 n P).2.1.pg.length = S.pg.length ∨ ((Qr { S with rd:=S.rd + 1 } w0 n P).2.1.pg.length = S.pg.length + 1 /\ ∃ q,(Qr { S with rd:=S.rd + 1 } w0 n P).2.1.pg[S.pg.length]? = some q /\ q.lv = w.goal /\ 0 < (Qr { S with rd:=S.rd + 1 } w0 n P).2.2.goal)):=fun w0 P e0 hl=>by
          rcases vV { S with rd:=S.rd + 1 } w0 n P ln with ⟨h1,h2⟩ | ⟨h1,h2,h3⟩
          . exact ⟨fun h=>by omega,.inl h1⟩
          . exact ⟨fun h=>by omega,.inr ⟨h1,_,h2,by show P.lv = w.goal;omega,by omega⟩⟩
        by_cases h0:0 < w.goal
        . rw [if_pos h0] at hs
          obtain ⟨k,q,a1,a2,a3,a4⟩:=W.tell h0
          simp only [a1] at hs
          simp only [Option.some.injEq,Prod.mk.injEq] at hs
          obtain ⟨rfl,rfl,rfl⟩:=hs
          exact back w (QT p w.aim k) rfl rfl
        . rw [if_neg h0] at hs
          have hs:=Option.some.inj hs
          unfold ZF at hs
          cases hdd:w.deed with
          | find k=>rw [hdd] at hs;cases hs;exact ⟨fun h=>absurd h h0,.inl rfl⟩
          | put k x =>
            rw [hdd] at hs
            dsimp only at hs
            simp only [Prod.mk.injEq] at hs
            obtain ⟨rfl,rfl,rfl⟩:=hs
            exact back _ (QE p w.aim x) rfl rfl
          | cut k =>
            rw [hdd] at hs;dsimp only at hs;cases hs
            refine ⟨fun h=>absurd h h0,.inl ?_⟩
            by_cases hq:(QG p w.aim).isSome = true
            . rw [if_pos hq];simp
            . rw [if_neg hq]
          | stretch l h =>
            rw [hdd] at hs;dsimp only at hs
            refine ⟨fun h=>absurd h h0,.inl ?_⟩
            cases hhi:p.hi with
            | none=>rw [hhi] at hs;cases hs;rfl
            | some x =>
              cases hsd:p.sd with
              | none=>rw [hhi,hsd] at hs;cases hs;rfl
              | some s =>
                rw [hhi,hsd] at hs
                dsimp only at hs
                by_cases hx:h <= x
                . rw [if_pos hx] at hs;cases hs;rfl
                . rw [if_neg hx] at hs;cases hs;rfl
theorem Go (g:Grow S bg S' bg') {n:Nat} (hn:n < S.pg.length) (fn:Nat -> Bool):lvB S' fn n = lvB S fn n:=by
  obtain ⟨_,p',h1,h2⟩:=g.old n _ (List.getElem?_eq_getElem hn)
  unfold lvB
  rw [h1,List.getElem?_eq_getElem hn]
  show fn p'.lv = fn _
  rw [h2]
theorem X8 {α:Type} {f h:α -> Bool}:∀ {l:List α},(∀ x ∈ l,f x = h x) -> l.filter f = l.filter h
  | [],_=>rfl
  | x :: l,e=>by
    rw [List.filter_cons,List.filter_cons,e x (by simp),X8 fun y hy=>e y (List.mem_cons_of_mem _ hy)]
theorem qX (g:Grow S bg S' bg') (h:S'.pg.length = S.pg.length) (l:Nat):Jl S' l = Jl S l:=by
  unfold Jl
  rw [h,X8 fun x hx=>Go g (List.mem_range.mp hx) _]
theorem jT (g:Grow S bg S' bg') (h:S'.pg.length = S.pg.length + 1) (hq:S'.pg[S.pg.length]? = some q) (l:Nat):Jl S' l = Jl S l + if q.lv = l then 1 else 0:=by
  unfold Jl
  rw [h,List.range_succ,List.filter_append,List.length_append,X8 fun x hx=>Go g (List.mem_range.mp hx) _]
  have e:lvB S' (fun x=>decide (x = l)) S.pg.length = decide (q.lv = l):=by unfold lvB;rw [hq]
  congr 1
  rw [List.filter_cons,e]
  by_cases c:q.lv = l <;> simp [c]
def lvs (S:Sh) (w:Wk):Nat:=Jl S 0 + if w.goal = 0 /\ w.ended = false then 1 else 0
theorem Al.leaves (A:Al S bg F w) (hw:w.ended = false) (hs:Z7 S w = some (r,S',w')) (g:Grow S bg S' bg'):lvs S' w' <= lvs S w:=by
  obtain ⟨h1,h2⟩:=Qbt A.tree (A.wok hw) hw hs
  have key:∀ (c:Prop) [Decidable c],(if c then 1 else 0) <= 1:=fun c _=>by split <;> omega
  unfold lvs
  rcases h2 with h2 | ⟨h2,q,h3,h4,h5⟩
  . rw [qX g h2]
    by_cases c:w.goal = 0
    . rw [if_pos (c:=w.goal = 0 /\ w.ended = false) ⟨c,hw⟩]
      have:=key (w'.goal = 0 /\ w'.ended = false)
      omega
    . rw [if_neg (c:=w'.goal = 0 /\ w'.ended = false) (fun z=>by have:=h1 (by omega);omega)];omega
  . rw [jT g h2 h3,if_neg (c:=w'.goal = 0 /\ w'.ended = false) (fun z=>by omega)]
    by_cases c:w.goal = 0
    . rw [if_pos (c:=w.goal = 0 /\ w.ended = false) ⟨c,hw⟩]
      have:=key (q.lv = 0)
      omega
    . rw [if_neg (c:=q.lv = 0) (by omega)];omega
theorem Steps.leaves {m:Nat} (h:Steps m S w S' w'):∀ {bg F},Al S bg F w -> lvs S' w' <= lvs S w:=by
  induction h with
  | nil S w=>intro bg F A;exact Nat.le_refl _
  | cons hw hs _ ih =>
    intro bg F A
    obtain ⟨r,S',w',bg',F',s1,A',g1,_⟩:=A.step hw
    rw [hs] at s1;cases s1
    exact Nat.le_trans (ih A') (A.leaves hw hs g1)
theorem YA:∀ {l m:List Nat},l.Nodup -> (∀ x ∈ l,x ∈ m) -> l.length <= m.length
  | [],m,_,_=>Nat.zero_le _
  | x :: l,m,h,hs=>by
    obtain ⟨h1,h2⟩:=List.nodup_cons.mp h
    have hx:=hs x (by simp)
    have:=YA (l:=l) (m:=m.erase x) h2 fun y hy=>by
      have ne:y ≠ x:=fun e=>h1 (e ▸ hy)
      exact (List.mem_erase_of_ne ne).mpr (hs y (List.mem_cons_of_mem _ hy))
    rw [List.length_erase_of_mem hx] at this
    have:=List.length_pos_of_mem hx
    rw [List.length_cons];omega
def xy (S:Sh) (n j:Nat):Nat:=match S.pg[n]? with
  | some p=>(p.ps.getD j 0).toNat
  | none=>0
theorem Ka (T:Tree S bg) (K:Fk S) (hn:S.pg[n]? = some p) (hl:0 < p.lv) {j:Nat} (hj:j < 2):∃ q,S.pg[xy S n j]? = some q /\ q.lv + 1 = p.lv /\ bg (xy S n j) = Zs (bg n) p.ks j:=by
  have pl:=(T.page n p hn).parts
  rw [if_neg (by omega)] at pl
  have k1:=K n p hn hl
  obtain ⟨c,q,a1,a2,a3,a4⟩:=T.kid n p hn hl j _ (List.getElem?_eq_getElem (by omega:j < p.ps.length))
  have e:xy S n j = c:=by
    unfold xy;rw [hn]
    show (p.ps.getD j 0).toNat = c
    rw [List.getD_eq_getElem?_getD,List.getElem?_eq_getElem (by omega:j < p.ps.length),a1];rfl
  rw [e];exact ⟨q,a2,a3,a4⟩
theorem GM (T:Tree S bg) (K:Fk S) (hn:S.pg[n]? = some p) (hl:0 < p.lv) {j:Nat} (hj:j < 2):leBB (bg n) (Zs (bg n) p.ks j) /\ ∀ h v,p.hi = some h -> Zs (bg n) p.ks j = some v -> v < h:=by
  have ok:=T.page n p hn
  have k1:=K n p hn hl
  cases j with
  | zero=>exact ⟨leBB.refl _,fun h v h1 h2=>ok.wide h h1 v h2⟩
  | succ i =>
    have e:i = 0:=by omega
    subst e
    have g:Zs (bg n) p.ks (0 + 1) = some p.ks[0]:=List.getElem?_eq_getElem (l:=p.ks) (i:=0) k1
    have m:p.ks[0] ∈ p.ks:=List.getElem_mem _
    rw [g]
    exact ⟨fun v hv=>⟨_,rfl,ok.low _ m v hv⟩,fun h v h1 h2=>by cases h2;exact ok.high _ m h h1⟩
theorem kU (T:Tree S bg) (K:Fk S) (l:Nat):2 * Jl S (l + 1) <= Jl S l:=by
  let L:=(List.range S.pg.length).filter (lvB S fun x=>decide (x = l + 1))
  have inL:∀ n ∈ L,∃ p,S.pg[n]? = some p /\ p.lv = l + 1:=fun n hn=>by
    obtain ⟨h1,h2⟩:=List.mem_filter.mp hn
    have h1:=List.mem_range.mp h1
    unfold lvB at h2
    rw [List.getElem?_eq_getElem h1] at h2
    exact ⟨_,List.getElem?_eq_getElem h1,by simpa using h2⟩
  have nd:L.Nodup:=List.nodup_range.filter _
  have key:∀ n m i j,n ∈ L -> m ∈ L -> i < 2 -> j < 2 -> xy S n i = xy S m j -> n = m /\ i = j:=fun n m i j hn hm hi hj e=>by
    obtain ⟨p,a1,a2⟩:=inL n hn
    obtain ⟨q,b1,b2⟩:=inL m hm
    obtain ⟨_,_,_,c3⟩:=Ka T K a1 (by omega) hi
    obtain ⟨_,_,_,d3⟩:=Ka T K b1 (by omega) hj
    rw [e,d3] at c3
    obtain ⟨x1,x2⟩:=GM T K a1 (by omega) hi
    obtain ⟨y1,y2⟩:=GM T K b1 (by omega) hj
    have nm:n = m:=by
      rcases Nat.decEq n m with h | h
      . exfalso
        rcases T.dis n m p q a1 b1 (by omega) h with ⟨u,v,e1,e2,e3⟩ | ⟨u,v,e1,e2,e3⟩
        . obtain ⟨z,z1,z2⟩:=y1 v e2
          have:=x2 u z e1 (c3.symm.trans z1);omega
        . obtain ⟨z,z1,z2⟩:=x1 v e2
          have:=y2 u z e1 (c3.trans z1);omega
      . exact h
    subst nm
    rw [a1] at b1;cases b1
    refine ⟨rfl,?_⟩
    have ok:=T.page n p a1
    have k1:=K n p a1 (by omega)
    have l0:=ok.lowF (by omega) p.ks[0] (List.getElem_mem (by omega))
    have ne:bg n ≠ p.ks[0]?:=fun z=>by
      rw [List.getElem?_eq_getElem (by omega)] at z
      have:=l0 _ z;omega
    match i,j,hi,hj with
    | 0,0,_,_=>rfl
    | 1,1,_,_=>rfl
    | 0,1,_,_=>exact absurd c3.symm ne
    | 1,0,_,_=>exact absurd c3 ne
  let M:=L.flatMap fun n=>[xy S n 0,xy S n 1]
  have ndM:M.Nodup:=by
    show List.Pairwise (· ≠ ·) _
    rw [List.pairwise_flatMap]
    refine ⟨fun n hn=>?_,?_⟩
    . refine List.pairwise_cons.mpr ⟨fun x hx=>?_,List.pairwise_singleton _ _⟩
      rw [List.mem_singleton] at hx
      subst hx
      intro e
      have:=(key n n 0 1 hn hn (by omega) (by omega) e).2
      omega
    . refine List.Pairwise.imp_of_mem (R:=(· ≠ ·)) (fun {a b} ha hb ne x hx y hy e=>?_) nd
      subst e
      simp only [List.mem_cons,List.not_mem_nil,or_false] at hx hy
      rcases hx with rfl | rfl <;> rcases hy with hy | hy
      . exact ne (key a b 0 0 ha hb (by omega) (by omega) hy).1
      . exact ne (key a b 0 1 ha hb (by omega) (by omega) hy).1
      . exact ne (key a b 1 0 ha hb (by omega) (by omega) hy).1
      . exact ne (key a b 1 1 ha hb (by omega) (by omega) hy).1
  have sub:∀ x ∈ M,x ∈ (List.range S.pg.length).filter (lvB S fun y=>decide (y = l)):=fun x hx=>by
    obtain ⟨n,hn,hx⟩:=List.mem_flatMap.mp hx
    obtain ⟨p,a1,a2⟩:=inL n hn
    simp only [List.mem_cons,List.not_mem_nil,or_false] at hx
    rcases hx with rfl | rfl
    . obtain ⟨q,c1,c2,_⟩:=Ka T K a1 (by omega) (show 0 < 2 by omega)
      exact yU c1 (by omega)
    . obtain ⟨q,c1,c2,_⟩:=Ka T K a1 (by omega) (show 1 < 2 by omega)
      exact yU c1 (by omega)
  have len:=YA ndM sub
  have lm:M.length = 2 * L.length:=by
    show (L.flatMap _).length = _
    generalize L = L'
    induction L' with
    | nil=>rfl
    | cons x t ih=>rw [List.flatMap_cons,List.length_append,ih,List.length_cons];simp;omega
  unfold Jl
  show 2 * L.length <= _
  omega
theorem jA (T:Tree S bg) (K:Fk S):S.pg.length <= 2 * Jl S 0:=by
  obtain ⟨r,r1,r2⟩:=T.root
  have a:=jU (S:=S) (L:=r.lv) r2
  have key:∀ k,((List.range S.pg.length).filter (lvB S fun x=>decide (x < k))).length + 2 * Jl S k <= 2 * Jl S 0:=by
    intro k
    induction k with
    | zero=>rw [yB];omega
    | succ k ih =>
      have:=kU T K k
      rw [XY]
      unfold Jl at *
      omega
  have:=key (r.lv + 1)
  omega
end
end TR
namespace TR
section
variable {S S':Sh} {bg:Bg} {w w':Wk} {F:Int -> Option Int} {r:Row} {l h:Int}
end
end TR
namespace TR
def lvA (S:Sh) (n:Nat):Nat:=match S.pg[n]? with
  | some p=>p.lv
  | none=>0
def vis (S:Sh) (w:Wk) (k:Nat):Option Nat:=match w.place with
  | some n=>if lvA S n = k then some n else if lvA S n < k then ZR w.forks k else none
  | none=>none
def ltV (bg:Bg) (v:Option Nat) (m:Nat):Bool:=match v with
  | some v=>ltO (bg v) (bg m)
  | none=>true
def Ct (S:Sh) (bg:Bg) (w:Wk) (m:Nat):Bool:=decide (w.goal <= lvA S m) && ltV bg (vis S w (lvA S m)) m
def phi (S:Sh) (bg:Bg) (w:Wk):Nat:=((List.range S.pg.length).filter (Ct S bg w)).length + (lvA S S.top + 2 - w.goal)
inductive VI (S:Sh) (bg:Bg) (w:Wk) (S':Sh) (w':Wk):Prop
  | side {n s:Nat} {p q:Pg} (hp:w.place = some n ∨ (w.place = none /\ n = S.top)) (hn:S.pg[n]? = some p) (hg:w.goal <= p.lv) (hs:S.pg[s]? = some q) (hl:q.lv = p.lv) (hb:ltO (bg n) (bg s) = true) (e1:S'.pg = S.pg) (e2:S'.top = S.top) (e3:w'.goal = w.goal) (e4:w'.forks = w.forks) (e5:w'.place = some s) (e6:w'.ended = false):VI S bg w S' w'
  | down {n c:Nat} {p q:Pg} (hp:w.place = some n ∨ (w.place = none /\ n = S.top)) (hn:S.pg[n]? = some p) (hl:q.lv + 1 = p.lv) (hg:w.goal <= q.lv) (hc:S.pg[c]? = some q) (e1:S'.pg = S.pg) (e2:S'.top = S.top) (e3:w'.goal = w.goal) (e4:w'.forks = qQ w.forks p.lv n) (e5:w'.place = some c) (e6:w'.ended = false):VI S bg w S' w'
  | part {n:Nat} {p q:Pg} (hp:w.place = some n ∨ (w.place = none /\ n = S.top)) (hn:S.pg[n]? = some p) (hg:w.goal = p.lv) (el:S'.pg.length = S.pg.length + 1) (eq:S'.pg[S.pg.length]? = some q) (hq:q.lv = w.goal) (e2:S'.top = S.top) (e3:w'.goal = w.goal + 1) (e4:w'.forks = w.forks) (e5:w'.place = ZR w.forks (w.goal + 1)) (e6:w'.ended = false):VI S bg w S' w'
  | over (e6:w'.ended = true) (el:S'.pg.length = S.pg.length) (e2:S'.top = S.top):VI S bg w S' w'
  | raised {p q:Pg} (e6:w'.ended = true) (hr:S.pg[S.top]? = some p) (el:S'.pg.length = S.pg.length + 1) (e2:S'.top = S.pg.length) (eq:S'.pg[S.pg.length]? = some q) (hq:q.lv = p.lv + 1):VI S bg w S' w'
section
variable {S S':Sh} {bg bg':Bg} {n:Nat} {p q P:Pg} {w w' v:Wk} {r:Row}
theorem ZT (h:S.pg[n]? = some p):lvA S n = p.lv:=by unfold lvA;rw [h]
theorem xN (W0:w.ended = false) (hpl:w.place = some n ∨ (w.place = none /\ n = S.top)) (hn:S.pg[n]? = some p) (hl:P.lv = p.lv) (hg:w.goal = p.lv) {w0:Wk} (g0:w0.goal = w.goal) (f0:w0.forks = w.forks) (d0:w0.ended = w.ended):VI S bg w (Qr { S with rd:=S.rd + 1 } w0 n P).2.1 (Qr { S with rd:=S.rd + 1 } w0 n P).2.2:=by
  have ln:=Qw hn
  unfold Qr
  by_cases hr:P.ks.length <= S.room
  . rw [if_pos (show P.ks.length <= ({ S with rd:=S.rd + 1 }:Sh).room from hr)]
    exact .over rfl (by simp) rfl
  . rw [if_neg (show ¬ P.ks.length <= ({ S with rd:=S.rd + 1 }:Sh).room from hr)]
    refine .part (q:=QA P) hpl hn hg (by simp) ?_ (by show P.lv = _;omega) rfl (by show P.lv + 1 = _;omega) f0 ?_ (by show w0.ended = false;rw [d0,W0])
    . show ((S.pg ++ [QA P]).set n (QK P S.pg.length))[S.pg.length]? = _
      rw [List.getElem?_set_ne (by omega)];simp
    . show ZR w0.forks (P.lv + 1) = _
      rw [f0,hl,hg]
theorem Uw (T:Tree S bg) (W:WOk S bg w) (hw:w.ended = false) (hs:Z7 S w = some (r,S',w')):VI S bg w S' w':=by
  obtain ⟨n,hn0,hpl⟩:∃ n,w.place.getD S.top = n /\ (w.place = some n ∨ (w.place = none /\ n = S.top)):=by
    cases e:w.place with
    | none=>exact ⟨S.top,rfl,.inr ⟨rfl,rfl⟩⟩
    | some m=>exact ⟨m,rfl,.inl rfl⟩
  obtain ⟨p,hn⟩:∃ p,S.pg[n]? = some p:=by
    rcases hpl with hp | ⟨_,rfl⟩
    . obtain ⟨p,a,_⟩:=W.at_ n hp;exact ⟨p,a⟩
    . obtain ⟨p,a,_⟩:=T.root;exact ⟨p,a⟩
  have ln:=Qw hn
  unfold Z7 at hs
  rw [if_neg (by rw [hw];simp),hn0] at hs
  simp only [hn] at hs
  by_cases hr:w.place = none /\ p.lv < w.goal
  . rw [if_pos hr] at hs
    obtain ⟨k,q,a1,a2,a3,a4⟩:=W.tell (by omega)
    simp only [a1] at hs
    cases hs
    have htop:n = S.top:=by
      rcases hpl with hp | ⟨_,e⟩
      . rw [hr.1] at hp;cases hp
      . exact e
    subst htop
    exact .raised (q:=⟨p.lv + 1,[w.aim],[(S.top:Int),(k:Int)],none,none⟩) rfl hn (by simp) rfl (by simp) rfl
  . rw [if_neg hr] at hs
    have hg:w.goal <= p.lv:=by
      rcases hpl with hp | ⟨hp,_⟩
      . obtain ⟨p',b1,b2,_⟩:=W.at_ n hp
        rw [hn] at b1;cases b1;exact b2
      . exact Nat.le_of_not_lt fun h=>hr ⟨hp,h⟩
    cases hb:Za p w.aim with
    | true =>
      rw [hb,if_pos rfl] at hs
      cases hsd:p.sd with
      | none=>rw [hsd] at hs;cases hs
      | some s =>
        rw [hsd] at hs;cases hs
        obtain ⟨x,q,a1,a2,a3,a4,a5⟩:=KC T hn hsd
        exact .side hpl hn hg a2 a3 a5 rfl rfl rfl rfl rfl hw
    | false =>
      rw [hb,if_neg (by simp)] at hs
      by_cases hd:w.goal < p.lv
      . rw [if_pos hd] at hs
        cases hq:p.ps[cLe p.ks w.aim]? with
        | none=>rw [hq] at hs;cases hs
        | some c =>
          rw [hq] at hs;cases hs
          obtain ⟨c',z,b1,b2,b3,_⟩:=T.kid _ p hn (by omega) _ _ hq
          subst b1
          exact .down hpl hn b3 (by omega) b2 rfl rfl rfl rfl (by simp [Int.toNat_natCast]) hw
      . rw [if_neg hd] at hs
        have hgl:w.goal = p.lv:=by omega
        by_cases h0:0 < w.goal
        . rw [if_pos h0] at hs
          obtain ⟨k,q,a1,a2,a3,a4⟩:=W.tell h0
          simp only [a1] at hs
          simp only [Option.some.injEq,Prod.mk.injEq] at hs
          obtain ⟨rfl,rfl,rfl⟩:=hs
          exact xN (P:=QT p w.aim k) hw hpl hn rfl hgl rfl rfl rfl
        . rw [if_neg h0] at hs
          have hs:=Option.some.inj hs
          unfold ZF at hs
          cases hdd:w.deed with
          | find k=>rw [hdd] at hs;cases hs;exact .over rfl rfl rfl
          | put k x =>
            rw [hdd] at hs
            dsimp only at hs
            simp only [Prod.mk.injEq] at hs
            obtain ⟨rfl,rfl,rfl⟩:=hs
            exact xN (P:=QE p w.aim x) hw hpl hn rfl hgl rfl rfl rfl
          | cut k =>
            rw [hdd] at hs;dsimp only at hs;cases hs
            by_cases hq:(QG p w.aim).isSome = true
            . rw [if_pos hq];exact .over rfl (by simp) rfl
            . rw [if_neg hq];exact .over rfl rfl rfl
          | stretch l h =>
            rw [hdd] at hs;dsimp only at hs
            rcases T.link n p hn with ⟨a,b⟩ | ⟨x,s,q,a,b,c,d,e⟩
            . simp only [a,b] at hs;cases hs;exact .over rfl rfl rfl
            . simp only [a,b] at hs
              by_cases hx:h <= x
              . rw [if_pos hx] at hs;cases hs;exact .over rfl rfl rfl
              . rw [if_neg hx] at hs;cases hs
                obtain ⟨x',q',a1,a2,a3,a4,a5⟩:=KC T hn b
                exact .side hpl hn hg a2 a3 a5 rfl rfl rfl rfl rfl hw
theorem JU (g:Grow S bg S' bg') {n:Nat} (hn:n < S.pg.length):lvA S' n = lvA S n:=by
  obtain ⟨_,p',h1,h2⟩:=g.old n _ (List.getElem?_eq_getElem hn)
  rw [ZT h1,ZT (List.getElem?_eq_getElem hn),h2]
theorem Xl (g:Grow S bg S' bg') {n:Nat} (hn:n < S.pg.length):bg' n = bg n:=(g.old n _ (List.getElem?_eq_getElem hn)).1
theorem xt (T:Tree S bg):S.top < S.pg.length:=by obtain ⟨r,h,_⟩:=T.root;exact Qw h
theorem Kj (T:Tree S bg) {m:Nat} (h:m < S.pg.length):lvA S m <= lvA S S.top:=by
  obtain ⟨r,h1,h2⟩:=T.root
  rw [ZT h1,ZT (List.getElem?_eq_getElem h)];exact h2 m _ (List.getElem?_eq_getElem h)
theorem Qcm (T:Tree S bg) (W:WOk S bg w) (K:VI S bg w S' w') (g:Grow S bg S' bg') (he:w'.ended = false):phi S' bg' w' + 1 <= phi S bg w:=by
  cases K with
  | over e6=>rw [he] at e6;cases e6
  | raised e6=>rw [he] at e6;cases e6
  | @side n s p q hp hn hg hs hl hb e1 e2 e3 e4 e5 e6 =>
    have eL:∀ m,lvA S' m = lvA S m:=fun m=>by unfold lvA;rw [e1]
    have eB:∀ m,m < S.pg.length -> bg' m = bg m:=fun m hm=>Xl g hm
    have ls:=Qw hs
    have key:((List.range S'.pg.length).filter (Ct S' bg' w')).length < ((List.range S.pg.length).filter (Ct S bg w)).length:=by
      rw [e1]
      refine ji _ _ _ (fun m hm h=>?_) ⟨s,List.mem_range.mpr ls,?_,?_⟩
      . have lm:=List.mem_range.mp hm
        unfold Ct at h ⊢
        rw [Bool.and_eq_true] at h ⊢
        rw [eL,e3] at h
        refine ⟨h.1,?_⟩
        have h2:=h.2
        unfold vis at h2 ⊢
        rw [e5] at h2
        simp only [eL,ZT hs,e4] at h2
        rcases hp with hp | ⟨hp,rfl⟩
        . rw [hp]
          simp only [ZT hn]
          rw [hl] at h2
          by_cases c:p.lv = lvA S m
          . rw [if_pos c] at h2 ⊢
            unfold ltV at h2 ⊢
            simp only [eB s ls,eB m lm] at h2
            exact Uf hb h2
          . rw [if_neg c] at h2 ⊢
            by_cases c2:p.lv < lvA S m
            . rw [if_pos c2] at h2 ⊢
              unfold ltV at h2 ⊢
              cases hf:ZR w.forks (lvA S m) with
              | none=>rfl
              | some f =>
                rw [hf] at h2
                obtain ⟨z,z1,_⟩:=W.kept _ f hf
                simp only [eB f (Qw z1),eB m lm] at h2
                exact h2
            . rw [if_neg c2];rfl
        . rw [hp];rfl
      . unfold Ct vis
        rw [ZT hs,hl,decide_eq_true hg]
        rcases hp with hp | ⟨hp,rfl⟩
        . rw [hp];simp only [ZT hn,if_true];exact hb
        . rw [hp];rfl
      . unfold Ct vis
        rw [e5]
        simp [ltV,yk]
    unfold phi
    rw [eL,e2,e3];omega
  | @down n c p q hp hn hl hg hc e1 e2 e3 e4 e5 e6 =>
    have eL:∀ m,lvA S' m = lvA S m:=fun m=>by unfold lvA;rw [e1]
    have eB:∀ m,m < S.pg.length -> bg' m = bg m:=fun m hm=>Xl g hm
    have lc:=Qw hc
    have key:((List.range S'.pg.length).filter (Ct S' bg' w')).length < ((List.range S.pg.length).filter (Ct S bg w)).length:=by
      rw [e1]
      refine ji _ _ _ (fun m hm h=>?_) ⟨c,List.mem_range.mpr lc,?_,?_⟩
      . have lm:=List.mem_range.mp hm
        unfold Ct at h ⊢
        rw [Bool.and_eq_true] at h ⊢
        rw [eL,e3] at h
        refine ⟨h.1,?_⟩
        have h2:=h.2
        unfold vis at h2 ⊢
        rw [e5] at h2
        simp only [eL,ZT hc,e4] at h2
        rcases hp with hp | ⟨hp,rfl⟩
        . rw [hp]
          simp only [ZT hn]
          by_cases c1:p.lv = lvA S m
          . rw [if_pos c1]
            rw [if_neg (by omega),if_pos (by omega),X9,if_pos c1.symm] at h2
            unfold ltV at h2 ⊢
            simp only [eB n (Qw hn),eB m lm] at h2
            exact h2
          . rw [if_neg c1]
            by_cases c2:p.lv < lvA S m
            . rw [if_pos c2]
              rw [if_neg (by omega),if_pos (by omega),X9,if_neg (by omega)] at h2
              unfold ltV at h2 ⊢
              cases hf:ZR w.forks (lvA S m) with
              | none=>rfl
              | some f =>
                rw [hf] at h2
                obtain ⟨z,z1,_⟩:=W.kept _ f hf
                simp only [eB f (Qw z1),eB m lm] at h2
                exact h2
            . rw [if_neg c2];rfl
        . rw [hp];rfl
      . unfold Ct vis
        rw [ZT hc,decide_eq_true hg]
        rcases hp with hp | ⟨hp,rfl⟩
        . rw [hp];simp only [ZT hn];rw [if_neg (by omega),if_neg (by omega)];rfl
        . rw [hp];rfl
      . unfold Ct vis
        rw [e5]
        simp [ltV,yk]
    unfold phi
    rw [eL,e2,e3];omega
  | @part n p q hp hn hg el eq hq e2 e3 e4 e5 e6 =>
    have ln:=Qw hn
    have key:((List.range S'.pg.length).filter (Ct S' bg' w')).length <= ((List.range S.pg.length).filter (Ct S bg w)).length:=by
      rw [el,List.range_succ,List.filter_append,List.length_append]
      have z:Ct S' bg' w' S.pg.length = false:=by
        unfold Ct
        rw [ZT eq,e3,hq,decide_eq_false (by omega)];rfl
      rw [List.filter_cons,z]
      simp only [Bool.false_eq_true,if_false,List.filter_nil,List.length_nil,Nat.add_zero]
      refine UZ _ _ _ fun m hm h=>?_
      have lm:=List.mem_range.mp hm
      unfold Ct at h ⊢
      rw [Bool.and_eq_true] at h ⊢
      rw [JU g lm,e3] at h
      have h1:w.goal + 1 <= lvA S m:=of_decide_eq_true h.1
      refine ⟨decide_eq_true (by omega),?_⟩
      have h2:=h.2
      rcases hp with hp | ⟨hp,rfl⟩
      . unfold vis at h2 ⊢
        rw [hp]
        rw [e5] at h2
        simp only [ZT hn]
        rw [if_neg (by omega),if_pos (by omega)]
        cases hf:ZR w.forks (lvA S m) with
        | none=>rfl
        | some f =>
          obtain ⟨f1,hf1⟩:=W.full n p hp hn _ f hf (w.goal + 1) (by omega) (by omega)
          rw [hf1] at h2
          obtain ⟨z1,y1,y2⟩:=W.kept _ f1 hf1
          obtain ⟨z2,y3,y4⟩:=W.kept _ f hf
          simp only [JU g (Qw y1),ZT y1,y2,e4] at h2
          by_cases c:w.goal + 1 = lvA S m
          . rw [if_pos c] at h2
            rw [<- c,hf1] at hf;cases hf
            unfold ltV at h2 ⊢
            simp only [Xl g (Qw y1),Xl g lm] at h2
            exact h2
          . rw [if_neg c,if_pos (by omega),hf] at h2
            unfold ltV at h2 ⊢
            simp only [Xl g (Qw y3),Xl g lm] at h2
            exact h2
      . have:=Kj T lm
        rw [ZT hn] at this;omega
    have ht:lvA S' S'.top = lvA S S.top:=by rw [e2];exact JU g (xt T)
    have:=Kj T ln
    rw [ZT hn] at this
    unfold phi
    rw [ht,e3];omega
theorem kW (V:WOk S bg v) (g:Grow S bg S' bg') {m:Nat} (lm:m < S.pg.length):Ct S' bg' v m = Ct S bg v m:=by
  unfold Ct
  rw [JU g lm]
  congr 1
  unfold vis
  cases hp:v.place with
  | none=>rfl
  | some n =>
    obtain ⟨p,h1,_⟩:=V.at_ n hp
    simp only [JU g (Qw h1)]
    by_cases c:lvA S n = lvA S m
    . rw [if_pos c];unfold ltV;simp only [Xl g (Qw h1),Xl g lm]
    . rw [if_neg c]
      by_cases c2:lvA S n < lvA S m
      . rw [if_pos c2]
        unfold ltV
        cases hf:ZR v.forks (lvA S m) with
        | none=>rfl
        | some f =>
          obtain ⟨z,z1,_⟩:=V.kept _ f hf
          simp only [Xl g (Qw z1),Xl g lm]
      . rw [if_neg c2];rfl
theorem Va (T:Tree S bg) (V:WOk S bg v) (g:Grow S bg S' bg') (el:S'.pg.length = S.pg.length) (e2:S'.top = S.top):phi S' bg' v = phi S bg v:=by
  unfold phi
  rw [el,e2,JU g (xt T),X8 fun m hm=>kW V g (List.mem_range.mp hm)]
theorem Gy (T:Tree S bg) (V:WOk S bg v) (g:Grow S bg S' bg') (el:S'.pg.length = S.pg.length + 1):phi S' bg' v <= phi S bg v + 1 + (lvA S' S'.top - lvA S S.top):=by
  unfold phi
  rw [el,List.range_succ,List.filter_append,List.length_append,X8 (h:=Ct S bg v) fun m hm=>kW V g (List.mem_range.mp hm)]
  have:(List.filter (Ct S' bg' v) [S.pg.length]).length <= 1:=List.length_filter_le _ _
  omega
theorem yg (f:Wk -> Bool):∀ (ws:List Wk) (i:Nat) (w w':Wk),ws[i]? = some w -> ((ws.set i w').filter f).length + (if f w = true then 1 else 0) = (ws.filter f).length + (if f w' = true then 1 else 0)
  | [],i,w,w',h=>by cases h
  | x :: ws,0,w,w',h=>by
    cases h
    rw [List.set_cons_zero,List.filter_cons,List.filter_cons]
    by_cases a:f x = true <;> by_cases b:f w' = true <;> simp [a,b] <;> omega
  | x :: ws,i + 1,w,w',h=>by
    have:=yg f ws i w w' h
    rw [List.set_cons_succ,List.filter_cons,List.filter_cons]
    by_cases a:f x = true <;> simp [a] <;> omega
def zf (w:Wk):Bool:=decide (w.goal = 0) && !w.ended
def lf (w:Wk):Bool:=!w.ended
def zc (ws:List Wk):Nat:=(ws.filter zf).length
def lc (ws:List Wk):Nat:=(ws.filter lf).length
def Lim (S:Sh) (bg:Bg) (ws:List Wk) (t:Nat -> Nat):Prop:=∀ (i:Nat) (w:Wk),ws[i]? = some w -> w.ended = false -> phi S bg w + 2 * (Jl S 0 + zc ws) + lc ws <= S.pg.length + t i
theorem Qcn (T:Tree S bg) (W:WOk S bg w):1 <= phi S bg w:=by
  unfold phi
  have:w.goal <= lvA S S.top + 1:=by
    rcases Nat.eq_zero_or_pos w.goal with h | h
    . omega
    . obtain ⟨k,q,_,h2,h3,_⟩:=W.tell h
      have:=Kj T (Qw h2)
      rw [ZT h2] at this;omega
  omega
theorem Lim.pos {ws:List Wk} {t:Nat -> Nat} {i:Nat} (L:Lim S bg ws t) (T:Tree S bg) (K:Fk S) (W:WOk S bg w) (hi:ws[i]? = some w) (hw:w.ended = false):1 <= t i:=by
  have h1:=L i w hi hw
  have h2:=jA T K
  have h3:=Qcn T W
  omega
theorem Qem {ws:List Wk} {i:Nat} (T:Tree S bg) (W:WOk S bg w) (hi:ws[i]? = some w) (hw:w.ended = false) (K:VI S bg w S' w') (g:Grow S bg S' bg'):2 * (Jl S' 0 + zc (ws.set i w')) + lc (ws.set i w') + (lvA S' S'.top - lvA S S.top) <= 2 * (Jl S 0 + zc ws) + lc ws /\ lc ws <= lc (ws.set i w') + 1:=by
  have cz:=yg zf ws i w w' hi
  have cl:=yg lf ws i w w' hi
  have lw:lf w = true:=by unfold lf;rw [hw];rfl
  rw [if_pos lw] at cl
  have zw:zf w = decide (w.goal = 0):=by unfold zf;rw [hw];simp
  refine ⟨?_,by unfold lc;omega⟩
  unfold zc lc
  cases K with
  | side hp hn hg hs hl hb e1 e2 e3 e4 e5 e6 =>
    have z:zf w' = zf w:=by unfold zf;rw [e3,e6,hw]
    have l:lf w' = true:=by unfold lf;rw [e6];rfl
    rw [z] at cz;rw [if_pos l] at cl
    rw [qX g (by rw [e1]),e2,JU g (xt T)];omega
  | down hp hn hl hg hc e1 e2 e3 e4 e5 e6 =>
    have z:zf w' = zf w:=by unfold zf;rw [e3,e6,hw]
    have l:lf w' = true:=by unfold lf;rw [e6];rfl
    rw [z] at cz;rw [if_pos l] at cl
    rw [qX g (by rw [e1]),e2,JU g (xt T)];omega
  | part hp hn hg el eq hq e2 e3 e4 e5 e6 =>
    have z:zf w' = false:=by unfold zf;rw [e3];simp
    have l:lf w' = true:=by unfold lf;rw [e6];rfl
    rw [z,zw] at cz;rw [if_pos l] at cl
    rw [jT g el eq,e2,JU g (xt T),hq]
    by_cases c:w.goal = 0
    . rw [if_pos c];simp [c] at cz;omega
    . rw [if_neg c];simp [c] at cz;omega
  | over e6 el e2 =>
    have z:zf w' = false:=by unfold zf;rw [e6];simp
    have l:lf w' = false:=by unfold lf;rw [e6];rfl
    rw [z] at cz;rw [l] at cl
    simp only [Bool.false_eq_true,if_false] at cz cl
    rw [qX g el,e2,JU g (xt T)];omega
  | raised e6 hr el e2 eq hq =>
    have z:zf w' = false:=by unfold zf;rw [e6];simp
    have l:lf w' = false:=by unfold lf;rw [e6];rfl
    rw [z] at cz;rw [l] at cl
    simp only [Bool.false_eq_true,if_false] at cz cl
    rw [jT g el eq,if_neg (by omega),e2,ZT eq,ZT hr];omega
theorem Qf0 {ws:List Wk} {i:Nat} (T:Tree S bg) (W:WOk S bg w) (hi:ws[i]? = some w) (hw:w.ended = false) (K:VI S bg w S' w') (g:Grow S bg S' bg'):Jl S' 0 + zc (ws.set i w') <= Jl S 0 + zc ws:=by
  have:=Qem T W hi hw K g
  omega
theorem Lim.step {ws:List Wk} {t:Nat -> Nat} {i:Nat} (L:Lim S bg ws t) (A:All S bg ws) (T:Tree S bg) (hi:ws[i]? = some w) (hw:w.ended = false) (hs:Z7 S w = some (r,S',w')) (g:Grow S bg S' bg'):Lim S' bg' (ws.set i w') (fun j=>if j = i then t i - 1 else t j):=by
  have W:=A.ok i w hi hw
  have K:=Uw T W hw hs
  have Qem:=(Qem T W hi hw K g).1
  have grows:S.pg.length <= S'.pg.length:=by
    cases K with
    | side hp hn hg hs hl hb e1=>rw [e1];exact Nat.le_refl _
    | down hp hn hl hg hc e1=>rw [e1];exact Nat.le_refl _
    | part hp hn hg el=>omega
    | over e6 el=>omega
    | raised e6 hr el=>omega
  have oth:∀ v,WOk S bg v -> phi S' bg' v + S.pg.length <= phi S bg v + S'.pg.length + (lvA S' S'.top - lvA S S.top):=fun v V=>by
    cases K with
    | side hp hn hg hs hl hb e1 e2=>rw [Va T V g (by rw [e1]) e2,e1];omega
    | down hp hn hl hg hc e1 e2=>rw [Va T V g (by rw [e1]) e2,e1];omega
    | part hp hn hg el=>have:=Gy T V g el;omega
    | over e6 el e2=>rw [Va T V g el e2,el];omega
    | raised e6 hr el=>have:=Gy T V g el;omega
  intro j u hj hu
  rcases Q2 hj with ⟨rfl,rfl,_⟩ | ⟨e,h⟩
  . have h1:=L j w hi hw
    have h2:=Qcm T W K g hu
    show _ <= _ + (if j = j then t j - 1 else t j)
    rw [if_pos rfl];omega
  . have h1:=L j u h hu
    have h2:=oth u (A.ok j u h hu)
    show _ <= _ + (if j = i then t i - 1 else t j)
    rw [if_neg e];omega
theorem QeU (ws:List Wk):lc ws <= ws.length:=List.length_filter_le _ _
theorem Qfr (ws:List Wk):zc ws <= ws.length:=List.length_filter_le _ _
theorem Lim.first (T:Tree S bg) (K:Fk S) (hK:∀ j,0 < j -> j <= lvA S S.top -> ∃ (f:Nat) (q:Pg),S.pg[f]? = some q /\ q.lv = j) (ws:List Wk):Lim S bg ws (fun _=>2 * S.pg.length + 3 * ws.length + 2):=fun i w hi hw=>by
  have h1:phi S bg w <= S.pg.length + (lvA S S.top + 2):=by
    unfold phi
    have:=List.length_filter_le (Ct S bg w) (List.range S.pg.length)
    rw [List.length_range] at this;omega
  obtain ⟨r,r1,r2⟩:=T.root
  rw [ZT r1] at h1 hK
  have h2:=T.pages_row r1 hK
  have h3:=QeU ws
  have h4:=Qfr ws
  show _ <= _ + (2 * S.pg.length + 3 * ws.length + 2)
  omega
end
end TR
namespace TR
section
variable {S S':Sh} {bg bg':Bg} {n m:Nat} {p q P:Pg} {w w' v:Wk} {r:Row} {k:Int}
theorem Tree.levels (T:Tree S bg):∀ j,0 < j -> j <= lvA S S.top -> ∃ (f:Nat) (q:Pg),S.pg[f]? = some q /\ q.lv = j:=fun j _ hj=>by
  obtain ⟨r,r1,r2⟩:=T.root
  rw [ZT r1] at hj
  obtain ⟨L,h1,h2⟩:=Gm T r.lv S.top r rfl r1 T.rbg
  obtain ⟨h3,h4⟩:=h1.get T r r1
  have hl:r.lv - j < L.length:=by omega
  obtain ⟨q,a,b,_⟩:=h4 (r.lv - j) L[r.lv - j] (List.getElem?_eq_getElem hl)
  exact ⟨_,q,a,by omega⟩
theorem GL (T:Tree S bg) (hn:S.pg[n]? = some p) {j:Nat} (hj:j <= p.ks.length):leBB (bg n) (Zs (bg n) p.ks j) /\ ∀ h v,p.hi = some h -> Zs (bg n) p.ks j = some v -> v < h:=by
  have ok:=T.page n p hn
  cases j with
  | zero=>exact ⟨leBB.refl _,fun h v h1 h2=>ok.wide h h1 v h2⟩
  | succ i =>
    have hi:i < p.ks.length:=by omega
    have g:Zs (bg n) p.ks (i + 1) = some p.ks[i]:=List.getElem?_eq_getElem hi
    have m:p.ks[i] ∈ p.ks:=List.getElem_mem _
    rw [g]
    exact ⟨fun v hv=>⟨_,rfl,ok.low _ m v hv⟩,fun h v h1 h2=>by cases h2;exact ok.high _ m h h1⟩
theorem Uv (T:Tree S bg) (hn:S.pg[n]? = some p) (hl:0 < p.lv) {i j:Nat} (hj:j <= p.ks.length) (hij:i < j):Zs (bg n) p.ks i ≠ Zs (bg n) p.ks j:=fun e=>by
  have ok:=T.page n p hn
  cases j with
  | zero=>omega
  | succ j =>
    have hj':j < p.ks.length:=by omega
    have g:Zs (bg n) p.ks (j + 1) = some p.ks[j]:=List.getElem?_eq_getElem hj'
    rw [g] at e
    cases i with
    | zero =>
      have:=ok.lowF hl p.ks[j] (List.getElem_mem _) _ e
      omega
    | succ i =>
      have:=Xi ok.sorted (show p.ks[i]? = some p.ks[j] from e) (List.getElem?_eq_getElem hj') (by omega)
      omega
theorem uH (T:Tree S bg) (hn:S.pg[n]? = some p) (hm:S.pg[m]? = some q) (hl:0 < p.lv) (hl':0 < q.lv) {i j:Nat} {c:Int} (hi:p.ps[i]? = some c) (hj:q.ps[j]? = some c):n = m /\ i = j:=by
  obtain ⟨c1,z1,a1,a2,a3,a4⟩:=T.kid n p hn hl i c hi
  obtain ⟨c2,z2,b1,b2,b3,b4⟩:=T.kid m q hm hl' j c hj
  have ec:c1 = c2:=by omega
  subst ec
  rw [a2] at b2;cases b2
  rw [a4] at b4
  have pi:i <= p.ks.length:=by
    have:=(T.page n p hn).parts;rw [if_neg (by omega)] at this
    have:=Qw hi;omega
  have pj:j <= q.ks.length:=by
    have:=(T.page m q hm).parts;rw [if_neg (by omega)] at this
    have:=Qw hj;omega
  obtain ⟨x1,x2⟩:=GL T hn pi
  obtain ⟨y1,y2⟩:=GL T hm pj
  have nm:n = m:=by
    rcases Nat.decEq n m with h | h
    . exfalso
      rcases T.dis n m p q hn hm (by omega) h with ⟨u,v,e1,e2,e3⟩ | ⟨u,v,e1,e2,e3⟩
      . obtain ⟨z,z1,z2⟩:=y1 v e2
        have:=x2 u z e1 (b4.trans z1);omega
      . obtain ⟨z,z1,z2⟩:=x1 v e2
        have:=y2 u z e1 (b4.symm.trans z1);omega
    . exact h
  subst nm
  rw [hn] at hm;cases hm
  refine ⟨rfl,?_⟩
  rcases Nat.lt_trichotomy i j with h | h | h
  . exact absurd b4 (Uv T hn hl pj h)
  . exact h
  . exact absurd b4.symm (Uv T hn hl pi h)
def Yz (S:Sh) (n:Nat):List Int:=match S.pg[n]? with
  | some p=>if 0 < p.lv then p.ps else []
  | none=>[]
def J3 (S:Sh) (k:Nat):List Int:=(List.range k).flatMap (Yz S)
theorem yP (S:Sh) (k:Nat):J3 S (k + 1) = J3 S k ++ Yz S k:=by
  unfold J3;rw [List.range_succ,List.flatMap_append];simp
theorem zS {c:Int} (h:c ∈ Yz S n):∃ (p:Pg) (i:Nat),S.pg[n]? = some p /\ 0 < p.lv /\ p.ps[i]? = some c:=by
  unfold Yz at h
  cases e:S.pg[n]? with
  | none=>rw [e] at h;cases h
  | some p =>
    rw [e] at h
    dsimp only at h
    by_cases z:0 < p.lv
    . rw [if_pos z] at h
      obtain ⟨i,hi⟩:=List.mem_iff_getElem?.mp h
      exact ⟨p,i,rfl,z,hi⟩
    . rw [if_neg z] at h;cases h
theorem Kl {xs:List Int} (h:∀ (i j:Nat) (c:Int),xs[i]? = some c -> xs[j]? = some c -> i = j):xs.Nodup:=by
  show List.Pairwise (· ≠ ·) xs
  rw [List.pairwise_iff_getElem]
  intro i j hi hj hij e
  have:=h i j xs[i] (List.getElem?_eq_getElem hi) (by rw [List.getElem?_eq_getElem hj,e])
  omega
theorem vw (T:Tree S bg) (k:Nat):(J3 S k).Nodup:=by
  show List.Pairwise (· ≠ ·) _
  unfold J3
  rw [List.pairwise_flatMap]
  refine ⟨fun n hn=>?_,?_⟩
  . unfold Yz
    cases e:S.pg[n]? with
    | none=>exact List.Pairwise.nil
    | some p =>
      dsimp only
      by_cases z:0 < p.lv
      . rw [if_pos z];exact Kl fun i j c hi hj=>(uH T e e z z hi hj).2
      . rw [if_neg z];exact List.Pairwise.nil
  . refine List.Pairwise.imp_of_mem (R:=(· ≠ ·)) (fun {a b} ha hb ne x hx y hy e=>?_) List.nodup_range
    subst e
    obtain ⟨p,i,h1,h2,h3⟩:=zS hx
    obtain ⟨q,j,g1,g2,g3⟩:=zS hy
    exact ne (uH T h1 g1 h2 g2 h3 g3).1
theorem Gk (T:Tree S bg) (D:∀ s,s < S.pg.length -> s ≠ S.top -> Kd S s) {c:Nat} (hc:c < S.pg.length):(c:Int) ∈ J3 S S.pg.length ↔ c ≠ S.top:=by
  constructor
  . intro h e
    obtain ⟨n,_,hx⟩:=List.mem_flatMap.mp h
    obtain ⟨p,i,h1,h2,h3⟩:=zS hx
    obtain ⟨c1,z1,a1,a2,a3,a4⟩:=T.kid n p h1 h2 i _ h3
    have:c1 = c:=by omega
    subst this
    obtain ⟨r,r1,r2⟩:=T.root
    rw [<- e,a2] at r1;cases r1
    have:=r2 n p h1;omega
  . intro h
    obtain ⟨m,q,h1,h2,h3⟩:=D c hc h
    refine List.mem_flatMap.mpr ⟨m,List.mem_range.mpr (Qw h1),?_⟩
    unfold Yz;rw [h1];dsimp only;rw [if_pos h2];exact h3
theorem vv (T:Tree S bg) (D:∀ s,s < S.pg.length -> s ≠ S.top -> Kd S s) {c:Nat} (hc:c < S.pg.length):(J3 S S.pg.length).count (c:Int) = if c = S.top then 0 else 1:=by
  by_cases e:c = S.top
  . rw [if_pos e];exact List.count_eq_zero.mpr fun h=>(Gk T D hc).mp h e
  . rw [if_neg e,(vw T _).count,if_pos ((Gk T D hc).mpr e)]
theorem QaC (T:Tree S bg) (hn:S.pg[n]? = some p) (hz:p.lv = 0) (hk:k ∈ p.ks) (hm:S.pg[m]? = some q) (hq:q.lv = 0) (hin:In S bg m k):m = n:=by
  obtain ⟨_,e1,b1,b2⟩:=hin;rw [hm] at e1;cases e1
  have ok:=T.page n p hn
  rcases Nat.decEq m n with h | h
  . exfalso
    rcases T.dis m n q p hm hn (by omega) h with ⟨u,v,e1,e2,e3⟩ | ⟨u,v,e1,e2,e3⟩
    . have:=b2 u e1;have:=ok.low k hk v e2;omega
    . have:=ok.high k hk u e1;have:=b1 v e2;omega
  . exact h
theorem vk (hw:w.ended = false) (h0:w.place.getD S.top = n) (hn:S.pg[n]? = some p) (hg:w.goal = 0) (hz:p.lv = 0) (hd:w.deed = .find k) (hh:ltH w.aim p.hi):Z7 S w = some (.found n (QG p w.aim),{ S with rd:=S.rd + 1 },{ w with worth:=QG p w.aim,ended:=true }):=by
  rw [zd hw h0 hn hg hz hh];unfold ZF;rw [hd]
theorem QcG (T:Tree S bg) (D:∀ s,s < S.pg.length -> s ≠ S.top -> Kd S s) (k:Int):In S bg S.top k:=by
  obtain ⟨r,r1,r2⟩:=T.root
  refine ⟨r,r1,?_,?_⟩
  . intro v hv;rw [T.rbg] at hv;cases hv
  . intro v hv;rw [T.root_hi D r1] at hv;cases hv
end
end TR
namespace D
open PySem PySem.Spec PyProof.Rows L2
section
variable {prog:Program} {w:World} {A:Around} {E:Value -> Shared -> Prop} {s:Shared}
end
section
variable {prog:Program} {w:World} {K:Type} [DecidableEq K] {knd:KeyKind prog w K} {A:Around} {R:Result -> Shared -> Prop}
end
section
variable {prog:Program} {w:World} {K:Type} [DecidableEq K] {knd:KeyKind prog w K} {A:Around} {E:Value -> Shared -> Prop} {s:Shared}
end
section
variable {X:Cx}
def lsG:DV -> M (List DV)
  | .lst ds=>pure ds
  | .ref n=>do
    match <- Jz n with
    | .lst ds=>pure ds
    | _=>failure
  | _=>failure
theorem Qb6 {d:DV} {ds:List DV} {hp hp':Hs} {K:PySem.W.Frag} {ρ:List Addr} {B:Addr -> Prop} {H:Hp} {v:V} (W:WOk K ρ B hp H) (r:RepV K ρ B H d v) (h:lsG d hp = some (ds,hp')):hp = hp' /\ ∃ p xs,v = .ref p /\ SqL K H p xs /\ RepL K ρ B H ds xs:=by
  cases d with
  | lst xs =>
    obtain ⟨rfl,rfl⟩:=Qi h
    obtain ⟨a,ys,rfl,_,sq,l⟩:=r.lstI
    exact ⟨rfl,a,ys,rfl,sq,l⟩
  | ref n =>
    obtain ⟨o,hp1,e1,e2⟩:=Qf (show (Jz n >>= fun o=>(match o with | .lst ds=>pure ds | _=>failure:M (List DV))) hp = some (ds,hp') from h)
    obtain ⟨e3,rfl⟩:=Jh e1
    cases o with
    | lst zs =>
      obtain ⟨rfl,rfl⟩:=Qi e2
      obtain ⟨a,rfl,_,ys,h1,l1⟩:=RepV.refW W r e3
      exact ⟨rfl,a,ys,rfl,SqL.of h1,l1⟩
    | dic _=>cases e2
    | ins _ _=>cases e2
  | non=>cases h
  | bl _=>cases h
  | int _=>cases h
  | str _=>cases h
  | tup _=>cases h
end
end D
namespace L2
open PySem PySem.Spec PyProof.Rows
section
variable {X:Cx} {pins:List (Addr × Obj)} {σ:L2.St}
end
section
variable {X:Cx}
end
end L2
namespace D
open PySem PySem.Spec PyProof.Rows L2
section
variable {X:Cx} {f g:DEx}
end
end D
namespace D
open PySem PySem.Spec PyProof.Rows L2
section
variable {X:Cx} {e:Expr} {f:DEx} {pos:Pos}
end
end D
namespace D
open PySem PySem.Spec PyProof.Rows L2
structure UF (K:PySem.W.Frag) (mg:Str -> Option Value) (x:Str) (st:Stmt):Prop where
  ex:∃ g fd,Fun K x x st g fd /\ mg x = some (.ref g)
structure UC (K:PySem.W.Frag) (c:Str):Prop where
  ex:∀ C,ClsN K c C -> Cls K C
structure UM (K:PySem.W.Frag) (c m q:Str) (st:Stmt):Prop where
  ex:∃ C g fd,Fun K m q st g fd /\ ClsN K c C /\ Cls K C /\ G0 K C m g
structure UI (K:PySem.W.Frag) (mg:Str -> Option Value) (c q:Str) (st:Stmt):Prop where
  ex:∃ C g fd,Fun K "__init__" q st g fd /\ ClsN K c C /\ mg c = some (.ref C) /\ Mk K C g
structure UG (mg:Str -> Option Value) (x:Str) (i:Int):Prop where
  ex:∃ t,mg x = some (.int i t)
structure UT (K:PySem.W.Frag) (mg:Str -> Option Value) (x:Str) (d:DV):Prop where
  ex:∃ a,mg x = some (.ref a) /\ KRep K d (.ref a)
section
variable {K:PySem.W.Frag} {h:Heap} {mg:Str -> Option Value} {f C:Addr} {x c m q:Str} {st:Stmt} {oc:Value} {od an:Option Addr} {osl:Array (Option Value)} {kV doc pm cdv ct:Value} {i:Int} {t:Tok} {d:DV} {a:Addr}
theorem uf (X:K.In h) (G:h.Ns mainGlobals mg) (n:PySem.W.nsIn K mainGlobals x = some (some (.ref f))) (l:K.lookup f = some ⟨oc,od,.func (PySem.W.fnOf x x (JJ st) (ZD st) (Qp st) .none kV doc pm an cdv ct),osl⟩) (e:PySem.W.codeIn K cdv x = true) (k:PySem.W.keepIn K (.ref f) = true):UF K mg x st:=⟨_,_,U1 l e k,PySem.W.mg_of X G n⟩
theorem uc (X:K.In h) (n:PySem.W.nsIn K mainGlobals c = some (some (.ref C))) (p:PySem.W.plainGet K C Str.empty = true) (e:PySem.W.hasDictIn K C = true) (o:PySem.W.plainOver K C = true) (s:PySem.W.findIn K (.ref C) "__setattr__" = some (some (.builtin "object.__setattr__"))):UC K c:=⟨fun C' n'=>by cases ClsN.uniq (show ClsN K c C from n) n';exact ⟨p,e,o,s⟩⟩
theorem um (X:K.In h) (u:UC K c) (n:PySem.W.nsIn K mainGlobals c = some (some (.ref C))) (a:PySem.W.findIn K (.ref C) m = some (some (.ref f))) (b:PySem.W.isFn K (.ref f) = true) (l:K.lookup f = some ⟨oc,od,.func (PySem.W.fnOf m q (JJ st) (ZD st) (Qp st) .none kV doc pm an cdv ct),osl⟩) (e:PySem.W.codeIn K cdv q = true) (k:PySem.W.keepIn K (.ref f) = true):UM K c m q st:=⟨_,_,_,U1 l e k,n,u.ex _ n,a,b,k⟩
theorem ui (X:K.In h) (G:h.Ns mainGlobals mg) (n:PySem.W.nsIn K mainGlobals c = some (some (.ref C))) (a:PySem.W.findIn K (.ref C) "__init__" = some (some (.ref f))) (b:PySem.W.isFn K (.ref f) = true) (l:K.lookup f = some ⟨oc,od,.func (PySem.W.fnOf "__init__" q (JJ st) (ZD st) (Qp st) .none kV doc pm an cdv ct),osl⟩) (e:PySem.W.codeIn K cdv q = true) (k:PySem.W.keepIn K (.ref f) = true) (v:PySem.W.makesIn K C = true) (z:PySem.W.keepIn K (.ref C) = true):UI K mg c q st:=⟨_,_,_,U1 l e k,n,PySem.W.mg_of X G n,v,a,b,z⟩
theorem uk (X:K.In h) (u:UC K c) (n:PySem.W.nsIn K mainGlobals c = some (some (.ref C))) (a:PySem.W.findIn K (.ref C) x = some none):Y3 K c x:=⟨C,n,u.ex _ n,a⟩
theorem ug (X:K.In h) (G:h.Ns mainGlobals mg) (n:PySem.W.nsIn K mainGlobals x = some (some (.int i t))):UG mg x i:=⟨_,PySem.W.mg_of X G n⟩
theorem ut (X:K.In h) (G:h.Ns mainGlobals mg) (n:PySem.W.nsIn K mainGlobals x = some (some (.ref a))) (r:KRep K d (.ref a)):UT K mg x d:=⟨_,PySem.W.mg_of X G n,r⟩
theorem Zb {N ps:List Str} {s:Scope} (h:(s.kind == .function && !s.isCoroutine && !s.isGenerator && decide N.Nodup && decide (N.take ps.length = ps) && ps.all (fun x=>decide (s.names.lookup x = some .local) || decide (s.names.lookup x = some .cell)) && s.names.all fun y=>decide (y.2 ≠ .free)) = true):Qv N ps s:=by
  simp only [Bool.and_eq_true,Bool.not_eq_true',decide_eq_true_eq,List.all_eq_true,Bool.or_eq_true] at h
  obtain ⟨⟨⟨⟨⟨⟨a,b⟩,c⟩,d⟩,e⟩,f⟩,g⟩:=h
  refine ⟨?_,b,c,d,e,f,fun y hy=>by have:=g y hy;simpa using this⟩
  revert a;cases s.kind <;> first | (intro _;rfl) | (intro z;exact absurd z (by decide))
end
section
variable {P:Program} {w:World} {K:PySem.W.Frag} {mg:Str -> Option Value} {base:Heap} {x c m q:Str} {st:Stmt} {N ps:List Str} {k:Nat} {body:DSx}
def Bn (ps:List Str) (x q:Str) (st:Stmt):Prop:=∀ (kV doc pm:Value) (an:Option Addr) (cdv ct:Value) (us:List Value),us.length = ps.length -> bindArgs (PySem.W.fnOf x q (JJ st) (ZD st) (Qp st) .none kV doc pm an cdv ct) ⟨us,[]⟩ = pure (ps.zip us)
def Bd (P:Program) (w:World) (K:PySem.W.Frag) (mg:Str -> Option Value) (base:Heap) (N:List Str) (k:Nat) (q:Str) (st:Stmt) (body:DSx):Prop:=∀ (g:Addr) (cdv:Value) (A:Around) (outer:List Env) (s:Shared) (H:Hp) (E:XK),Room k (A.deeper (envOfC q (Qp st) s.heap.objs.size g cdv)) -> DSs (xW CX0 P w K mg base N q (Qp st) g cdv A outer s H E).nox (ZD st) body
theorem hf (u:UF K mg x st) (Sc:Qv N ps (Qp st)) (h:Bd P w K mg base N k x st body) (hb:Bn ps x x st:=by intro _ _ _ _ _ _ us hl;rcases us with _ | ⟨_,_ | ⟨_,_ | ⟨_,_ | ⟨_,_ | ⟨_,_ | ⟨_,_⟩⟩⟩⟩⟩⟩ <;> first | rfl | cases hl):Has P w K mg base x (k + 1) ps.length (Q7 N.length body):=let ⟨_,_,F,hm⟩:=u.ex;Qdv F Sc hm hb (h _)
theorem hM (u:UM K c m q st) (Sc:Qv N ps (Qp st)) (h:Bd P w K mg base N k q st body) (hb:Bn ps m q st:=by intro _ _ _ _ _ _ us hl;rcases us with _ | ⟨_,_ | ⟨_,_ | ⟨_,_ | ⟨_,_ | ⟨_,_ | ⟨_,_⟩⟩⟩⟩⟩⟩ <;> first | rfl | cases hl):X5 P w K mg base c m (k + 1) ps.length (Q7 N.length body):=let ⟨_,_,_,F,nc,cl,me⟩:=u.ex;QaI nc cl me F Sc hb (h _)
theorem hI (u:UI K mg c q st) (Sc:Qv N ps (Qp st)) (h:Bd P w K mg base N k q st body) (hb:Bn ps "__init__" q st:=by intro _ _ _ _ _ _ us hl;rcases us with _ | ⟨_,_ | ⟨_,_ | ⟨_,_ | ⟨_,_ | ⟨_,_ | ⟨_,_⟩⟩⟩⟩⟩⟩ <;> first | rfl | cases hl):kF P w K mg base c (k + 1) ps.length (Q7 N.length body):=let ⟨_,_,_,F,nc,hm,me⟩:=u.ex;Qar nc hm me F Sc hb (h _)
end
end D
namespace L2
open PySem PySem.Spec PyProof.Rows
section
variable {X:Cx} {elts:List Expr} {kt:Nat} {p2:Pos}
end
end L2
namespace D
open PySem PySem.Spec PyProof.Rows L2
section
variable {X:Cx} {elts:List Expr} {kt:Nat} {p2:Pos} {f g:DEx}
end
section
variable {X:Cx} {e:Expr} {f:DEx} {pos:Pos}
end
end D
namespace D
open PySem PySem.Spec PyProof.Rows L2
section
variable {X:Cx}
def eqN:DV -> DV -> M DV:=fun x y=>match y with
  | .lst []=>do
    let ds <- lsG x
    pure (.bl ds.isEmpty)
  | _=>failure
theorem Qaj {x y d:DV} {hp hp':Hs} (h:eqN x y hp = some (d,hp')):∃ ds,y = .lst [] /\ lsG x hp = some (ds,hp') /\ d = .bl ds.isEmpty:=by
  unfold eqN at h
  split at h
  . obtain ⟨ds,hp1,e1,e2⟩:=Qf h
    obtain ⟨rfl,rfl⟩:=Qi e2
    exact ⟨ds,rfl,e1,rfl⟩
  . cases h
theorem Qe2 (hu:X.A.units + 64 < cLine):P2 X (compareOp .Eq) eqN:=by
  intro pins s σ H x y v u Q I rx ry h
  obtain ⟨ρ,B,hp,dx,dy,d,hp',W,r1,r2,e,k⟩:=h
  obtain ⟨ds,rfl,e1,rfl⟩:=Qaj e
  obtain ⟨rfl,p,xs,rfl,sq,rl⟩:=Qb6 W r1 e1
  obtain ⟨b,ys,rfl,_,sq2,rl2⟩:=r2.lstI
  unfold RepL at rl2
  subst rl2
  cases rx
  cases ry
  obtain ⟨its,q1,pl,z1⟩:=I.list sq
  obtain ⟨jts,q2,pm,z2⟩:=I.list sq2
  cases q2
  have ll:=rl.length
  have l2:=q1.length
  have u0:X.A.units < cLine:=by omega
  cases hd:ds with
  | nil =>
    subst hd
    have e0:its = []:=List.eq_nil_of_length_eq_zero (by simp at ll;omega)
    subst e0
    have R:=SeqAt.RcAt.lists (e:=fun _=>true) pl.isList pm.isList rfl u0 (fun j h1=>by simp at h1)
    exact R X.prog X.w _ _ ⟨.bl _,H,I,rfl,k _ ρ B H Gr.refl W XL⟩
  | cons d ds' =>
    subst hd
    have hz:(its.toArray.size != ([]:List Value).toArray.size) = true:=by
      have e:its.length = ds'.length + 1:=by rw [<- l2,<- ll];rfl
      simp;intro h;rw [h] at e;simp at e
    have R:=SeqAt.RcAt.lists_lengths pl.isList pm.isList hz u0
    exact R X.prog X.w _ _ ⟨.bl _,H,I,rfl,k _ ρ B H Gr.refl W XL⟩
end
end D
namespace K26
open PySem PySem.Spec PyProof.Rows L2 D
def top (i:Nat):Stmt:=PySem.Challenge.pw_sidelink_k26_whole_all_told.main.body.getD i (.Pass ⟨0,0,0,0⟩)
abbrev zC:Stmt:=Zy (top 27) 8
def zt:DSx:=QP (Jf XO (Qc (QH "Shelf" "kept" (Qd 0)) (Qm)))
def Zx:List DV -> M DV:=Q7 1 zt
abbrev Yq:Stmt:=Zy (top 21) 9
def Z9:DEx:=Jg true (xOf (U6 (Qn ixG (Qd 2) (eC (.int 1))) (Qn ixG (Qd 2) (eC (.int 2))))) [3,4] (eB (Y9 leD ltD (Qd 1) (Qn ixG (Qd 0) (eC (.int 0))) (Qd 2))) (Qd 0)
def jc:DSx:=Qs (QL 3 (Qn ixG (QH "Walk" "deed" (Qd 0)) (eC (.int 1)))) (Qs (QL 4 (Qn ixG (QH "Walk" "deed" (Qd 0)) (eC (.int 2)))) (Qs (QL 5 (Z9)) (Qs (Ji (qd "list" jt (QH "Walk" "pairs" (Qd 0)) (Qc (Qd 5) (Qm)))) (Qs (sIf (eOr (eB (Qn isD (Qn ixG (Qd 2) (eC (.int 3))) (eC .non))) (eB (Qn geD (Qn ixG (Qd 2) (eC (.int 3))) (Qd 4)))) (Qs (Q9 "Walk" "ended" (Qd 0) (eC (.bl true))) (QP (ZC (Qc (eC (.str "read")) (Qc (Qd 1) (Qc (Jf kz (Qc (Qd 5) (Qm))) (Qc (eC .non) (Qc (eC .non) (Qm))))))))) (ZH)) (Qs (Q9 "Walk" "aim" (Qd 0) (Qn ixG (Qd 2) (eC (.int 3)))) (Qs (Q9 "Walk" "place" (Qd 0) (Qn ixG (Qd 2) (eC (.int 4)))) (QP (ZC (Qc (eC (.str "read")) (Qc (Qd 1) (Qc (Jf kz (Qc (Qd 5) (Qm))) (Qc (QH "Walk" "place" (Qd 0)) (Qc (QH "Walk" "aim" (Qd 0)) (Qm))))))))))))))
def J6:List DV -> M DV:=Q7 6 jc
abbrev XE:Stmt:=Zy (top 27) 12
def Xv:DSx:=sIf (Xw (eB (Y9 leD ltD (eC (.int 0)) (Qd 1) (Jf XO (Qc (QH "Shelf" "kept" (Qd 0)) (Qm)))))) (Qdd) (ZH)
def Zl:List DV -> M DV:=Q7 2 Xv
abbrev zD:Stmt:=Zy (top 27) 2
def zx:DSx:=Qs (Ji (QD "Shelf" "check_number" 2 Zl (Qd 0) (Qc (Qd 1) (Qm)))) (Qs (YN "Shelf" "write_count" zY (Qd 0) (eC (.int 1))) (Yd (Qd 2) (gSb (QH "Shelf" "kept" (Qd 0)) (Qd 1))))
def Jt:List DV -> M DV:=Q7 3 zx
abbrev Vj:Stmt:=top 14
def G4:DSx:=QP (ZC (Qc (Qn ixD (Qd 0) (eC (.int 0))) (Qc (Qd 1) (Qc (Qd 2) (Qc (Qn ixD (Qd 0) (eC (.int 3))) (Qc (Qn ixD (Qd 0) (eC (.int 4))) (Qm)))))))
def YY:List DV -> M DV:=Q7 3 G4
abbrev Yr:Stmt:=top 16
def zj:DEx:=Jg false (xOf (iTp (Qd 0))) [1] (eB (Qn leD (Qd 0) (Qd 1))) (Qd 0)
def jd:DSx:=QP (Jf XO (Qc (zj) (Qm)))
def Zr:List DV -> M DV:=Q7 2 jd
abbrev zF:Stmt:=top 15
def xR:DEx:=Jg false (xOf (iTp (Qd 0))) [1] (eB (Qn ltD (Qd 0) (Qd 1))) (Qd 0)
def VL:DSx:=QP (Jf XO (Qc (xR) (Qm)))
def Xk:List DV -> M DV:=Q7 2 VL
abbrev Vl:Stmt:=top 13
def G8:DSx:=Qs (QL 4 (Qn ixD (Qd 0) (eC (.int 1)))) (Qs (QL 5 (Qn ixD (Qd 0) (eC (.int 2)))) (Qs (QL 6 (Qt 2 Xk (Qc (Qd 4) (Qc (Qd 1) (Qm))))) (Qs (QL 7 (Qt 2 Zr (Qc (Qd 4) (Qc (Qd 1) (Qm))))) (QP (Qt 3 YY (Qc (Qd 0) (Qc (Qn ZJ (Qn ZJ (eSl (Qd 4) (ZM) (ZN (Qd 6))) (Qd 2)) (eSl (Qd 4) (ZN (Qd 7)) (ZM))) (Qc (Qn ZJ (Qn ZJ (eSl (Qd 5) (ZM) (ZN (Qd 6))) (Qd 3)) (eSl (Qd 5) (ZN (Qd 7)) (ZM))) (Qm)))))))))
def Y1:List DV -> M DV:=Q7 8 G8
abbrev Up:Stmt:=top 11
def gf:DSx:=QP (Qt 4 Y1 (Qc (Qd 0) (Qc (Qd 1) (Qc (ZC (Qm)) (Qc (ZC (Qm)) (Qm))))))
def jP:List DV -> M DV:=Q7 2 gf
abbrev Vm:Stmt:=top 9
def G9:DSx:=Qs (QL 2 (Qn ixD (Qd 0) (eC (.int 1)))) (Qs (QL 3 (Qt 2 Xk (Qc (Qd 2) (Qc (Qd 1) (Qm))))) (Qs (sIf (eB (Qn eqD (Qd 3) (Qt 2 Zr (Qc (Qd 2) (Qc (Qd 1) (Qm)))))) (QP (eC .non)) (ZH)) (QP (Qn ixD (Qn ixD (Qd 0) (eC (.int 2))) (Qd 3)))))
def J1:List DV -> M DV:=Q7 4 G9
abbrev qR:Stmt:=Zy (top 21) 8
def yv:DSx:=Qs (Q9 "Walk" "worth" (Qd 0) (Qt 2 J1 (Qc (Qd 2) (Qc (QH "Walk" "aim" (Qd 0)) (Qm))))) (Qs (sIf (eB (Qn Gi (QH "Walk" "worth" (Qd 0)) (eC .non))) (Ji (QD "Shelf" "write" 3 Jt (QH "Walk" "shelf" (Qd 0)) (Qc (Qd 1) (Qc (Qt 2 jP (Qc (Qd 2) (Qc (QH "Walk" "aim" (Qd 0)) (Qm)))) (Qm))))) (ZH)) (Qs (Q9 "Walk" "ended" (Qd 0) (eC (.bl true))) (QP (ZC (Qc (eC (.str "cut")) (Qc (Qd 1) (Qc (QH "Walk" "worth" (Qd 0)) (Qm))))))))
def X1:List DV -> M DV:=Q7 3 yv
abbrev xG:Stmt:=Zy (top 27) 3
def xw:DSx:=Qs (YN "Shelf" "write_count" zY (Qd 0) (eC (.int 1))) (Qs (Ji (qd "list" JZ (QH "Shelf" "kept" (Qd 0)) (Qc (Qd 1) (Qm)))) (QP (Qn xr (Jf XO (Qc (QH "Shelf" "kept" (Qd 0)) (Qm))) (eC (.int 1)))))
def Xq:List DV -> M DV:=Q7 2 xw
abbrev GG:Stmt:=top 19
def kO:DSx:=Qs (QL 2 (Qn ixD (Qd 0) (eC (.int 0)))) (Qs (QL 3 (Qn ixD (Qd 0) (eC (.int 1)))) (Qs (QL 4 (Qn ixD (Qd 0) (eC (.int 2)))) (Qs (QL 5 (Qn Qaa (Jf qN (Qc (Qd 3) (Qm))) (eC (.int 2)))) (Qs (QL 6 (Qn ixD (Qd 3) (Qd 5))) (Qs (QL 7 (eIf (eB (Qn eqD (Qd 2) (eC (.int 0)))) (Qd 5) (Qn ZJ (Qd 5) (eC (.int 1))))) (Qs (QL 8 (ZC (Qc (Qd 2) (Qc (eSl (Qd 3) (ZM) (ZN (Qd 5))) (Qc (eSl (Qd 4) (ZM) (ZN (Qd 7))) (Qc (Qd 6) (Qc (Qd 1) (Qm)))))))) (Qs (QL 9 (ZC (Qc (Qd 2) (Qc (eSl (Qd 3) (ZN (Qd 7)) (ZM)) (Qc (eSl (Qd 4) (ZN (Qd 7)) (ZM)) (Qc (Qn ixD (Qd 0) (eC (.int 3))) (Qc (Qn ixD (Qd 0) (eC (.int 4))) (Qm)))))))) (QP (ZC (Qc (Qd 8) (Qc (Qd 9) (Qc (Qd 6) (Qm)))))))))))))
def zW:List DV -> M DV:=Q7 10 kO
abbrev jD:Stmt:=Zy (top 27) 7
def z9:DSx:=QP (QH "Shelf" "page_room" (Qd 0))
def Jk:List DV -> M DV:=Q7 1 z9
abbrev Ul:Stmt:=top 18
def ga:DSx:=QP (Qn gtD (Jf qN (Qc (Qn ixD (Qd 0) (eC (.int 1))) (Qm))) (Qd 1))
def XX:List DV -> M DV:=Q7 2 ga
abbrev zE:Stmt:=Zy (top 21) 12
def VJ:DSx:=Qs (sIf (Xw (eB (Qt 2 XX (Qc (Qd 2) (Qc (QD "Shelf" "room" 1 Jk (QH "Walk" "shelf" (Qd 0)) Qm) (Qm)))))) (Qs (Ji (QD "Shelf" "write" 3 Jt (QH "Walk" "shelf" (Qd 0)) (Qc (Qd 1) (Qc (Qd 2) (Qm))))) (Qs (Q9 "Walk" "ended" (Qd 0) (eC (.bl true))) (QP (eC .non)))) (ZH)) (Qs (QL 3 (Qt 2 zW (Qc (Qd 2) (Qc (QD "Shelf" "pages" 1 Zx (QH "Walk" "shelf" (Qd 0)) Qm) (Qm))))) (Qs (Q9 "Walk" "new_page" (Qd 0) (QD "Shelf" "lay" 2 Xq (QH "Walk" "shelf" (Qd 0)) (Qc (Qn ixG (Qd 3) (eC (.int 1))) (Qm)))) (Qs (Ji (QD "Shelf" "write" 3 Jt (QH "Walk" "shelf" (Qd 0)) (Qc (Qd 1) (Qc (Qn ixG (Qd 3) (eC (.int 0))) (Qm))))) (Qs (Q9 "Walk" "aim" (Qd 0) (Qn ixG (Qd 3) (eC (.int 2)))) (Qs (Q9 "Walk" "goal" (Qd 0) (Qn ZJ (Qn ixG (Qd 2) (eC (.int 0))) (eC (.int 1)))) (Qs (Q9 "Walk" "place" (Qd 0) (qd "dict" Ym (QH "Walk" "forks" (Qd 0)) (Qc (QH "Walk" "goal" (Qd 0)) (Qm)))) (QP (QH "Walk" "new_page" (Qd 0)))))))))
def Xj:List DV -> M DV:=Q7 4 VJ
abbrev xM:Stmt:=top 10
def KR:DSx:=QP (Qt 4 Y1 (Qc (Qd 0) (Qc (Qd 1) (Qc (ZC (Qc (Qd 1) (Qm))) (Qc (ZC (Qc (Qd 2) (Qm))) (Qm))))))
def qB:List DV -> M DV:=Q7 3 KR
abbrev qu:Stmt:=Zy (top 21) 7
def xT:DSx:=Qs (Q9 "Walk" "worth" (Qd 0) (Qt 2 J1 (Qc (Qd 2) (Qc (QH "Walk" "aim" (Qd 0)) (Qm))))) (Qs (QL 3 (QD "Walk" "settle" 3 Xj (Qd 0) (Qc (Qd 1) (Qc (Qt 3 qB (Qc (Qd 2) (Qc (QH "Walk" "aim" (Qd 0)) (Qc (Qn ixG (QH "Walk" "deed" (Qd 0)) (eC (.int 2))) (Qm))))) (Qm))))) (QP (ZC (Qc (eC (.str "put")) (Qc (Qd 1) (Qc (QH "Walk" "worth" (Qd 0)) (Qc (Qd 3) (Qm))))))))
def XG:List DV -> M DV:=Q7 4 xT
abbrev Yp:Stmt:=Zy (top 21) 6
def jb:DSx:=Qs (Q9 "Walk" "worth" (Qd 0) (Qt 2 J1 (Qc (Qd 2) (Qc (QH "Walk" "aim" (Qd 0)) (Qm))))) (Qs (Q9 "Walk" "ended" (Qd 0) (eC (.bl true))) (QP (ZC (Qc (eC (.str "found")) (Qc (Qd 1) (Qc (QH "Walk" "worth" (Qd 0)) (Qm)))))))
def J5:List DV -> M DV:=Q7 3 jb
abbrev qS:Stmt:=Zy (top 21) 5
def yw:DSx:=Qs (QL 3 (Qn ixG (QH "Walk" "deed" (Qd 0)) (eC (.int 0)))) (Qs (sIf (eB (Qn eqG (Qd 3) (eC (.str "find")))) (QP (QD "Walk" "find_worth" 3 J5 (Qd 0) (Qc (Qd 1) (Qc (Qd 2) (Qm))))) (ZH)) (Qs (sIf (eB (Qn eqG (Qd 3) (eC (.str "put")))) (QP (QD "Walk" "put_pair" 3 XG (Qd 0) (Qc (Qd 1) (Qc (Qd 2) (Qm))))) (ZH)) (Qs (sIf (eB (Qn eqG (Qd 3) (eC (.str "cut")))) (QP (QD "Walk" "cut_key" 3 X1 (Qd 0) (Qc (Qd 1) (Qc (Qd 2) (Qm))))) (ZH)) (QP (QD "Walk" "read_pairs" 3 J6 (Qd 0) (Qc (Qd 1) (Qc (Qd 2) (Qm))))))))
def X2:List DV -> M DV:=Q7 4 yw
abbrev Vk:Stmt:=top 12
def G7:DSx:=Qs (QL 3 (Qn ixD (Qd 0) (eC (.int 1)))) (Qs (QL 4 (Qn ixD (Qd 0) (eC (.int 2)))) (Qs (QL 5 (Qt 2 Zr (Qc (Qd 3) (Qc (Qd 1) (Qm))))) (Qs (QL 6 (Qn ZJ (Qd 5) (eC (.int 1)))) (QP (Qt 3 YY (Qc (Qd 0) (Qc (Qn ZJ (Qn ZJ (eSl (Qd 3) (ZM) (ZN (Qd 5))) (ZC (Qc (Qd 1) (Qm)))) (eSl (Qd 3) (ZN (Qd 5)) (ZM))) (Qc (Qn ZJ (Qn ZJ (eSl (Qd 4) (ZM) (ZN (Qd 6))) (ZC (Qc (Qd 2) (Qm)))) (eSl (Qd 4) (ZN (Qd 6)) (ZM))) (Qm)))))))))
def YZ:List DV -> M DV:=Q7 7 G7
abbrev YQ:Stmt:=Zy (top 21) 10
def jQ:DSx:=Qs (QL 3 (QD "Walk" "settle" 3 Xj (Qd 0) (Qc (Qd 1) (Qc (Qt 3 YZ (Qc (Qd 2) (Qc (QH "Walk" "aim" (Qd 0)) (Qc (QH "Walk" "new_page" (Qd 0)) (Qm))))) (Qm))))) (QP (ZC (Qc (eC (.str "told")) (Qc (Qd 1) (Qc (Qd 3) (Qm))))))
def Xf:List DV -> M DV:=Q7 4 jQ
abbrev jF:Stmt:=Zy (top 21) 4
def UQ:DSx:=Qs (Q9 "Walk" "place" (Qd 0) (Qd 3)) (QP (ZC (Qc (Qd 1) (Qc (Qd 2) (Qc (Qd 3) (Qm))))))
def JG:List DV -> M DV:=Q7 4 UQ
abbrev Um:Stmt:=top 8
def gb:DSx:=QP (Qn ixD (Qn ixD (Qd 0) (eC (.int 2))) (Qt 2 Zr (Qc (Qn ixD (Qd 0) (eC (.int 1))) (Qc (Qd 1) (Qm)))))
def YE:List DV -> M DV:=Q7 2 gb
abbrev GF:Stmt:=top 7
def kN:DSx:=Qs (QL 2 (Qn ixD (Qd 0) (eC (.int 3)))) (QP (JR (Qn Gi (Qd 2) (eC .non)) (Qn geD (Qd 1) (Qd 2))))
def YD:List DV -> M DV:=Q7 3 kN
abbrev Ye:Stmt:=Zy (top 27) 6
def X7:DSx:=Qs (Ji (QD "Shelf" "check_number" 2 Zl (Qd 0) (Qc (Qd 2) (Qm)))) (Qs (QL 3 (Qn ZJ (Qn ixG (Qn ixG (QH "Shelf" "kept" (Qd 0)) (QH "Shelf" "top" (Qd 0))) (eC (.int 0))) (eC (.int 1)))) (Qs (Q9 "Shelf" "top" (Qd 0) (QD "Shelf" "lay" 2 Xq (Qd 0) (Qc (ZC (Qc (Qd 3) (Qc (ZC (Qc (Qd 1) (Qm))) (Qc (ZC (Qc (QH "Shelf" "top" (Qd 0)) (Qc (Qd 2) (Qm)))) (Qc (eC .non) (Qc (eC .non) (Qm))))))) (Qm)))) (QP (QH "Shelf" "top" (Qd 0)))))
def ZP:List DV -> M DV:=Q7 4 X7
abbrev Xc:Stmt:=Zy (top 21) 11
def Y7:DSx:=Qs (Q9 "Walk" "ended" (Qd 0) (eC (.bl true))) (QP (ZC (Qc (eC (.str "raised")) (Qc (Qd 1) (Qc (QD "Shelf" "raise_root" 3 ZP (QH "Walk" "shelf" (Qd 0)) (Qc (QH "Walk" "aim" (Qd 0)) (Qc (QH "Walk" "new_page" (Qd 0)) (Qm)))) (Qm))))))
def ZI:List DV -> M DV:=Q7 2 Y7
abbrev jC:Stmt:=Zy (top 27) 1
def zZ:DSx:=Qs (Ji (QD "Shelf" "check_number" 2 Zl (Qd 0) (Qc (Qd 1) (Qm)))) (Qs (YN "Shelf" "read_count" zY (Qd 0) (eC (.int 1))) (QP (Qn ixG (QH "Shelf" "kept" (Qd 0)) (Qd 1))))
def Q0:List DV -> M DV:=Q7 2 zZ
abbrev jE:Stmt:=Zy (top 27) 4
def ja:DSx:=QP (QH "Shelf" "top" (Qd 0))
def Zq:List DV -> M DV:=Q7 1 ja
abbrev xI:Stmt:=Zy (top 21) 3
def KO:DSx:=Qs (sIf (eB (QH "Walk" "ended" (Qd 0))) (QP (eC .non)) (ZH)) (Qs (QL 1 (eIf (eB (Qn isD (QH "Walk" "place" (Qd 0)) (eC .non))) (QD "Shelf" "root" 1 Zq (QH "Walk" "shelf" (Qd 0)) Qm) (QH "Walk" "place" (Qd 0)))) (Qs (QL 2 (QD "Shelf" "read" 2 Q0 (QH "Walk" "shelf" (Qd 0)) (Qc (Qd 1) (Qm)))) (Qs (sIf (Yh (eB (Qn isD (QH "Walk" "place" (Qd 0)) (eC .non))) (eB (Qn ltD (Qn ixG (Qd 2) (eC (.int 0))) (QH "Walk" "goal" (Qd 0))))) (QP (QD "Walk" "raise_root_over" 2 ZI (Qd 0) (Qc (Qd 1) (Qm)))) (ZH)) (Qs (sIf (eB (Qt 2 YD (Qc (Qd 2) (Qc (QH "Walk" "aim" (Qd 0)) (Qm))))) (QP (QD "Walk" "go_on" 4 JG (Qd 0) (Qc (eC (.str "side")) (Qc (Qd 1) (Qc (Qn ixG (Qd 2) (eC (.int 4))) (Qm)))))) (ZH)) (Qs (sIf (eB (Qn gtD (Qn ixG (Qd 2) (eC (.int 0))) (QH "Walk" "goal" (Qd 0)))) (Qs (Yd (Qd 1) (gSb (QH "Walk" "forks" (Qd 0)) (Qn ixG (Qd 2) (eC (.int 0))))) (QP (QD "Walk" "go_on" 4 JG (Qd 0) (Qc (eC (.str "down")) (Qc (Qd 1) (Qc (Qt 2 YE (Qc (Qd 2) (Qc (QH "Walk" "aim" (Qd 0)) (Qm)))) (Qm))))))) (ZH)) (Qs (sIf (eB (Qn gtD (QH "Walk" "goal" (Qd 0)) (eC (.int 0)))) (QP (QD "Walk" "tell_fork" 3 Xf (Qd 0) (Qc (Qd 1) (Qc (Qd 2) (Qm))))) (ZH)) (QP (QD "Walk" "do_deed" 3 X2 (Qd 0) (Qc (Qd 1) (Qc (Qd 2) (Qm)))))))))))
def Zz:List DV -> M DV:=Q7 3 KO
abbrev xH:Stmt:=Zy (top 21) 1
def KN:DSx:=QP (QH "Walk" "ended" (Qd 0))
def ZY:List DV -> M DV:=Q7 1 KN
abbrev YR:Stmt:=top 36
def Yb:DSx:=Ji (QD "Walk" "step" 1 Zz (Qd 4) Qm)
def X6:DSx:=Uk (xLs (Qd 3)) (gN 4) (Yb)
def Jj:DEx:=Jg false (xLs (Qd 1)) [] (Yh (eB (Qn Gi (Qd 0) (eC .non))) (Xw (eB (QD "Walk" "over" 1 ZY (Qd 0) Qm)))) (Qd 0)
def Yc:DSx:=Qs (QL 3 (Jj)) (Qs (sIf (eB (Qn eqN (Qd 3) (qc (Qm)))) (QP (eC (.bl true))) (ZH)) (X6))
def zI:DSx:=Vf (zo (Qc (Qn ZJ (Qn qw (eC (.int 4)) (QD "Shelf" "pages" 1 Zx (Qd 0) Qm)) (eC (.int 40))) (Qm))) (gN 2) (Yc)
def jR:DSx:=Qs (zI) (QP (eC (.bl false)))
def JH:List DV -> M DV:=Q7 5 jR
abbrev Yg:Stmt:=top 37
def JA:DEx:=Jg false (xOf (zo (Qc (Jf XO (Qc (Qd 1) (Qm))) (Qm)))) [0] (VX) (Jf Qas (Qc (Qn neG (Qd 0) (QD "Shelf" "root" 1 Zq (Qd 1) Qm)) (Qm)))
def XA:DSx:=Qs (Yd (Qn ZJ (Qn ixG (Qd 2) (Qd 4)) (eC (.int 1))) (gSb (Qd 2) (Qd 4))) (sIf (eB (Qn neG (Qn ixG (Qn ixG (Qd 1) (Qd 4)) (eC (.int 0))) (Qn xr (Qn ixG (Qd 3) (eC (.int 0))) (eC (.int 1))))) (QP (eC (.bl false))) (ZH))
def Xt:DSx:=Vf (iTp (Qn ixG (Qd 3) (eC (.int 2)))) (gN 4) (XA)
def JE:DSx:=sIf (eB (Qn gtD (Qn ixG (Qd 3) (eC (.int 0))) (eC (.int 0)))) (Xt) (ZH)
def Xu:DSx:=Uk (xLs (Qd 1)) (gN 3) (JE)
def JB:DEx:=Jg true (xLs (Qd 1)) [] (VX) (eC (.int 0))
def ZX:DEx:=Jg false (xOf (zo (Qc (QD "Shelf" "pages" 1 Zx (Qd 0) Qm) (Qm)))) [0] (VX) (QD "Shelf" "read" 2 Q0 (Qd 1) (Qc (Qd 0) (Qm)))
def zK:DSx:=Qs (QL 1 (ZX)) (Qs (QL 2 (JB)) (Qs (Xu) (QP (Qn eqG (Qd 2) (JA)))))
def Zv:List DV -> M DV:=Q7 5 zK
abbrev qt:Stmt:=Zy (top 21) 0
def xS:DSx:=Qs (Q9 "Walk" "shelf" (Qd 0) (Qd 1)) (Qs (Q9 "Walk" "deed" (Qd 0) (Qd 2)) (Qs (Q9 "Walk" "aim" (Qd 0) (Qn ixG (Qd 2) (eC (.int 1)))) (Qs (Q9 "Walk" "goal" (Qd 0) (eC (.int 0))) (Qs (Q9 "Walk" "place" (Qd 0) (eC .non)) (Qs (Q9 "Walk" "forks" (Qd 0) (J7)) (Qs (Q9 "Walk" "new_page" (Qd 0) (eC .non)) (Qs (Q9 "Walk" "worth" (Qd 0) (eC .non)) (Qs (Q9 "Walk" "pairs" (Qd 0) (YK (Qm))) (Q9 "Walk" "ended" (Qd 0) (eC (.bl false)))))))))))
def Zi:List DV -> M DV:=Q7 3 xS
abbrev qT:Stmt:=top 38
def YL:DSx:=Qs (QL 7 (QD "Walk" "step" 1 Zz (Qd 5) Qm)) (sIf (eOr (eB (Qn isD (Qd 7) (eC .non))) (eB (Qn neG (Qn ixG (Qd 7) (eC (.int 0))) (eC (.str "down"))))) (QP (eC (.bl false))) (ZH))
def YG:DSx:=Vf (zo (Qc (Qd 4) (Qm))) (gN 6) (YL)
def yy:DSx:=Qs (QL 5 (JS "Walk" 3 Zi (Qc (Qd 0) (Qc (ZC (Qc (eC (.str "find")) (Qc (Qd 2) (Qm)))) (Qm))))) (Qs (YG) (QP (JR (Qn eqG (QD "Walk" "step" 1 Zz (Qd 5) Qm) (ZC (Qc (eC (.str "found")) (Qc (Qd 1) (Qc (Qd 3) (Qm)))))) (QD "Walk" "over" 1 ZY (Qd 5) Qm))))
def X4:List DV -> M DV:=Q7 8 yy
abbrev Yf:Stmt:=top 39
def JD:DSx:=sIf (Xw (eB (Qt 5 X4 (Qc (Qd 0) (Qc (Qd 2) (Qc (Qd 4) (Qc (Qd 5) (Qc (Qd 1) (Qm))))))))) (QP (eC (.bl false))) (ZH)
def Xr:DSx:=Vf (U6 (Qn ixG (Qd 3) (eC (.int 1))) (Qn ixG (Qd 3) (eC (.int 2)))) (gT [4,5]) (JD)
def Xz:DSx:=Qs (QL 3 (QD "Shelf" "read" 2 Q0 (Qd 0) (Qc (Qd 2) (Qm)))) (sIf (eB (Qn eqG (Qn ixG (Qd 3) (eC (.int 0))) (eC (.int 0)))) (Xr) (ZH))
def Xs:DSx:=Vf (zo (Qc (QD "Shelf" "pages" 1 Zx (Qd 0) Qm) (Qm))) (gN 2) (Xz)
def zJ:DSx:=Qs (QL 1 (Qn ixG (QD "Shelf" "read" 2 Q0 (Qd 0) (Qc (QD "Shelf" "root" 1 Zq (Qd 0) Qm) (Qm))) (eC (.int 0)))) (Qs (Xs) (QP (eC (.bl true))))
def Zu:List DV -> M DV:=Q7 6 zJ
abbrev Vi:Stmt:=top 30
def yx:DSx:=Qs (QL 3 (Qn yW (Qn ZJ (Qd 0) (Qn Qaa (Qd 1) (eC (.int 3)))) (Qd 1))) (QP (Qn yW (Qn yW (Qn qw (Qn yW (Qn qw (Qd 3) (Qd 3)) (Qd 1)) (Qd 3)) (Qd 1)) (Qd 2)))
def Qu:List DV -> M DV:=Q7 4 yx
abbrev xL:Stmt:=top 32
def KQ:DSx:=Qs (sIf (eB (Qn eqD (Qt 3 Qu (Qc (Qd 0) (Qc (eC (.int 10037)) (Qc (eC (.int 4)) (Qm))))) (eC (.int 0)))) (QP (Qn xr (Qn yW (Qn ZJ (Qn qw (Qn yW (Qd 0) (Qn qP (eC (.int 10)) (eC (.int 40)))) (eC (.int 1000000000039))) (eC (.int 5))) (Qn ZJ (Qn qw (eC (.int 2)) (Qn qP (eC (.int 10)) (eC (.int 30)))) (eC (.int 1)))) (Qn qP (eC (.int 10)) (eC (.int 30))))) (ZH)) (QP (Qn xr (Qt 3 Qu (Qc (Qd 0) (Qc (eC (.int 10039)) (Qc (eC (.int 9)) (Qm))))) (eC (.int 4))))
def qA:List DV -> M DV:=Q7 1 KQ
abbrev Uo:Stmt:=top 31
def gc:DSx:=Qs (QL 1 (Qt 3 Qu (Qc (Qd 0) (Qc (eC (.int 10007)) (Qc (eC (.int 5)) (Qm)))))) (Qs (sIf (eB (Qn eqD (Qd 1) (eC (.int 0)))) (QP (Qn xr (Qn yW (Qn ZJ (Qn qw (Qn yW (Qd 0) (Qn qP (eC (.int 10)) (eC (.int 40)))) (eC (.int 1000000000039))) (eC (.int 11))) (Qn ZJ (Qn qw (eC (.int 2)) (Qn qP (eC (.int 10)) (eC (.int 30)))) (eC (.int 1)))) (Qn qP (eC (.int 10)) (eC (.int 30))))) (ZH)) (QP (Qn xr (Qt 3 Qu (Qc (Qd 0) (Qc (eC (.int 10009)) (Qc (Qn ixD (qc (Qc (eC (.int 10)) (Qc (eC (.int 10)) (Qc (eC (.int 41)) (Qc (eC (.int 120)) (Qc (eC (.int 120)) (Qm))))))) (Qd 1)) (Qm))))) (eC (.int 5)))))
def YF:List DV -> M DV:=Q7 2 gc
abbrev Vg:Stmt:=top 33
def G2:DSx:=Qs (QL 1 (Qt 3 Qu (Qc (Qd 0) (Qc (eC (.int 10061)) (Qc (eC (.int 10)) (Qm)))))) (Qs (QL 2 (Qt 1 YF (Qc (Qd 0) (Qm)))) (Qs (sIf (eB (Qn ltD (Qd 1) (eC (.int 5)))) (QP (ZC (Qc (eC (.str "put")) (Qc (Qd 2) (Qc (Qt 1 qA (Qc (Qd 0) (Qm))) (Qm)))))) (ZH)) (Qs (sIf (eB (Qn ltD (Qd 1) (eC (.int 7)))) (QP (ZC (Qc (eC (.str "cut")) (Qc (Qd 2) (Qm))))) (ZH)) (Qs (sIf (eB (Qn ltD (Qd 1) (eC (.int 9)))) (QP (ZC (Qc (eC (.str "find")) (Qc (Qd 2) (Qm))))) (ZH)) (Qs (QL 3 (Jf Kk (Qc (Qd 2) (Qc (Qn xr (Qn qP (eC (.int 10)) (eC (.int 30))) (eC (.int 1))) (Qm))))) (Qs (QL 4 (Jf Kk (Qc (Qn qP (eC (.int 10)) (eC (.int 30))) (Qc (Qn ZJ (Qn ZJ (Qd 3) (eC (.int 1))) (Qt 3 Qu (Qc (Qd 0) (Qc (eC (.int 10067)) (Qc (eC (.int 50)) (Qm)))))) (Qm))))) (Qs (QL 5 (Jf Kk (Qc (Qn qP (eC (.int 10)) (eC (.int 30))) (Qc (Qn ZJ (Qn ZJ (Qd 3) (eC (.int 51))) (Qt 3 Qu (Qc (Qd 0) (Qc (eC (.int 10151)) (Qc (eC (.int 150)) (Qm)))))) (Qm))))) (QP (ZC (Qc (eC (.str "stretch")) (Qc (Qd 3) (Qc (Qn ixD (qc (Qc (Qn ZJ (Qd 3) (eC (.int 1))) (Qc (Qd 4) (Qc (Qd 5) (Qc (Qn qP (eC (.int 10)) (eC (.int 30))) (Qm)))))) (Qt 3 Qu (Qc (Qd 0) (Qc (eC (.int 10069)) (Qc (eC (.int 4)) (Qm)))))) (Qm)))))))))))))
def X3:List DV -> M DV:=Q7 6 G2
abbrev Vh:Stmt:=top 34
def jq:DSx:=Qs (sIf (eB (QD "Walk" "over" 1 ZY (Qd 2) Qm)) (QP (Qd 2)) (ZH)) (Ji (QD "Walk" "step" 1 Zz (Qd 2) Qm))
def zX:DSx:=Vf (zo (Qc (eC (.int 1000)) (Qm))) (gN 3) (jq)
def G3:DSx:=Qs (QL 2 (JS "Walk" 3 Zi (Qc (Qd 0) (Qc (Qd 1) (Qm))))) (Qs (zX) (QP (Qd 2)))
def YX:List DV -> M DV:=Q7 4 G3
abbrev YO:Stmt:=Zy (top 27) 0
def YH:DSx:=Qs (Q9 "Shelf" "page_room" (Qd 0) (Qd 1)) (Qs (Q9 "Shelf" "kept" (Qd 0) (YK (Qc (eC (.tup [.int 0,.tup [],.tup [],.non,.non])) (Qm)))) (Qs (Q9 "Shelf" "top" (Qd 0) (eC (.int 0))) (Qs (Q9 "Shelf" "read_count" (Qd 0) (eC (.int 0))) (Q9 "Shelf" "write_count" (Qd 0) (eC (.int 0))))))
def ZO:List DV -> M DV:=Q7 2 YH
abbrev xK:Stmt:=top 35
def zA:DSx:=Qs (QL 5 (Qn xr (Qt 3 Qu (Qc (Qn ZJ (Qd 0) (Qn qw (eC (.int 7)) (Qd 4))) (Qc (eC (.int 10099)) (Qc (eC (.int 120)) (Qm))))) (eC (.int 5)))) (Qs (Ji (Qt 2 YX (Qc (Qd 2) (Qc (ZC (Qc (eC (.str "put")) (Qc (Qd 5) (Qc (Qd 4) (Qm))))) (Qm))))) (Yd (Qd 4) (gSb (Qd 1) (Qd 5))))
def zr:DSx:=Vf (zo (Qc (Qd 3) (Qm))) (gN 4) (zA)
def KP:DSx:=Qs (QL 2 (JS "Shelf" 2 ZO (Qc (Qn ZJ (eC (.int 2)) (Qn qw (Qt 3 Qu (Qc (Qd 0) (Qc (eC (.int 10079)) (Qc (eC (.int 7)) (Qm))))) (Qt 3 Qu (Qc (Qd 0) (Qc (eC (.int 10091)) (Qc (eC (.int 2)) (Qm))))))) (Qm)))) (Qs (QL 3 (Qt 3 Qu (Qc (Qd 0) (Qc (eC (.int 10093)) (Qc (eC (.int 25)) (Qm)))))) (Qs (sIf (eB (Qn eqG (Qt 3 Qu (Qc (Qd 0) (Qc (eC (.int 10141)) (Qc (eC (.int 8)) (Qm))))) (eC (.int 3)))) (QL 3 (eC (.int 60))) (ZH)) (Qs (zr) (QP (Qd 2)))))
def Yj:List DV -> M DV:=Q7 6 KP
abbrev zG:Stmt:=top 29
def Yv:DSx:=Qs (sIf (eB (Qn ltD (Qd 1) (Jf qN (Qc (Qd 0) (Qm))))) (QP (Qn ixD (Qd 0) (Qd 1))) (ZH)) (QP (eC (.int 0)))
def Ju:List DV -> M DV:=Q7 2 Yv
abbrev xJ:Stmt:=top 40
def uI:DSx:=Ji (QD "Walk" "step" 1 Zz (Qn ixG (Qd 3) (Qd 5)) Qm)
def UJ:DSx:=Vf (zo (Qc (Qn ZJ (eC (.int 1)) (Qt 3 Qu (Qc (Qd 4) (Qc (eC (.int 10133)) (Qc (eC (.int 5)) (Qm)))))) (Qm))) (gN 6) (uI)
def Kc:DSx:=Qs (QL 5 (Qt 3 Qu (Qc (Qd 4) (Qc (eC (.int 10111)) (Qc (Jf XO (Qc (Qd 3) (Qm))) (Qm)))))) (Qs (sIf (eOr (eB (Qn isD (Qn ixG (Qd 3) (Qd 5)) (eC .non))) (eB (QD "Walk" "over" 1 ZY (Qn ixG (Qd 3) (Qd 5)) Qm))) (Yd (JS "Walk" 3 Zi (Qc (Qd 2) (Qc (Qt 1 X3 (Qc (Qd 4) (Qm))) (Qm)))) (gSb (Qd 3) (Qd 5))) (ZH)) (UJ))
def v8:DSx:=Uk (xLs (eSl (Qd 0) (ZM) (ZN (eC (.int 120))))) (gN 4) (Kc)
def UE:DEx:=Jg true (xOf (zo (Qc (Qn ZJ (eC (.int 1)) (Qt 3 Qu (Qc (Qd 1) (Qc (eC (.int 10103)) (Qc (eC (.int 8)) (Qm)))))) (Qm)))) [] (VX) (eC .non)
def QeE:DSx:=Qs (QL 1 (Qt 2 Ju (Qc (Qd 0) (Qc (eC (.int 0)) (Qm))))) (Qs (QL 2 (Qt 2 Yj (Qc (Qd 1) (Qc (J7) (Qm))))) (Qs (sIf (eOr (Xw (eB (Qt 1 Zv (Qc (Qd 2) (Qm))))) (Xw (eB (Qt 1 Zu (Qc (Qd 2) (Qm)))))) (QP (eC (.bl false))) (ZH)) (Qs (QL 3 (UE)) (Qs (v8) (QP (JR (Qt 2 JH (Qc (Qd 2) (Qc (Qd 3) (Qm)))) (JR (Qt 1 Zv (Qc (Qd 2) (Qm))) (Qt 1 Zu (Qc (Qd 2) (Qm))))))))))
def KM:List DV -> M DV:=Q7 7 QeE
structure Al (K:PySem.W.Frag) (mg:Str -> Option Value):Prop where
  z0:mg "len" = none
  z1:mg "tuple" = none
  z2:mg "zip" = none
  z3:mg "range" = none
  z4:mg "int" = none
  z5:mg "min" = none
  g0:UG mg "SIDE" 4
  g1:UG mg "HIGH" 3
  g2:UG mg "KEYS" 1
  g3:UG mg "PARTS" 2
  g4:UG mg "LEVEL" 0
  t0:UT K mg "EMPTY_LEAF" (.tup [.int 0,.tup [],.tup [],.non,.non])
  k0:Y3 K "Shelf" "kept"
  k1:Y3 K "Walk" "aim"
  k2:Y3 K "Walk" "place"
  k3:Y3 K "Walk" "ended"
  k4:Y3 K "Walk" "pairs"
  k5:Y3 K "Walk" "deed"
  k6:Y3 K "Shelf" "write_count"
  k7:Y3 K "Walk" "worth"
  k8:Y3 K "Walk" "shelf"
  k9:Y3 K "Shelf" "page_room"
  k10:Y3 K "Walk" "new_page"
  k11:Y3 K "Walk" "forks"
  k12:Y3 K "Walk" "goal"
  k13:Y3 K "Shelf" "top"
  k14:Y3 K "Shelf" "read_count"
  u0:UM K "Shelf" "pages" "Shelf.pages" zC
  u1:UM K "Walk" "read_pairs" "Walk.read_pairs" Yq
  u2:UM K "Shelf" "check_number" "Shelf.check_number" XE
  u3:UM K "Shelf" "write" "Shelf.write" zD
  u4:UF K mg "refilled" Vj
  u5:UF K mg "count_not_above" Yr
  u6:UF K mg "count_below" zF
  u7:UF K mg "with_run" Vl
  u8:UF K mg "without" Up
  u9:UF K mg "worth_of" Vm
  u10:UM K "Walk" "cut_key" "Walk.cut_key" qR
  u11:UM K "Shelf" "lay" "Shelf.lay" xG
  u12:UF K mg "parted" GG
  u13:UM K "Shelf" "room" "Shelf.room" jD
  u14:UF K mg "is_full" Ul
  u15:UM K "Walk" "settle" "Walk.settle" zE
  u16:UF K mg "with_pair" xM
  u17:UM K "Walk" "put_pair" "Walk.put_pair" qu
  u18:UM K "Walk" "find_worth" "Walk.find_worth" Yp
  u19:UM K "Walk" "do_deed" "Walk.do_deed" qS
  u20:UF K mg "with_kid" Vk
  u21:UM K "Walk" "tell_fork" "Walk.tell_fork" YQ
  u22:UM K "Walk" "go_on" "Walk.go_on" jF
  u23:UF K mg "kid_for" Um
  u24:UF K mg "beyond" GF
  u25:UM K "Shelf" "raise_root" "Shelf.raise_root" Ye
  u26:UM K "Walk" "raise_root_over" "Walk.raise_root_over" Xc
  u27:UM K "Shelf" "read" "Shelf.read" jC
  u28:UM K "Shelf" "root" "Shelf.root" jE
  u29:UM K "Walk" "step" "Walk.step" xI
  u30:UM K "Walk" "over" "Walk.over" xH
  u31:UF K mg "_law_to_the_end" YR
  u32:UF K mg "_law_kids_counted" Yg
  u33:UI K mg "Walk" "Walk.__init__" qt
  u34:UF K mg "_law_straight" qT
  u35:UF K mg "_law_all_straight" Yf
  u36:UF K mg "_law_pick" Vi
  u37:UF K mg "_law_worth" xL
  u38:UF K mg "_law_key" Uo
  u39:UF K mg "_law_deed" Vg
  u40:UF K mg "_law_done" Vh
  u41:UI K mg "Shelf" "Shelf.__init__" YO
  u42:UF K mg "_law_begun" xK
  u43:UF K mg "_law_cell_at" zG
theorem Vn:Qv ["self"] ["self"] (Qp zC):=Zb (by decide +kernel)
theorem sc_Walk_read_pairs:Qv ["self", "number", "leaf", "low", "high", "pairs"] ["self", "number", "leaf"] (Qp Yq):=Zb (by decide +kernel)
theorem qy:Qv ["self", "number"] ["self", "number"] (Qp XE):=Zb (by decide +kernel)
theorem Vo:Qv ["self", "number", "page"] ["self", "number", "page"] (Qp zD):=Zb (by decide +kernel)
theorem GH:Qv ["page", "keys", "parts"] ["page", "keys", "parts"] (Qp Vj):=Zb (by decide +kernel)
theorem zV:Qv ["keys", "key"] ["keys", "key"] (Qp Yr):=Zb (by decide +kernel)
theorem Vp:Qv ["keys", "key"] ["keys", "key"] (Qp zF):=Zb (by decide +kernel)
theorem sc_with_run:Qv ["page", "key", "new_keys", "new_worths", "keys", "worths", "start", "stop"] ["page", "key", "new_keys", "new_worths"] (Qp Vl):=Zb (by decide +kernel)
theorem vT:Qv ["page", "key"] ["page", "key"] (Qp Up):=Zb (by decide +kernel)
theorem sc_worth_of:Qv ["page", "key", "keys", "place"] ["page", "key"] (Qp Vm):=Zb (by decide +kernel)
theorem yd:Qv ["self", "number", "leaf"] ["self", "number", "leaf"] (Qp qR):=Zb (by decide +kernel)
theorem Kw:Qv ["self", "page"] ["self", "page"] (Qp xG):=Zb (by decide +kernel)
theorem sc_parted:Qv ["page", "number", "level", "keys", "parts", "middle", "key", "cut", "old", "new"] ["page", "number"] (Qp GG):=Zb (by decide +kernel)
theorem VT:Qv ["self"] ["self"] (Qp jD):=Zb (by decide +kernel)
theorem vR:Qv ["page", "room"] ["page", "room"] (Qp Ul):=Zb (by decide +kernel)
theorem sc_Walk_settle:Qv ["self", "number", "page", "halves"] ["self", "number", "page"] (Qp zE):=Zb (by decide +kernel)
theorem Kz:Qv ["page", "key", "worth"] ["page", "key", "worth"] (Qp xM):=Zb (by decide +kernel)
theorem sc_Walk_put_pair:Qv ["self", "number", "leaf", "new_page"] ["self", "number", "leaf"] (Qp qu):=Zb (by decide +kernel)
theorem zU:Qv ["self", "number", "leaf"] ["self", "number", "leaf"] (Qp Yp):=Zb (by decide +kernel)
theorem sc_Walk_do_deed:Qv ["self", "number", "leaf", "word"] ["self", "number", "leaf"] (Qp qS):=Zb (by decide +kernel)
theorem sc_with_kid:Qv ["page", "key", "kid", "keys", "kids", "place", "behind"] ["page", "key", "kid"] (Qp Vk):=Zb (by decide +kernel)
theorem sc_Walk_tell_fork:Qv ["self", "number", "fork", "new_page"] ["self", "number", "fork"] (Qp YQ):=Zb (by decide +kernel)
theorem VV:Qv ["self", "word", "number", "to"] ["self", "word", "number", "to"] (Qp jF):=Zb (by decide +kernel)
theorem vS:Qv ["page", "key"] ["page", "key"] (Qp Um):=Zb (by decide +kernel)
theorem sc_beyond:Qv ["page", "key", "high"] ["page", "key"] (Qp GF):=Zb (by decide +kernel)
theorem sc_Shelf_raise_root:Qv ["self", "key", "number", "level"] ["self", "key", "number"] (Qp Ye):=Zb (by decide +kernel)
theorem YS:Qv ["self", "number"] ["self", "number"] (Qp Xc):=Zb (by decide +kernel)
theorem VS:Qv ["self", "number"] ["self", "number"] (Qp jC):=Zb (by decide +kernel)
theorem VU:Qv ["self"] ["self"] (Qp jE):=Zb (by decide +kernel)
theorem sc_Walk_step:Qv ["self", "number", "page"] ["self"] (Qp xI):=Zb (by decide +kernel)
theorem Kx:Qv ["self"] ["self"] (Qp xH):=Zb (by decide +kernel)
theorem sc_law_to_the_end:Qv ["shelf", "walks", "turn", "going", "walk"] ["shelf", "walks"] (Qp YR):=Zb (by decide +kernel)
theorem sc_law_kids_counted:Qv ["shelf", "pages", "many", "page", "kid"] ["shelf"] (Qp Yg):=Zb (by decide +kernel)
theorem xl:Qv ["self", "shelf", "deed"] ["self", "shelf", "deed"] (Qp qt):=Zb (by decide +kernel)
theorem sc_law_straight:Qv ["shelf", "number", "key", "worth", "deep", "walk", "k", "row"] ["shelf", "number", "key", "worth", "deep"] (Qp qT):=Zb (by decide +kernel)
theorem sc_law_all_straight:Qv ["shelf", "deep", "number", "page", "key", "worth"] ["shelf"] (Qp Yf):=Zb (by decide +kernel)
theorem sc_law_pick:Qv ["cell", "prime", "many", "low"] ["cell", "prime", "many"] (Qp Vi):=Zb (by decide +kernel)
theorem Ky:Qv ["cell"] ["cell"] (Qp xL):=Zb (by decide +kernel)
theorem sc_law_key:Qv ["cell", "way"] ["cell"] (Qp Uo):=Zb (by decide +kernel)
theorem sc_law_deed:Qv ["cell", "kind", "key", "low", "near", "far"] ["cell"] (Qp Vg):=Zb (by decide +kernel)
theorem sc_law_done:Qv ["shelf", "deed", "walk", "k"] ["shelf", "deed"] (Qp Vh):=Zb (by decide +kernel)
theorem jG:Qv ["self", "room"] ["self", "room"] (Qp YO):=Zb (by decide +kernel)
theorem sc_law_begun:Qv ["cell", "table", "shelf", "many", "k", "key"] ["cell", "table"] (Qp xK):=Zb (by decide +kernel)
theorem Vq:Qv ["script", "k"] ["script", "k"] (Qp zG):=Zb (by decide +kernel)
theorem sc_law:Qv ["script", "first", "shelf", "walks", "cell", "hand", "k"] ["script"] (Qp xJ):=Zb (by decide +kernel)
section
variable {P:Program} {w:World} {K:PySem.W.Frag} {mg:Str -> Option Value} {base:Heap} (Z:Al K mg)
include Z
theorem JY:X5 P w K mg base "Shelf" "pages" 1 1 Zx:=hM Z.u0 Vn fun _ _ _ _ _ _ _ hr=>Qq (Qz (Xg zN Z.z0 PySem.boot_len (Qb (QF Z.k0 (Qa 0)) Qk)))
theorem zm:X5 P w K mg base "Walk" "read_pairs" 1 3 J6:=hM Z.u1 sc_Walk_read_pairs fun _ _ _ _ _ _ _ hr=>let ⟨_,g_SIDE⟩:=Z.g0.ex;let ⟨_,g_HIGH⟩:=Z.g1.ex;let ⟨_,g_KEYS⟩:=Z.g2.ex;let ⟨_,g_PARTS⟩:=Z.g3.ex;Qh (QN 3 sc_Walk_read_pairs.nd (QZ (Zf hr) (QF Z.k5 (Qa 0)) Qo)) (Qh (QN 4 sc_Walk_read_pairs.nd (QZ (Zf hr) (QF Z.k5 (Qa 0)) Qo)) (Qh (qG 5 sc_Walk_read_pairs.nd (caps:=["low", "high"]) (idx:=[3,4]) ⟨by with_unfolding_all rfl,by decide +kernel,rfl,by decide +kernel,rfl,(by exact ⟨rfl,⟨rfl,trivial⟩⟩),by with_unfolding_all rfl,(by exact ⟨rfl,.inl rfl,⟨_,rfl⟩,(fun h=>NameKind.noConfusion (Option.some.inj (show some NameKind.cell = some NameKind.local from h))),⟨rfl,.inl rfl,⟨_,rfl⟩,(fun h=>NameKind.noConfusion (Option.some.inj (show some NameKind.cell = some NameKind.local from h))),trivial⟩⟩),by decide⟩ rfl (V7 (QbQ (by rfl) (by exact Z.z2) (QZ (Zf hr) (Qa 2) (QY rfl g_KEYS)) (QZ (Zf hr) (Qa 2) (QY rfl g_PARTS)))) (fun _ _ _ _=>yj (K4 QdU Gw (Qa 1) (QZ (Zf hr) (Qa 0) Qo) (Qa 2))) (fun _ _ _ _=>Qa 0)) (Qh (JW (vd QaF PySem.F.plainAttrs_list PySem.F.slot_list_extend PySem.F.type_list_extend (QF Z.k4 (Qa 0)) (Qb (Qa 5) Qk))) (Qh (Z2 (DW.pt (uw (Zp QaR (QZ (Zf hr) (Qa 2) (QY rfl g_HIGH)) Jm (Q4 _)) (UY (Zp Qe3 (QZ (Zf hr) (Qa 2) (QY rfl g_HIGH)) (Qa 4) (Q4 _))))) (Qh (Zj Z.k3 (Qa 0) YI) (Qq (Qz (Zt (Qb Je (Qb (Qa 1) (Qb (kY KS Z.z1 boot_tuple (Qb (Qa 5) Qk)) (Qb Jm (Qb Jm Qk))))))))) Q1) (Qh (Zj Z.k1 (Qa 0) (QZ (Zf hr) (Qa 2) (QY rfl g_HIGH))) (Qh (Zj Z.k2 (Qa 0) (QZ (Zf hr) (Qa 2) (QY rfl g_SIDE))) (Qq (Qz (Zt (Qb Je (Qb (Qa 1) (Qb (kY KS Z.z1 boot_tuple (Qb (Qa 5) Qk)) (Qb (QF Z.k2 (Qa 0)) (Qb (QF Z.k1 (Qa 0)) Qk))))))))))))))
theorem Jp:X5 P w K mg base "Shelf" "check_number" 1 2 Zl:=hM Z.u2 qy fun _ _ _ _ _ _ _ hr=>Qq (Z2 (jZ (K4 QdU Gw Qo (Qa 1) (Xg zN Z.z0 PySem.boot_len (Qb (QF Z.k0 (Qa 0)) Qk)))) (Qq QbR) Q1)
theorem XJ:X5 P w K mg base "Shelf" "write" 2 3 Jt:=hM Z.u3 Vo fun _ _ _ _ _ _ _ hr=>Qh (JW (Zo (Jp Z) hr (by decide) Qx (Qa 0) (Qb (Qa 1) Qk))) (Qh (jY Z.k6 (Qa 0) Qo) (Qq (yI (Qa 2) (yG (Zf hr) (QF Z.k0 (Qa 0)) (Qa 1)))))
theorem jn:Has P w K mg base "refilled" 1 3 YY:=hf Z.u4 GH fun _ _ _ _ _ _ _ hr=>let ⟨_,g_SIDE⟩:=Z.g0.ex;let ⟨_,g_HIGH⟩:=Z.g1.ex;let ⟨_,g_LEVEL⟩:=Z.g4.ex;Qq (Qz (Zt (Qb (Jw (Qa 0) (QY rfl g_LEVEL)) (Qb (Qa 1) (Qb (Qa 2) (Qb (Jw (Qa 0) (QY rfl g_HIGH)) (Qb (Jw (Qa 0) (QY rfl g_SIDE)) Qk)))))))
theorem Jb:Has P w K mg base "count_not_above" 1 2 Zr:=hf Z.u5 zV fun _ _ _ _ _ _ _ hr=>Qq (Qz (Xg zN Z.z0 PySem.boot_len (Qb (yD (caps:=["key"]) (idx:=[1]) ⟨by with_unfolding_all rfl,by decide +kernel,rfl,by decide +kernel,rfl,(by exact ⟨rfl,trivial⟩),by with_unfolding_all rfl,(by exact ⟨rfl,.inl rfl,⟨_,rfl⟩,(fun h=>NameKind.noConfusion (Option.some.inj (show some NameKind.cell = some NameKind.local from h))),trivial⟩),by decide⟩ rfl (V7 (vg (Qa 0))) (fun _ _ _ _=>yj (Zp QdU (Qa 0) (Qa 1) (Q4 _))) (fun _ _ _ _=>Qa 0)) Qk)))
theorem qp:Has P w K mg base "count_below" 1 2 Xk:=hf Z.u6 Vp fun _ _ _ _ _ _ _ hr=>Qq (Qz (Xg zN Z.z0 PySem.boot_len (Qb (yD (caps:=["key"]) (idx:=[1]) ⟨by with_unfolding_all rfl,by decide +kernel,rfl,by decide +kernel,rfl,(by exact ⟨rfl,trivial⟩),by with_unfolding_all rfl,(by exact ⟨rfl,.inl rfl,⟨_,rfl⟩,(fun h=>NameKind.noConfusion (Option.some.inj (show some NameKind.cell = some NameKind.local from h))),trivial⟩),by decide⟩ rfl (V7 (vg (Qa 0))) (fun _ _ _ _=>yj (Zp Gw (Qa 0) (Qa 1) (Q4 _))) (fun _ _ _ _=>Qa 0)) Qk)))
theorem jo:Has P w K mg base "with_run" 2 4 Y1:=hf Z.u7 sc_with_run fun _ _ _ _ _ _ _ hr=>let ⟨_,g_PARTS⟩:=Z.g3.ex;let ⟨_,g_KEYS⟩:=Z.g2.ex;Qh (QN 4 sc_with_run.nd (Jw (Qa 0) (QY rfl g_KEYS))) (Qh (QN 5 sc_with_run.nd (Jw (Qa 0) (QY rfl g_PARTS))) (Qh (QN 6 sc_with_run.nd (QC (qp Z) hr (by decide) Qx (Qb (Qa 4) (Qb (Qa 1) Qk)))) (Qh (QN 7 sc_with_run.nd (QC (Jb Z) hr (by decide) Qx (Qb (Qa 4) (Qb (Qa 1) Qk)))) (Qq (Qz (QC (jn Z) hr (by decide) Qx (Qb (Qa 0) (Qb (Qy Z8 (Qy Z8 (YJ (Qa 4) JL (JM (Qa 6))) (Qa 2)) (YJ (Qa 4) (JM (Qa 7)) JL)) (Qb (Qy Z8 (Qy Z8 (YJ (Qa 5) JL (JM (Qa 6))) (Qa 3)) (YJ (Qa 5) (JM (Qa 7)) JL)) Qk)))))))))
theorem Gg:Has P w K mg base "without" 3 2 jP:=hf Z.u8 vT fun _ _ _ _ _ _ _ hr=>Qq (Qz (QC (jo Z) hr (by decide) Qx (Qb (Qa 0) (Qb (Qa 1) (Qb (Zt Qk) (Qb (Zt Qk) Qk))))))
theorem qe:Has P w K mg base "worth_of" 2 2 J1:=hf Z.u9 sc_worth_of fun _ _ _ _ _ _ _ hr=>let ⟨_,g_PARTS⟩:=Z.g3.ex;let ⟨_,g_KEYS⟩:=Z.g2.ex;Qh (QN 2 sc_worth_of.nd (Jw (Qa 0) (QY rfl g_KEYS))) (Qh (QN 3 sc_worth_of.nd (QC (qp Z) hr (by decide) Qx (Qb (Qa 2) (Qb (Qa 1) Qk)))) (Qh (Z2 (Zp (Qcd hr.units) (Qa 3) (QC (Jb Z) hr (by decide) Qx (Qb (Qa 2) (Qb (Qa 1) Qk))) (Q4 _)) (Qq (Qz Jm)) Q1) (Qq (Qz (Jw (Jw (Qa 0) (QY rfl g_PARTS)) (Qa 3))))))
theorem j8:X5 P w K mg base "Walk" "cut_key" 4 3 X1:=hM Z.u10 yd fun _ _ _ _ _ _ _ hr=>Qh (Zj Z.k7 (Qa 0) (QC (qe Z) hr (by decide) Qx (Qb (Qa 2) (Qb (QF Z.k1 (Qa 0)) Qk)))) (Qh (Z2 (Zp QaS (QF Z.k7 (Qa 0)) Jm (Q4 _)) (Qq (JW (Zo (XJ Z) hr (by decide) Qx (QF Z.k8 (Qa 0)) (Qb (Qa 1) (Qb (QC (Gg Z) hr (by decide) Qx (Qb (Qa 2) (Qb (QF Z.k1 (Qa 0)) Qk))) Qk))))) Q1) (Qh (Zj Z.k3 (Qa 0) YI) (Qq (Qz (Zt (Qb Je (Qb (Qa 1) (Qb (QF Z.k7 (Qa 0)) Qk))))))))
theorem zy:X5 P w K mg base "Shelf" "lay" 1 2 Xq:=hM Z.u11 Kw fun _ _ _ _ _ _ _ hr=>Qh (jY Z.k6 (Qa 0) Qo) (Qh (JW (vd QaE PySem.F.plainAttrs_list PySem.F.slot_list_append PySem.F.type_list_append (QF Z.k0 (Qa 0)) (Qb (Qa 1) Qk))) (Qq (Qz (Qy xE (Xg zN Z.z0 PySem.boot_len (Qb (QF Z.k0 (Qa 0)) Qk)) Qo))))
theorem vo:Has P w K mg base "parted" 1 2 zW:=hf Z.u12 sc_parted fun _ _ _ _ _ _ _ hr=>let ⟨_,g_SIDE⟩:=Z.g0.ex;let ⟨_,g_HIGH⟩:=Z.g1.ex;let ⟨_,g_PARTS⟩:=Z.g3.ex;let ⟨_,g_KEYS⟩:=Z.g2.ex;let ⟨_,g_LEVEL⟩:=Z.g4.ex;Qh (QN 2 sc_parted.nd (Jw (Qa 0) (QY rfl g_LEVEL))) (Qh (QN 3 sc_parted.nd (Jw (Qa 0) (QY rfl g_KEYS))) (Qh (QN 4 sc_parted.nd (Jw (Qa 0) (QY rfl g_PARTS))) (Qh (QN 5 sc_parted.nd (Qy Qc9 (Xg ub Z.z0 PySem.boot_len (Qb (Qa 3) Qk)) Qo)) (Qh (QN 6 sc_parted.nd (Jw (Qa 3) (Qa 5))) (Qh (QN 7 sc_parted.nd (Qc2 (Zp (Qcd hr.units) (Qa 2) Qo (Q4 _)) (Qa 5) (Qy Z8 (Qa 5) Qo))) (Qh (QN 8 sc_parted.nd (Zt (Qb (Qa 2) (Qb (YJ (Qa 3) JL (JM (Qa 5))) (Qb (YJ (Qa 4) JL (JM (Qa 7))) (Qb (Qa 6) (Qb (Qa 1) Qk))))))) (Qh (QN 9 sc_parted.nd (Zt (Qb (Qa 2) (Qb (YJ (Qa 3) (JM (Qa 7)) JL) (Qb (YJ (Qa 4) (JM (Qa 7)) JL) (Qb (Jw (Qa 0) (QY rfl g_HIGH)) (Qb (Jw (Qa 0) (QY rfl g_SIDE)) Qk))))))) (Qq (Qz (Zt (Qb (Qa 8) (Qb (Qa 9) (Qb (Qa 6) Qk)))))))))))))
theorem yM:X5 P w K mg base "Shelf" "room" 1 1 Jk:=hM Z.u13 VT fun _ _ _ _ _ _ _ hr=>Qq (Qz (QF Z.k9 (Qa 0)))
theorem Gd:Has P w K mg base "is_full" 1 2 XX:=hf Z.u14 vR fun _ _ _ _ _ _ _ hr=>let ⟨_,g_KEYS⟩:=Z.g2.ex;Qq (Qz (jV Qce (Xg ub Z.z0 PySem.boot_len (Qb (Jw (Qa 0) (QY rfl g_KEYS)) Qk)) (Qa 1) (Q4 _)))
theorem qo:X5 P w K mg base "Walk" "settle" 3 3 Xj:=hM Z.u15 sc_Walk_settle fun _ _ _ _ _ _ _ hr=>let ⟨_,g_LEVEL⟩:=Z.g4.ex;Qh (Z2 (jZ (qI (QC (Gd Z) hr (by decide) Qx (Qb (Qa 2) (Qb (ZB (yM Z) hr (by decide) Qx (QF Z.k8 (Qa 0))) Qk))))) (Qh (JW (Zo (XJ Z) hr (by decide) Qx (QF Z.k8 (Qa 0)) (Qb (Qa 1) (Qb (Qa 2) Qk)))) (Qh (Zj Z.k3 (Qa 0) YI) (Qq (Qz Jm)))) Q1) (Qh (QN 3 sc_Walk_settle.nd (QC (vo Z) hr (by decide) Qx (Qb (Qa 2) (Qb (ZB (JY Z) hr (by decide) Qx (QF Z.k8 (Qa 0))) Qk)))) (Qh (Zj Z.k10 (Qa 0) (Zo (zy Z) hr (by decide) Qx (QF Z.k8 (Qa 0)) (Qb (QZ (Zf hr) (Qa 3) Qo) Qk))) (Qh (JW (Zo (XJ Z) hr (by decide) Qx (QF Z.k8 (Qa 0)) (Qb (Qa 1) (Qb (QZ (Zf hr) (Qa 3) Qo) Qk)))) (Qh (Zj Z.k1 (Qa 0) (QZ (Zf hr) (Qa 3) Qo)) (Qh (Zj Z.k12 (Qa 0) (Qy Z8 (QZ (Zf hr) (Qa 2) (QY rfl g_LEVEL)) Qo)) (Qh (Zj Z.k2 (Qa 0) (vd (QdH (Zf hr)) PySem.F.plainAttrs_dict PySem.F.slot_dict_get PySem.F.type_dict_get (QF Z.k11 (Qa 0)) (Qb (QF Z.k12 (Qa 0)) Qk))) (Qq (Qz (QF Z.k10 (Qa 0))))))))))
theorem VO:Has P w K mg base "with_pair" 3 3 qB:=hf Z.u16 Kz fun _ _ _ _ _ _ _ hr=>Qq (Qz (QC (jo Z) hr (by decide) Qx (Qb (Qa 0) (Qb (Qa 1) (Qb (Zt (Qb (Qa 1) Qk)) (Qb (Zt (Qb (Qa 2) Qk)) Qk))))))
theorem jm:X5 P w K mg base "Walk" "put_pair" 4 3 XG:=hM Z.u17 sc_Walk_put_pair fun _ _ _ _ _ _ _ hr=>Qh (Zj Z.k7 (Qa 0) (QC (qe Z) hr (by decide) Qx (Qb (Qa 2) (Qb (QF Z.k1 (Qa 0)) Qk)))) (Qh (QN 3 sc_Walk_put_pair.nd (Zo (qo Z) hr (by decide) Qx (Qa 0) (Qb (Qa 1) (Qb (QC (VO Z) hr (by decide) Qx (Qb (Qa 2) (Qb (QF Z.k1 (Qa 0)) (Qb (QZ (Zf hr) (QF Z.k5 (Qa 0)) Qo) Qk)))) Qk)))) (Qq (Qz (Zt (Qb Je (Qb (Qa 1) (Qb (QF Z.k7 (Qa 0)) (Qb (Qa 3) Qk))))))))
theorem zk:X5 P w K mg base "Walk" "find_worth" 3 3 J5:=hM Z.u18 zU fun _ _ _ _ _ _ _ hr=>Qh (Zj Z.k7 (Qa 0) (QC (qe Z) hr (by decide) Qx (Qb (Qa 2) (Qb (QF Z.k1 (Qa 0)) Qk)))) (Qh (Zj Z.k3 (Qa 0) YI) (Qq (Qz (Zt (Qb Je (Qb (Qa 1) (Qb (QF Z.k7 (Qa 0)) Qk)))))))
theorem j9:X5 P w K mg base "Walk" "do_deed" 5 3 X2:=hM Z.u19 sc_Walk_do_deed fun _ _ _ _ _ _ _ hr=>Qh (QN 3 sc_Walk_do_deed.nd (QZ (Zf hr) (QF Z.k5 (Qa 0)) Qo)) (Qh (Z2 (Zp (y9 hr.units) (Qa 3) Je (Q4 _)) (Qq (Qz (Zo (zk Z) hr (by decide) Qx (Qa 0) (Qb (Qa 1) (Qb (Qa 2) Qk))))) Q1) (Qh (Z2 (Zp (y9 hr.units) (Qa 3) Je (Q4 _)) (Qq (Qz (Zo (jm Z) hr (by decide) Qx (Qa 0) (Qb (Qa 1) (Qb (Qa 2) Qk))))) Q1) (Qh (Z2 (Zp (y9 hr.units) (Qa 3) Je (Q4 _)) (Qq (Qz (Zo (j8 Z) hr (by decide) Qx (Qa 0) (Qb (Qa 1) (Qb (Qa 2) Qk))))) Q1) (Qq (Qz (Zo (zm Z) hr (by decide) Qx (Qa 0) (Qb (Qa 1) (Qb (Qa 2) Qk))))))))
theorem U4:Has P w K mg base "with_kid" 2 3 YZ:=hf Z.u20 sc_with_kid fun _ _ _ _ _ _ _ hr=>let ⟨_,g_PARTS⟩:=Z.g3.ex;let ⟨_,g_KEYS⟩:=Z.g2.ex;Qh (QN 3 sc_with_kid.nd (Jw (Qa 0) (QY rfl g_KEYS))) (Qh (QN 4 sc_with_kid.nd (Jw (Qa 0) (QY rfl g_PARTS))) (Qh (QN 5 sc_with_kid.nd (QC (Jb Z) hr (by decide) Qx (Qb (Qa 3) (Qb (Qa 1) Qk)))) (Qh (QN 6 sc_with_kid.nd (Qy Z8 (Qa 5) Qo)) (Qq (Qz (QC (jn Z) hr (by decide) Qx (Qb (Qa 0) (Qb (Qy Z8 (Qy Z8 (YJ (Qa 3) JL (JM (Qa 5))) (Zt (Qb (Qa 1) Qk))) (YJ (Qa 3) (JM (Qa 5)) JL)) (Qb (Qy Z8 (Qy Z8 (YJ (Qa 4) JL (JM (Qa 6))) (Zt (Qb (Qa 2) Qk))) (YJ (Qa 4) (JM (Qa 6)) JL)) Qk)))))))))
theorem zQ:X5 P w K mg base "Walk" "tell_fork" 4 3 Xf:=hM Z.u21 sc_Walk_tell_fork fun _ _ _ _ _ _ _ hr=>Qh (QN 3 sc_Walk_tell_fork.nd (Zo (qo Z) hr (by decide) Qx (Qa 0) (Qb (Qa 1) (Qb (QC (U4 Z) hr (by decide) Qx (Qb (Qa 2) (Qb (QF Z.k1 (Qa 0)) (Qb (QF Z.k10 (Qa 0)) Qk)))) Qk)))) (Qq (Qz (Zt (Qb Je (Qb (Qa 1) (Qb (Qa 3) Qk))))))
theorem qL:X5 P w K mg base "Walk" "go_on" 1 4 JG:=hM Z.u22 VV fun _ _ _ _ _ _ _ hr=>Qh (Zj Z.k2 (Qa 0) (Qa 3)) (Qq (Qz (Zt (Qb (Qa 1) (Qb (Qa 2) (Qb (Qa 3) Qk))))))
theorem Ge:Has P w K mg base "kid_for" 2 2 YE:=hf Z.u23 vS fun _ _ _ _ _ _ _ hr=>let ⟨_,g_PARTS⟩:=Z.g3.ex;let ⟨_,g_KEYS⟩:=Z.g2.ex;Qq (Qz (Jw (Jw (Qa 0) (QY rfl g_PARTS)) (QC (Jb Z) hr (by decide) Qx (Qb (Jw (Qa 0) (QY rfl g_KEYS)) (Qb (Qa 1) Qk)))))
theorem vn:Has P w K mg base "beyond" 1 2 YD:=hf Z.u24 sc_beyond fun _ _ _ _ _ _ _ hr=>let ⟨_,g_HIGH⟩:=Z.g1.ex;Qh (QN 2 sc_beyond.nd (Jw (Qa 0) (QY rfl g_HIGH))) (Qq (Qz (UV (jV QaS (Qa 2) Jm (Q4 _)) (ve (jV Qe3 (Qa 1) (Qa 2) (Q4 _))))))
theorem qK:X5 P w K mg base "Shelf" "raise_root" 2 3 ZP:=hM Z.u25 sc_Shelf_raise_root fun _ _ _ _ _ _ _ hr=>let ⟨_,g_LEVEL⟩:=Z.g4.ex;Qh (JW (Zo (Jp Z) hr (by decide) Qx (Qa 0) (Qb (Qa 2) Qk))) (Qh (QN 3 sc_Shelf_raise_root.nd (Qy Z8 (QZ (Zf hr) (QZ (Zf hr) (QF Z.k0 (Qa 0)) (QF Z.k13 (Qa 0))) (QY rfl g_LEVEL)) Qo)) (Qh (Zj Z.k13 (Qa 0) (Zo (zy Z) hr (by decide) Qx (Qa 0) (Qb (Zt (Qb (Qa 3) (Qb (Zt (Qb (Qa 1) Qk)) (Qb (Zt (Qb (QF Z.k13 (Qa 0)) (Qb (Qa 2) Qk))) (Qb Jm (Qb Jm Qk)))))) Qk))) (Qq (Qz (QF Z.k13 (Qa 0))))))
theorem Yy:X5 P w K mg base "Walk" "raise_root_over" 3 2 ZI:=hM Z.u26 YS fun _ _ _ _ _ _ _ hr=>Qh (Zj Z.k3 (Qa 0) YI) (Qq (Qz (Zt (Qb Je (Qb (Qa 1) (Qb (Zo (qK Z) hr (by decide) Qx (QF Z.k8 (Qa 0)) (Qb (QF Z.k1 (Qa 0)) (Qb (QF Z.k10 (Qa 0)) Qk))) Qk))))))
theorem J8:X5 P w K mg base "Shelf" "read" 2 2 Q0:=hM Z.u27 VS fun _ _ _ _ _ _ _ hr=>Qh (JW (Zo (Jp Z) hr (by decide) Qx (Qa 0) (Qb (Qa 1) Qk))) (Qh (jY Z.k14 (Qa 0) Qo) (Qq (Qz (QZ (Zf hr) (QF Z.k0 (Qa 0)) (Qa 1)))))
theorem Ya:X5 P w K mg base "Shelf" "root" 1 1 Zq:=hM Z.u28 VU fun _ _ _ _ _ _ _ hr=>Qq (Qz (QF Z.k13 (Qa 0)))
theorem JT:X5 P w K mg base "Walk" "step" 6 1 Zz:=hM Z.u29 sc_Walk_step fun _ _ _ _ _ _ _ hr=>let ⟨_,g_LEVEL⟩:=Z.g4.ex;let ⟨_,g_SIDE⟩:=Z.g0.ex;Qh (Z2 (qI (QF Z.k3 (Qa 0))) (Qq (Qz Jm)) Q1) (Qh (QN 1 sc_Walk_step.nd (Qc2 (Zp QaR (QF Z.k2 (Qa 0)) Jm (Q4 _)) (ZB (Ya Z) hr (by decide) Qx (QF Z.k8 (Qa 0))) (QF Z.k2 (Qa 0)))) (Qh (QN 2 sc_Walk_step.nd (Zo (J8 Z) hr (by decide) Qx (QF Z.k8 (Qa 0)) (Qb (Qa 1) Qk))) (Qh (Z2 (DW.pt (Qac (Zp QaR (QF Z.k2 (Qa 0)) Jm (Q4 _)) (uv (Zp Gw (QZ (Zf hr) (Qa 2) (QY rfl g_LEVEL)) (QF Z.k12 (Qa 0)) (Q4 _))))) (Qq (Qz (Zo (Yy Z) hr (by decide) Qx (Qa 0) (Qb (Qa 1) Qk)))) Q1) (Qh (Z2 (qI (QC (vn Z) hr (by decide) Qx (Qb (Qa 2) (Qb (QF Z.k1 (Qa 0)) Qk)))) (Qq (Qz (Zo (qL Z) hr (by decide) Qx (Qa 0) (Qb Je (Qb (Qa 1) (Qb (QZ (Zf hr) (Qa 2) (QY rfl g_SIDE)) Qk)))))) Q1) (Qh (Z2 (Zp Qce (QZ (Zf hr) (Qa 2) (QY rfl g_LEVEL)) (QF Z.k12 (Qa 0)) (Q4 _)) (Qh (yI (Qa 1) (yG (Zf hr) (QF Z.k11 (Qa 0)) (QZ (Zf hr) (Qa 2) (QY rfl g_LEVEL)))) (Qq (Qz (Zo (qL Z) hr (by decide) Qx (Qa 0) (Qb Je (Qb (Qa 1) (Qb (QC (Ge Z) hr (by decide) Qx (Qb (Qa 2) (Qb (QF Z.k1 (Qa 0)) Qk))) Qk))))))) Q1) (Qh (Z2 (Zp Qce (QF Z.k12 (Qa 0)) Qo (Q4 _)) (Qq (Qz (Zo (zQ Z) hr (by decide) Qx (Qa 0) (Qb (Qa 1) (Qb (Qa 2) Qk))))) Q1) (Qq (Qz (Zo (j9 Z) hr (by decide) Qx (Qa 0) (Qb (Qa 1) (Qb (Qa 2) Qk)))))))))))
theorem Xn:X5 P w K mg base "Walk" "over" 1 1 ZY:=hM Z.u30 Kx fun _ _ _ _ _ _ _ hr=>Qq (Qz (QF Z.k3 (Qa 0)))
theorem zR:Has P w K mg base "_law_to_the_end" 7 2 JH:=hf Z.u31 sc_law_to_the_end fun _ _ _ _ _ _ _ hr=>Qh (qH PassesOwn.never rfl (JK rfl Z.z3 (Qb (Qy Z8 (Qy jw Qo (ZB (JY Z) hr (by decide) Qx (Qa 0))) Qo) Qk)) (Xm 2 sc_law_to_the_end.nd) (Qh (qG 3 sc_law_to_the_end.nd (caps:=[]) (idx:=[]) ⟨by with_unfolding_all rfl,by decide +kernel,rfl,by decide +kernel,rfl,(by exact trivial),by with_unfolding_all rfl,(by exact trivial),by decide⟩ rfl (jg (Qa 1)) (fun _ _ _ _=>yj (DW.pt (Qac (Zp QaS (Qa 0) Jm (Q4 _)) (uv (jZ (qI (ZB (Xn Z) hr (by decide) Qx (Qa 0)))))))) (fun _ _ _ _=>Qa 0)) (Qh (Z2 (Zp (Qe2 hr.units) (Qa 3) (vc Qk) (Q4 _)) (Qq (Qz YI)) Q1) (Qq (UX PassesOwn.never rfl (jg (Qa 3)) (Xm 4 sc_law_to_the_end.nd) (Qq (JW (ZB (JT Z) hr (by decide) Qx (Qa 4))))))))) (Qq (Qz YI))
theorem Xy:Has P w K mg base "_law_kids_counted" 3 1 Zv:=hf Z.u32 sc_law_kids_counted fun _ _ _ _ _ _ _ hr=>Qh (qG 1 sc_law_kids_counted.nd (caps:=["shelf"]) (idx:=[0]) ⟨by with_unfolding_all rfl,by decide +kernel,rfl,by decide +kernel,rfl,(by exact ⟨rfl,trivial⟩),by with_unfolding_all rfl,(by exact ⟨rfl,.inl rfl,⟨_,rfl⟩,(fun h=>NameKind.noConfusion (Option.some.inj (show some NameKind.cell = some NameKind.local from h))),trivial⟩),by decide⟩ rfl (V7 (JK rfl Z.z3 (Qb (ZB (JY Z) hr (by decide) Qx (Qa 0)) Qk))) (fun _ _ _ _=>yi) (fun _ _ _ _=>Zo (J8 Z) hr (by decide) Qx (Qa 1) (Qb (Qa 0) Qk))) (Qh (qG 2 sc_law_kids_counted.nd (caps:=[]) (idx:=[]) ⟨by with_unfolding_all rfl,by decide +kernel,rfl,by decide +kernel,rfl,(by exact trivial),by with_unfolding_all rfl,(by exact trivial),by decide⟩ rfl (jg (Qa 1)) (fun _ _ _ _=>yi) (fun _ _ _ _=>Qo)) (Qh (UX PassesOwn.never rfl (jg (Qa 1)) (Xm 3 sc_law_kids_counted.nd) (Qq (Z2 (Zp Qce (QZ (Zf hr) (Qa 3) Qo) Qo (Q4 _)) (Qq (qH PassesOwn.never rfl (vg (QZ (Zf hr) (Qa 3) Qo)) (Xm 4 sc_law_kids_counted.nd) (Qh (yI (Qy Z8 (QZ (Zf hr) (Qa 2) (Qa 4)) Qo) (yG (Zf hr) (Qa 2) (Qa 4))) (Qq (Z2 (Zp (QaT hr.units) (QZ (Zf hr) (QZ (Zf hr) (Qa 1) (Qa 4)) Qo) (Qy xE (QZ (Zf hr) (Qa 3) Qo) Qo) (Q4 _)) (Qq (Qz YI)) Q1))))) Q1))) (Qq (Qz (jV (y9 hr.units) (Qa 2) (yD (caps:=["shelf"]) (idx:=[0]) ⟨by with_unfolding_all rfl,by decide +kernel,rfl,by decide +kernel,rfl,(by exact ⟨rfl,trivial⟩),by with_unfolding_all rfl,(by exact ⟨rfl,.inl rfl,⟨_,rfl⟩,(fun h=>NameKind.noConfusion (Option.some.inj (show some NameKind.cell = some NameKind.local from h))),trivial⟩),by decide⟩ rfl (V7 (JK rfl Z.z3 (Qb (Xg zN Z.z0 PySem.boot_len (Qb (Qa 1) Qk)) Qk))) (fun _ _ _ _=>yi) (fun _ _ _ _=>kY QeH Z.z4 boot_int (Qb (jV (QaT hr.units) (Qa 0) (ZB (Ya Z) hr (by decide) Qx (Qa 1)) (Q4 _)) Qk))) (Q4 _))))))
theorem J9:kF P w K mg base "Walk" 1 3 Zi:=hI Z.u33 xl fun _ _ _ _ _ _ _ hr=>Qh (Zj Z.k8 (Qa 0) (Qa 1)) (Qh (Zj Z.k5 (Qa 0) (Qa 2)) (Qh (Zj Z.k1 (Qa 0) (QZ (Zf hr) (Qa 2) Qo)) (Qh (Zj Z.k12 (Qa 0) Qo) (Qh (Zj Z.k2 (Qa 0) Jm) (Qh (Zj Z.k11 (Qa 0) K1) (Qh (Zj Z.k10 (Qa 0) Jm) (Qh (Zj Z.k7 (Qa 0) Jm) (Qh (Zj Z.k4 (Qa 0) (uj Qk)) (Qq (Zj Z.k3 (Qa 0) YI))))))))))
theorem xa:Has P w K mg base "_law_straight" 7 5 X4:=hf Z.u34 sc_law_straight fun _ _ _ _ _ _ _ hr=>Qh (QN 5 sc_law_straight.nd (yh (J9 Z) hr (by decide) Qx (Qb (Qa 0) (Qb (Zt (Qb Je (Qb (Qa 2) Qk))) Qk)))) (Qh (qH PassesOwn.never rfl (JK rfl Z.z3 (Qb (Qa 4) Qk)) (Xm 6 sc_law_straight.nd) (Qh (QN 7 sc_law_straight.nd (ZB (JT Z) hr (by decide) Qx (Qa 5))) (Qq (Z2 (DW.pt (uw (Zp QaR (Qa 7) Jm (Q4 _)) (UY (Zp (QaT hr.units) (QZ (Zf hr) (Qa 7) Qo) Je (Q4 _))))) (Qq (Qz YI)) Q1)))) (Qq (Qz (UV (jV (y9 hr.units) (ZB (JT Z) hr (by decide) Qx (Qa 5)) (Zt (Qb Je (Qb (Qa 1) (Qb (Qa 3) Qk)))) (Q4 _)) (ve (ZB (Xn Z) hr (by decide) Qx (Qa 5)))))))
theorem Xx:Has P w K mg base "_law_all_straight" 8 1 Zu:=hf Z.u35 sc_law_all_straight fun _ _ _ _ _ _ _ hr=>Qh (QN 1 sc_law_all_straight.nd (QZ (Zf hr) (Zo (J8 Z) hr (by decide) Qx (Qa 0) (Qb (ZB (Ya Z) hr (by decide) Qx (Qa 0)) Qk)) Qo)) (Qh (qH PassesOwn.never rfl (JK rfl Z.z3 (Qb (ZB (JY Z) hr (by decide) Qx (Qa 0)) Qk)) (Xm 2 sc_law_all_straight.nd) (Qh (QN 3 sc_law_all_straight.nd (Zo (J8 Z) hr (by decide) Qx (Qa 0) (Qb (Qa 2) Qk))) (Qq (Z2 (Zp (y9 hr.units) (QZ (Zf hr) (Qa 3) Qo) Qo (Q4 _)) (Qq (qH PassesOwn.never rfl (Qdr (by rfl) (by exact Z.z2) (QZ (Zf hr) (Qa 3) Qo) (QZ (Zf hr) (Qa 3) Qo)) (Qdq [4,5] sc_law_all_straight.nd (by repeat' (first | exact trivial | refine ⟨rfl,(by first | exact .inl rfl | exact .inr rfl),.inl rfl,?_⟩)) rfl (fun _ _ _=>rfl)) (Qq (Z2 (jZ (qI (QC (xa Z) hr (by decide) Qx (Qb (Qa 0) (Qb (Qa 2) (Qb (Qa 4) (Qb (Qa 5) (Qb (Qa 1) Qk)))))))) (Qq (Qz YI)) Q1)))) Q1)))) (Qq (Qz YI)))
theorem QV:Has P w K mg base "_law_pick" 1 3 Qu:=hf Z.u36 sc_law_pick fun _ _ _ _ _ _ _ hr=>Qh (QN 3 sc_law_pick.nd (Qy xD (Qy Z8 (Qa 0) (Qy Qc9 (Qa 1) Qo)) (Qa 1))) (Qq (Qz (Qy xD (Qy xD (Qy jw (Qy xD (Qy jw (Qa 3) (Qa 3)) (Qa 1)) (Qa 3)) (Qa 1)) (Qa 2))))
theorem VN:Has P w K mg base "_law_worth" 2 1 qA:=hf Z.u37 Ky fun _ _ _ _ _ _ _ hr=>Qh (Z2 (Zp (Qcd hr.units) (QC (QV Z) hr (by decide) Qx (Qb (Qa 0) (Qb Qo (Qb Qo Qk)))) Qo (Q4 _)) (Qq (Qz (Qy xE (Qy xD (Qy Z8 (Qy jw (Qy xD (Qa 0) (Qy zB Qo Qo)) Qo) Qo) (Qy Z8 (Qy jw Qo (Qy zB Qo Qo)) Qo)) (Qy zB Qo Qo)))) Q1) (Qq (Qz (Qy xE (QC (QV Z) hr (by decide) Qx (Qb (Qa 0) (Qb Qo (Qb Qo Qk)))) Qo)))
theorem Gf:Has P w K mg base "_law_key" 2 1 YF:=hf Z.u38 sc_law_key fun _ _ _ _ _ _ _ hr=>Qh (QN 1 sc_law_key.nd (QC (QV Z) hr (by decide) Qx (Qb (Qa 0) (Qb Qo (Qb Qo Qk))))) (Qh (Z2 (Zp (Qcd hr.units) (Qa 1) Qo (Q4 _)) (Qq (Qz (Qy xE (Qy xD (Qy Z8 (Qy jw (Qy xD (Qa 0) (Qy zB Qo Qo)) Qo) Qo) (Qy Z8 (Qy jw Qo (Qy zB Qo Qo)) Qo)) (Qy zB Qo Qo)))) Q1) (Qq (Qz (Qy xE (QC (QV Z) hr (by decide) Qx (Qb (Qa 0) (Qb Qo (Qb (Jw (vc (Qb Qo (Qb Qo (Qb Qo (Qb Qo (Qb Qo Qk)))))) (Qa 1)) Qk)))) Qo))))
theorem U2:Has P w K mg base "_law_deed" 3 1 X3:=hf Z.u39 sc_law_deed fun _ _ _ _ _ _ _ hr=>Qh (QN 1 sc_law_deed.nd (QC (QV Z) hr (by decide) Qx (Qb (Qa 0) (Qb Qo (Qb Qo Qk))))) (Qh (QN 2 sc_law_deed.nd (QC (Gf Z) hr (by decide) Qx (Qb (Qa 0) Qk))) (Qh (Z2 (Zp Gw (Qa 1) Qo (Q4 _)) (Qq (Qz (Zt (Qb Je (Qb (Qa 2) (Qb (QC (VN Z) hr (by decide) Qx (Qb (Qa 0) Qk)) Qk)))))) Q1) (Qh (Z2 (Zp Gw (Qa 1) Qo (Q4 _)) (Qq (Qz (Zt (Qb Je (Qb (Qa 2) Qk))))) Q1) (Qh (Z2 (Zp Gw (Qa 1) Qo (Q4 _)) (Qq (Qz (Zt (Qb Je (Qb (Qa 2) Qk))))) Q1) (Qh (QN 3 sc_law_deed.nd (Xg (kR rfl) Z.z5 boot_min (Qb (Qa 2) (Qb (Qy xE (Qy zB Qo Qo) Qo) Qk)))) (Qh (QN 4 sc_law_deed.nd (Xg (kR rfl) Z.z5 boot_min (Qb (Qy zB Qo Qo) (Qb (Qy Z8 (Qy Z8 (Qa 3) Qo) (QC (QV Z) hr (by decide) Qx (Qb (Qa 0) (Qb Qo (Qb Qo Qk))))) Qk)))) (Qh (QN 5 sc_law_deed.nd (Xg (kR rfl) Z.z5 boot_min (Qb (Qy zB Qo Qo) (Qb (Qy Z8 (Qy Z8 (Qa 3) Qo) (QC (QV Z) hr (by decide) Qx (Qb (Qa 0) (Qb Qo (Qb Qo Qk))))) Qk)))) (Qq (Qz (Zt (Qb Je (Qb (Qa 3) (Qb (Jw (vc (Qb (Qy Z8 (Qa 3) Qo) (Qb (Qa 4) (Qb (Qa 5) (Qb (Qy zB Qo Qo) Qk))))) (QC (QV Z) hr (by decide) Qx (Qb (Qa 0) (Qb Qo (Qb Qo Qk))))) Qk)))))))))))))
theorem U3:Has P w K mg base "_law_done" 7 2 YX:=hf Z.u40 sc_law_done fun _ _ _ _ _ _ _ hr=>Qh (QN 2 sc_law_done.nd (yh (J9 Z) hr (by decide) Qx (Qb (Qa 0) (Qb (Qa 1) Qk)))) (Qh (qH PassesOwn.never rfl (JK rfl Z.z3 (Qb Qo Qk)) (Xm 3 sc_law_done.nd) (Qh (Z2 (qI (ZB (Xn Z) hr (by decide) Qx (Qa 2))) (Qq (Qz (Qa 2))) Q1) (Qq (JW (ZB (JT Z) hr (by decide) Qx (Qa 2)))))) (Qq (Qz (Qa 2))))
theorem zP:kF P w K mg base "Shelf" 1 2 ZO:=hI Z.u41 jG fun _ _ _ _ _ _ _ hr=>let ⟨_,g_EMPTY_LEAF,q_EMPTY_LEAF⟩:=Z.t0.ex;Qh (Zj Z.k9 (Qa 0) (Qa 1)) (Qh (Zj Z.k0 (Qa 0) (uj (Qb (QbO rfl g_EMPTY_LEAF q_EMPTY_LEAF) Qk))) (Qh (Zj Z.k13 (Qa 0) Qo) (Qh (Zj Z.k14 (Qa 0) Qo) (Qq (Zj Z.k6 (Qa 0) Qo)))))
theorem VM:Has P w K mg base "_law_begun" 8 2 Yj:=hf Z.u42 sc_law_begun fun _ _ _ _ _ _ _ hr=>Qh (QN 2 sc_law_begun.nd (yh (zP Z) hr (by decide) Qx (Qb (Qy Z8 Qo (Qy jw (QC (QV Z) hr (by decide) Qx (Qb (Qa 0) (Qb Qo (Qb Qo Qk)))) (QC (QV Z) hr (by decide) Qx (Qb (Qa 0) (Qb Qo (Qb Qo Qk)))))) Qk))) (Qh (QN 3 sc_law_begun.nd (QC (QV Z) hr (by decide) Qx (Qb (Qa 0) (Qb Qo (Qb Qo Qk))))) (Qh (Z2 (Zp (y9 hr.units) (QC (QV Z) hr (by decide) Qx (Qb (Qa 0) (Qb Qo (Qb Qo Qk)))) Qo (Q4 _)) (Qq (QN 3 sc_law_begun.nd Qo)) Q1) (Qh (qH PassesOwn.never rfl (JK rfl Z.z3 (Qb (Qa 3) Qk)) (Xm 4 sc_law_begun.nd) (Qh (QN 5 sc_law_begun.nd (Qy xE (QC (QV Z) hr (by decide) Qx (Qb (Qy Z8 (Qa 0) (Qy jw Qo (Qa 4))) (Qb Qo (Qb Qo Qk)))) Qo)) (Qh (JW (QC (U3 Z) hr (by decide) Qx (Qb (Qa 2) (Qb (Zt (Qb Je (Qb (Qa 5) (Qb (Qa 4) Qk)))) Qk)))) (Qq (yI (Qa 4) (yG (Zf hr) (Qa 1) (Qa 5))))))) (Qq (Qz (Qa 2))))))
theorem x6:Has P w K mg base "_law_cell_at" 1 2 Ju:=hf Z.u43 Vq fun _ _ _ _ _ _ _ hr=>Qh (Z2 (Zp Gw (Qa 1) (Xg ub Z.z0 PySem.boot_len (Qb (Qa 0) Qk)) (Q4 _)) (Qq (Qz (Jw (Qa 0) (Qa 1)))) Q1) (Qq (Qz Qo))
theorem law_fn {g:Addr} {fd:FuncData} (F:Fun K "law" "law" xJ g fd):qC P w K mg base CX0 9 g fd ["script"] (spD K 1 KM):=QeO F sc_law fun _ _ _ _ _ _ hr=>Qh (QN 1 sc_law.nd (QC (x6 Z) hr (by decide) Qx (Qb (Qa 0) (Qb Qo Qk)))) (Qh (QN 2 sc_law.nd (QC (VM Z) hr (by decide) Qx (Qb (Qa 1) (Qb K1 Qk)))) (Qh (Z2 (DW.pt (uw (jZ (qI (QC (Xy Z) hr (by decide) Qx (Qb (Qa 2) Qk)))) (UY (jZ (qI (QC (Xx Z) hr (by decide) Qx (Qb (Qa 2) Qk))))))) (Qq (Qz YI)) Q1) (Qh (qG 3 sc_law.nd (caps:=[]) (idx:=[]) ⟨by with_unfolding_all rfl,by decide +kernel,rfl,by decide +kernel,rfl,(by exact trivial),by with_unfolding_all rfl,(by exact trivial),by decide⟩ rfl (V7 (JK rfl Z.z3 (Qb (Qy Z8 Qo (QC (QV Z) hr (by decide) Qx (Qb (Qa 1) (Qb Qo (Qb Qo Qk))))) Qk))) (fun _ _ _ _=>yi) (fun _ _ _ _=>Jm)) (Qh (UX PassesOwn.never rfl (jg (YJ (Qa 0) JL (JM Qo))) (Xm 4 sc_law.nd) (Qh (QN 5 sc_law.nd (QC (QV Z) hr (by decide) Qx (Qb (Qa 4) (Qb Qo (Qb (Xg zN Z.z0 PySem.boot_len (Qb (Qa 3) Qk)) Qk))))) (Qh (Z2 (DW.pt (uw (Zp QaR (QZ (Zf hr) (Qa 3) (Qa 5)) Jm (Q4 _)) (UY (qI (ZB (Xn Z) hr (by decide) Qx (QZ (Zf hr) (Qa 3) (Qa 5))))))) (Qq (yI (yh (J9 Z) hr (by decide) Qx (Qb (Qa 2) (Qb (QC (U2 Z) hr (by decide) Qx (Qb (Qa 4) Qk)) Qk))) (yG (Zf hr) (Qa 3) (Qa 5)))) Q1) (Qq (qH PassesOwn.never rfl (JK rfl Z.z3 (Qb (Qy Z8 Qo (QC (QV Z) hr (by decide) Qx (Qb (Qa 4) (Qb Qo (Qb Qo Qk))))) Qk)) (Xm 6 sc_law.nd) (Qq (JW (ZB (JT Z) hr (by decide) Qx (QZ (Zf hr) (Qa 3) (Qa 5)))))))))) (Qq (Qz (UV (QC (zR Z) hr (by decide) Qx (Qb (Qa 2) (Qb (Qa 3) Qk))) (UV (QC (Xy Z) hr (by decide) Qx (Qb (Qa 2) Qk)) (ve (QC (Xx Z) hr (by decide) Qx (Qb (Qa 2) Qk)))))))))))
end
def _root_.PySem.W.Fast.tw4301824066768709630:Nat:=0
def _root_.PySem.W.Fast.tw3928297014386963361:Nat:=0
def _root_.PySem.W.Fast.tw5405539234830849715:Nat:=0
def _root_.PySem.W.Fast.tw10530715665767431791:Nat:=0
def _root_.PySem.W.Fast.tw9898859573489048156:Nat:=0
def _root_.PySem.W.Fast.tw17826280609196656543:Nat:=0
def _root_.PySem.W.Fast.tw7332027276049333247:Nat:=0
def _root_.PySem.W.Fast.tw11383475336838123293:Nat:=0
def _root_.PySem.W.Fast.tw3341163792333064971:Nat:=0
def _root_.PySem.W.Fast.tw9407301162840944261:Nat:=0
def _root_.PySem.W.Fast.tw7617433075045762489:Nat:=0
def _root_.PySem.W.Fast.tw5458935741378806290:Nat:=0
def _root_.PySem.W.Fast.tw18014592547798371204:Nat:=0
def _root_.PySem.W.Fast.tw5207853007478869176:Nat:=0
def _root_.PySem.W.Fast.tw4603459877579061330:Nat:=0
def _root_.PySem.W.Fast.tw12425287611235914057:Nat:=0
def _root_.PySem.W.Fast.tw7564126675207963304:Nat:=0
def _root_.PySem.W.Fast.tw14233294759733572213:Nat:=0
def _root_.PySem.W.Fast.tw17301315397171063288:Nat:=0
def _root_.PySem.W.Fast.tw7547450149566136193:Nat:=0
def _root_.PySem.W.Fast.tw5909480638219010315:Nat:=0
def _root_.PySem.W.Fast.tw9144862012730780781:Nat:=0
def _root_.PySem.W.Fast.tw12458551473041050917:Nat:=0
def _root_.PySem.W.Fast.tw6771360915073308712:Nat:=0
def _root_.PySem.W.Fast.tw16259230683417044697:Nat:=0
def _root_.PySem.W.Fast.tw15927662610698084246:Nat:=0
def _root_.PySem.W.Fast.tw10831664129572453670:Nat:=0
def _root_.PySem.W.Fast.tw6573165177703429698:Nat:=0
def _root_.PySem.W.Fast.tw3048866902233894423:Nat:=0
def _root_.PySem.W.Fast.tw16922776248400560829:Nat:=0
def _root_.PySem.W.Fast.tw12540034360008607096:Nat:=0
def _root_.PySem.W.Fast.tw10106440062534000587:Nat:=0
def _root_.PySem.W.Fast.tw522329639017283140:Nat:=0
def _root_.PySem.W.Fast.tw3572576383671622760:Nat:=0
def _root_.PySem.W.Fast.tw16788480498362798868:Nat:=0
def _root_.PySem.W.Fast.tw9928728738132428675:Nat:=0
def _root_.PySem.W.Fast.tw8429250225160648107:Nat:=0
def _root_.PySem.W.Fast.tw14739313869076189638:Nat:=0
def _root_.PySem.W.Fast.tw7740847711803050079:Nat:=0
def _root_.PySem.W.Fast.tw523084467712810807:Nat:=0
def _root_.PySem.W.Fast.tw9183559926579755707:Nat:=0
def _root_.PySem.W.Fast.tw2177898246136683133:Nat:=0
def _root_.PySem.W.Fast.tw1888123985210897367:Nat:=0
def _root_.PySem.W.Fast.tw8171055519800053755:Nat:=0
def _root_.PySem.W.Fast.tw18214507324908908753:Nat:=0
def _root_.PySem.W.Fast.tw11944595188195702798:Nat:=0
def _root_.PySem.W.Fast.tw14221569896140556775:Nat:=0
def _root_.PySem.W.Fast.tw12790105253035344264:Nat:=0
def _root_.PySem.W.Fast.tw4875732748030847603:Nat:=0
def _root_.PySem.W.Fast.tw15286560325825055360:Nat:=0
def _root_.PySem.W.Fast.tw9858413441473873073:Nat:=0
def _root_.PySem.W.Fast.tw12282712981974652214:Nat:=0
def _root_.PySem.W.Fast.tw15828628958219272556:Nat:=0
def _root_.PySem.W.Fast.tw1132915919737408721:Nat:=0
def _root_.PySem.W.Fast.tw11614860324548961492:Nat:=0
def _root_.PySem.W.Fast.tw8665541461283583421:Nat:=0
def _root_.PySem.W.Fast.tw8231921982745876074:Nat:=0
def _root_.PySem.W.Fast.tw5183767583468387653:Nat:=0
def _root_.PySem.W.Fast.tw13692325294394765760:Nat:=0
def _root_.PySem.W.Fast.tw9507769876089307713:Nat:=0
def _root_.PySem.W.Fast.tw512015199288343332:Nat:=0
def _root_.PySem.W.Fast.tw3682354400411814030:Nat:=0
def _root_.PySem.W.Fast.tw1998148713993064300:Nat:=0
def _root_.PySem.W.Fast.tw16629787478187405762:Nat:=0
def _root_.PySem.W.Fast.tw10364586780630150541:Nat:=0
def _root_.PySem.W.Fast.tw14176125170492711671:Nat:=0
def _root_.PySem.W.Fast.tw3079617580631215619:Nat:=0
def _root_.PySem.W.Fast.tw3303223552843588714:Nat:=0
def _root_.PySem.W.Fast.tw17788017632118878077:Nat:=0
def _root_.PySem.W.Fast.tw12600995751244836236:Nat:=0
def _root_.PySem.W.Fast.tw13855438492071721760:Nat:=0
def _root_.PySem.W.Fast.tw2681305659020677929:Nat:=0
def _root_.PySem.W.Fast.tw13975257617631377560:Nat:=0
def _root_.PySem.W.Fast.tw4163808683326124702:Nat:=0
def _root_.PySem.W.Fast.tw13103445496170823767:Nat:=0
def _root_.PySem.W.Fast.tw3599480930220506276:Nat:=0
def _root_.PySem.W.Fast.tw18116088667604062552:Nat:=0
def _root_.PySem.W.Fast.tw6215341630674365381:Nat:=0
def _root_.PySem.W.Fast.tw10454297562568893501:Nat:=0
def _root_.PySem.W.Fast.tw11206224719341809441:Nat:=0
def _root_.PySem.W.Fast.tw10191551166374248315:Nat:=0
def _root_.PySem.W.Fast.tw6389698830825084531:Nat:=0
def _root_.PySem.W.Fast.tw4122213190669208924:Nat:=0
def _root_.PySem.W.Fast.tw6318108268476677640:Nat:=0
def _root_.PySem.W.Fast.tw1085429423902164294:Nat:=0
def _root_.PySem.W.Fast.tw8205047459812829225:Nat:=0
def _root_.PySem.W.Fast.tw4597429729118501489:Nat:=0
def _root_.PySem.W.Fast.tw13991836096423010005:Nat:=0
def _root_.PySem.W.Fast.tw5948424460098631596:Nat:=0
def _root_.PySem.W.Fast.tw3304579787335332200:Nat:=0
def _root_.PySem.W.Fast.tw3914267539208569612:Nat:=0
def _root_.PySem.W.Fast.tw2344196809167496278:Nat:=0
def _root_.PySem.W.Fast.tw17741737126692973723:Nat:=0
def _root_.PySem.W.Fast.tw17789492270576640262:Nat:=0
def _root_.PySem.W.Fast.tw4318999514829689373:Nat:=0
def _root_.PySem.W.Fast.tw12600822558365403087:Nat:=0
def _root_.PySem.W.Fast.tw14267131286650118910:Nat:=0
def _root_.PySem.W.Fast.tw12481448384696151292:Nat:=0
def _root_.PySem.W.Fast.tw7235729129691216625:Nat:=0
def _root_.PySem.W.Fast.tw15936316258640242462:Nat:=0
def _root_.PySem.W.Fast.tw13018485337598704332:Nat:=0
def _root_.PySem.W.Fast.tw6832129356536844705:Nat:=0
def _root_.PySem.W.Fast.tw18399345612267377761:Nat:=0
def _root_.PySem.W.Fast.tw14358070911951550285:Nat:=0
def _root_.PySem.W.Fast.tw1006255229168628546:Nat:=0
def _root_.PySem.W.Fast.tw13760622574471383131:Nat:=0
def _root_.PySem.W.Fast.tw3371552369751597841:Nat:=0
def _root_.PySem.W.Fast.tw8362053321467182265:Nat:=0
def _root_.PySem.W.Fast.tw9725429261888734392:Nat:=0
def _root_.PySem.W.Fast.tw15895440644853122824:Nat:=0
def _root_.PySem.W.Fast.tw10909995578992206890:Nat:=0
def _root_.PySem.W.Fast.tw12589669571923719480:Nat:=0
def _root_.PySem.W.Fast.tw11428876919790202589:Nat:=0
def _root_.PySem.W.Fast.tw6013777329542375752:Nat:=0
def _root_.PySem.W.Fast.tw9792173311846934334:Nat:=0
def _root_.PySem.W.Fast.tw10611797285455940364:Nat:=0
def _root_.PySem.W.Fast.tw14373477494669284012:Nat:=0
def _root_.PySem.W.Fast.tw16228634271860613022:Nat:=0
def _root_.PySem.W.Fast.tw13558670785193056542:Nat:=0
def _root_.PySem.W.Fast.tw8483355932735453712:Nat:=0
def _root_.PySem.W.Fast.tw5081764632369286727:Nat:=0
def _root_.PySem.W.Fast.tw5986969710521422693:Nat:=0
def _root_.PySem.W.Fast.tw14430646997277872841:Nat:=0
def _root_.PySem.W.Fast.tw9637086712134276759:Nat:=0
def _root_.PySem.W.Fast.tw9282405137176796047:Nat:=0
def _root_.PySem.W.Fast.tw15543933816078577906:Nat:=0
def _root_.PySem.W.Fast.tw4075422026035180648:Nat:=0
def _root_.PySem.W.Fast.tw2331894698049957390:Nat:=0
def _root_.PySem.W.Fast.tw8104497024317734665:Nat:=0
def _root_.PySem.W.Fast.tw12020912324471773906:Nat:=0
def _root_.PySem.W.Fast.tw10715151437875273041:Nat:=0
def _root_.PySem.W.Fast.tw6970778634508674623:Nat:=0
def _root_.PySem.W.Fast.tw7784666095379488470:Nat:=0
def _root_.PySem.W.Fast.tw15358485065106369646:Nat:=0
def _root_.PySem.W.Fast.tw5605477816054242463:Nat:=0
def _root_.PySem.W.Fast.tw16974779132050154759:Nat:=0
def _root_.PySem.W.Fast.tw3456905482787565143:Nat:=0
def _root_.PySem.W.Fast.tw4077818750490331924:Nat:=0
def _root_.PySem.W.Fast.tw2976890442648585892:Nat:=0
def _root_.PySem.W.Fast.tw18401989567678695299:Nat:=0
def _root_.PySem.W.Fast.tw3748146198867354508:Nat:=0
def _root_.PySem.W.Fast.tw15852334731507642865:Nat:=0
def _root_.PySem.W.Fast.tw16083165474166778258:Nat:=0
def _root_.PySem.W.Fast.tw12915826372013932642:Nat:=0
def _root_.PySem.W.Fast.tw873549205205516524:Nat:=0
def _root_.PySem.W.Fast.tw11604883274164092789:Nat:=0
def _root_.PySem.W.Fast.tw12623140384350372929:Nat:=0
def _root_.PySem.W.Fast.tw838394379671422719:Nat:=0
def _root_.PySem.W.Fast.tw17177759473641128226:Nat:=0
def _root_.PySem.W.Fast.tw8803050896846922180:Nat:=0
def _root_.PySem.W.Fast.tw16398047488003779969:Nat:=0
def _root_.PySem.W.Fast.tw8951712621758380361:Nat:=0
def _root_.PySem.W.Fast.tw17739375360145531781:Nat:=0
def _root_.PySem.W.Fast.tw10273791866382446105:Nat:=0
def _root_.PySem.W.Fast.tw16064125761967279806:Nat:=0
def _root_.PySem.W.Fast.tw17380390039521898741:Nat:=0
def _root_.PySem.W.Fast.tw7052740881383921701:Nat:=0
def _root_.PySem.W.Fast.tw15167755022568267009:Nat:=0
def _root_.PySem.W.Fast.tw7050165318808453409:Nat:=0
def _root_.PySem.W.Fast.tw96538498850965460:Nat:=0
def _root_.PySem.W.Fast.tw9828181214406542470:Nat:=0
def _root_.PySem.W.Fast.tw7932488681220498296:Nat:=0
def _root_.PySem.W.Fast.tw8780036614255546322:Nat:=0
def _root_.PySem.W.Fast.tw14187307377367739279:Nat:=0
def _root_.PySem.W.Fast.tw887784151488718978:Nat:=0
def _root_.PySem.W.Fast.tw2206438577099048113:Nat:=0
def _root_.PySem.W.Fast.tw2747640805243791444:Nat:=0
def _root_.PySem.W.Fast.tw1647293436355832005:Nat:=0
def _root_.PySem.W.Fast.tw9031742189766444515:Nat:=0
def _root_.PySem.W.Fast.tw14141755202053607362:Nat:=0
def _root_.PySem.W.Fast.tw17795880903042634853:Nat:=0
def shF (r:Int) (k:Nat) (t a b:Int):List (Str × DV):=[("page_room", .int r),("kept", .ref k),("top", .int t),("read_count", .int a),("write_count", .int b)]
theorem Qbo (r:Int) (k:Nat) (t a b:Int):List.lookup ("page_room" : Str) (shF r k t a b) = some (DV.int r):=by rfl
theorem YT (r:Int) (k:Nat) (t a b:Int):List.lookup ("kept" : Str) (shF r k t a b) = some (DV.ref k):=by rfl
theorem uS (r:Int) (k:Nat) (t a b:Int):List.lookup ("top" : Str) (shF r k t a b) = some (DV.int t):=by rfl
theorem Qde (r:Int) (k:Nat) (t a b:Int):List.lookup ("write_count" : Str) (shF r k t a b) = some (DV.int b):=by rfl
theorem Qfi (r:Int) (k:Nat) (t a b:Int):List.lookup ("read_count" : Str) (shF r k t a b) = some (DV.int a):=by rfl
theorem GK (r:Int) (k:Nat) (t a b c:Int):Xa ("write_count" : Str) (.int c) (shF r k t a b) = shF r k t a c:=by rfl
theorem Qbm (r:Int) (k:Nat) (t a b c:Int):Xa ("read_count" : Str) (.int c) (shF r k t a b) = shF r k t c b:=by rfl
theorem Qbn (r:Int) (k:Nat) (t a b c:Int):Xa ("top" : Str) (.int c) (shF r k t a b) = shF r k c a b:=by rfl
theorem yp (r:Int) (k:Nat) (t a b:Int):(shF r k t a b).length = 5:=rfl
theorem xp (r:Int) (k:Nat) (t a b:Int):List.lookup ("check_number" : Str) (shF r k t a b) = none:=by rfl
theorem Uu (r:Int) (k:Nat) (t a b:Int):List.lookup ("lay" : Str) (shF r k t a b) = none:=by rfl
theorem qg (r:Int) (k:Nat) (t a b:Int):List.lookup ("read" : Str) (shF r k t a b) = none:=by rfl
theorem qU (r:Int) (k:Nat) (t a b:Int):List.lookup ("write" : Str) (shF r k t a b) = none:=by rfl
theorem qh (r:Int) (k:Nat) (t a b:Int):List.lookup ("root" : Str) (shF r k t a b) = none:=by rfl
theorem GJ (r:Int) (k:Nat) (t a b:Int):List.lookup ("raise_root" : Str) (shF r k t a b) = none:=by rfl
theorem Qbl (r:Int) (k:Nat) (t a b:Int):List.lookup ("room" : Str) (shF r k t a b) = none:=by rfl
theorem XF (r:Int) (k:Nat) (t a b:Int):List.lookup ("pages" : Str) (shF r k t a b) = none:=by rfl
section
variable {r t a b:Int} {n k:Nat} {ps:List DV} {hp:Hs}
theorem jy (h1:hp[n]? = some (.ins "Shelf" (shF r k t a b))) (h2:hp[k]? = some (.lst ps)):Zx [.ref n] hp = some (.int ps.length,hp):=by
  simp [Zx,zt,Q7,Qs,QL,QP,qr,sIf,ZH,yc,jX,ya,yb,Qn,Qd,eC,eB,asB,Yh,eOr,Xw,JR,xY,qm,eIf,xX,Qm,Qc,ZC,qc,Qt,Jf,QB,gN,Z1,Js,Z4,Jc,Jy,Jx,Jr,XC,qq,x9,Z3,J0,Ji,Q9,YN,Kv,Yd,gSb,xj,qd,Yl,QH,j7,xm,onI,onL,onD,JZ,XQ,js,Ym,ixG,XO,qN,qx,Yi,qF,asI,zY,KF,QD,JS,YK,J7,jh,evP,ZG,XS,JF,Xb,JP,XR,XU,XT,Zn,Q6,Jo,h1,h2,YT]
theorem Ku (h1:hp[n]? = some (.ins "Shelf" (shF r k t a b))):Zq [.ref n] hp = some (.int t,hp):=by
  simp [Zq,ja,Q7,Qs,QL,QP,qr,sIf,ZH,yc,jX,ya,yb,Qn,Qd,eC,eB,asB,Yh,eOr,Xw,JR,xY,qm,eIf,xX,Qm,Qc,ZC,qc,Qt,Jf,QB,gN,Z1,Js,Z4,Jc,Jy,Jx,Jr,XC,qq,x9,Z3,J0,Ji,Q9,YN,Kv,Yd,gSb,xj,qd,Yl,QH,j7,xm,onI,onL,onD,JZ,XQ,js,Ym,ixG,XO,qN,qx,Yi,qF,asI,zY,KF,QD,JS,YK,J7,jh,evP,ZG,XS,JF,Xb,JP,XR,XU,XT,Zn,Q6,Jo,h1,uS]
theorem QcF (h1:hp[n]? = some (.ins "Shelf" (shF r k t a b))):Jk [.ref n] hp = some (.int r,hp):=by
  simp [Jk,z9,Q7,Qs,QL,QP,qr,sIf,ZH,yc,jX,ya,yb,Qn,Qd,eC,eB,asB,Yh,eOr,Xw,JR,xY,qm,eIf,xX,Qm,Qc,ZC,qc,Qt,Jf,QB,gN,Z1,Js,Z4,Jc,Jy,Jx,Jr,XC,qq,x9,Z3,J0,Ji,Q9,YN,Kv,Yd,gSb,xj,qd,Yl,QH,j7,xm,onI,onL,onD,JZ,XQ,js,Ym,ixG,XO,qN,qx,Yi,qF,asI,zY,KF,QD,JS,YK,J7,jh,evP,ZG,XS,JF,Xb,JP,XR,XU,XT,Zn,Q6,Jo,h1,Qbo]
theorem yz {i:Int} (h1:hp[n]? = some (.ins "Shelf" (shF r k t a b))) (h2:hp[k]? = some (.lst ps)) (i0:0 <= i) (i1:i < ps.length) :
    Zl [.ref n,.int i] hp = some (.non,hp):=by
  have q0:¬ i < 0:=by omega
  have q1:¬ (ps.length:Int) <= i:=by omega
  simp [Zl,Xv,Q7,Qs,QL,QP,qr,sIf,ZH,yc,jX,ya,yb,Qn,Qd,eC,eB,asB,Yh,eOr,Xw,JR,xY,qm,eIf,xX,Qm,Qc,ZC,qc,Qt,Jf,QB,gN,Z1,Js,Z4,Jc,Jy,Jx,Jr,XC,qq,x9,Z3,J0,Ji,Q9,YN,Kv,Yd,gSb,xj,qd,Yl,QH,j7,xm,onI,onL,onD,JZ,XQ,js,Ym,ixG,XO,qN,qx,Yi,qF,asI,zY,KF,QD,JS,YK,J7,jh,evP,ZG,XS,JF,Xb,JP,XR,XU,XT,Zn,Q6,Jo,Y9,h1,h2,YT,i0,i1,q0,q1]
theorem Ks {i:Nat} {d:DV} (h1:hp[n]? = some (.ins "Shelf" (shF r k t a b))) (h2:hp[k]? = some (.lst ps)) (hnk:n ≠ k) (hd:ps[i]? = some d) :
    Q0 [.ref n,.int i] hp = some (d,hp.set n (.ins "Shelf" (shF r k t (a + 1) b))):=by
  have i1:i < ps.length:=(List.getElem?_eq_some_iff.mp hd).1
  have c:=yz (i:=(i:Int)) h1 h2 (by omega) (by omega)
  have hd':=Y6 hd
  simp [Q0,zZ,Q7,Qs,QL,QP,qr,sIf,ZH,yc,jX,ya,yb,Qn,Qd,eC,eB,asB,Yh,eOr,Xw,JR,xY,qm,eIf,xX,Qm,Qc,ZC,qc,Qt,Jf,QB,gN,Z1,Js,Z4,Jc,Jy,Jx,Jr,XC,qq,x9,Z3,J0,Ji,Q9,YN,Kv,Yd,gSb,xj,qd,Yl,QH,j7,xm,onI,onL,onD,JZ,XQ,js,Ym,ixG,XO,qN,qx,Yi,qF,asI,zY,KF,QD,JS,YK,J7,jh,evP,ZG,XS,JF,Xb,JP,XR,XU,XT,Zn,Q6,Jo,h1,h2,c,YT,Qfi,Qbm,yp,xp,hd',hnk,hnk.symm]
theorem VC {i:Nat} {d:DV} (h1:hp[n]? = some (.ins "Shelf" (shF r k t a b))) (h2:hp[k]? = some (.lst ps)) (hnk:n ≠ k) (i1:i < ps.length) :
    Jt [.ref n,.int i,d] hp = some (.non,(hp.set n (.ins "Shelf" (shF r k t a (b + 1)))).set k (.lst (ps.set i d))):=by
  have c:=yz (i:=(i:Int)) h1 h2 (by omega) (by omega)
  simp [Jt,zx,Q7,Qs,QL,QP,qr,sIf,ZH,yc,jX,ya,yb,Qn,Qd,eC,eB,asB,Yh,eOr,Xw,JR,xY,qm,eIf,xX,Qm,Qc,ZC,qc,Qt,Jf,QB,gN,Z1,Js,Z4,Jc,Jy,Jx,Jr,XC,qq,x9,Z3,J0,Ji,Q9,YN,Kv,Yd,gSb,xj,qd,Yl,QH,j7,xm,onI,onL,onD,JZ,XQ,js,Ym,ixG,XO,qN,qx,Yi,qF,asI,zY,KF,QD,JS,YK,J7,jh,evP,ZG,XS,JF,Xb,JP,XR,XU,XT,Zn,Q6,Jo,h1,h2,c,YT,Qde,GK,yp,xp,hnk,hnk.symm,uE i1]
theorem QaA {pg:DV} (h1:hp[n]? = some (.ins "Shelf" (shF r k t a b))) (h2:hp[k]? = some (.lst ps)) (hnk:n ≠ k) (hl:ps.length < 99999) :
    Xq [.ref n,pg] hp = some (.int ps.length,(hp.set n (.ins "Shelf" (shF r k t a (b + 1)))).set k (.lst (ps ++ [pg]))):=by
  have hlim:ps.length < lim:=by unfold lim;omega
  simp [Xq,xw,Q7,Qs,QL,QP,qr,sIf,ZH,yc,jX,ya,yb,Qn,Qd,eC,eB,asB,Yh,eOr,Xw,JR,xY,qm,eIf,xX,Qm,Qc,ZC,qc,Qt,Jf,QB,gN,Z1,Js,Z4,Jc,Jy,Jx,Jr,XC,qq,x9,Z3,J0,Ji,Q9,YN,Kv,Yd,gSb,xj,qd,Yl,QH,j7,xm,onI,onL,onD,JZ,XQ,js,Ym,ixG,XO,qN,qx,Yi,qF,asI,zY,KF,QD,JS,YK,J7,jh,evP,ZG,XS,JF,Xb,JP,XR,XU,XT,Zn,Q6,Jo,h1,h2,YT,Qde,GK,yp,hlim,hnk,hnk.symm]
end
def Zg (l:Int) (ks ps:List Int) (hi sd:Option Int):DV:=.tup [.int l,.tup (ks.map .int),.tup (ps.map .int),opt hi,opt sd]
def hiB (hi:Option Int) (k:Int):Bool:=match hi with
  | none=>false
  | some h=>decide (h <= k)
def cLe (ks:List Int) (k:Int):Nat:=(ks.filter fun x=>decide (x <= k)).length
def cLt (ks:List Int) (k:Int):Nat:=(ks.filter fun x=>decide (x < k)).length
theorem JC (ks:List Int) (k:Int):cLe ks k <= ks.length:=List.length_filter_le _ _
theorem jS (ks:List Int) (k:Int):cLt ks k <= ks.length:=List.length_filter_le _ _
theorem Qeo {f:DEx} {env:En} {hp:Hs} {ds:List DV} (hf:f env hp = some (.tup ds,hp)):iTp f env hp = some (ds,hp):=by
  unfold iTp;rw [Qg hf];rfl
theorem kT {t:DTx} {p:Int -> Bool} (ks:List Int) (k:Int) (hl:ks.length <= 100) (ht:∀ x hp,t [.val (.int x),.val (.int k)] hp = some (p x,hp)) (hp:Hs):Jf XO (Qc (Jg false (xOf (iTp (Qd 0))) [1] t (Qd 0)) Qm) [.val (.tup (ks.map .int)),.val (.int k)] hp = some (.int (ks.filter p).length,hp):=by
  have q:Jg false (xOf (iTp (Qd 0))) [1] t (Qd 0) [.val (.tup (ks.map .int)),.val (.int k)] hp = some (.lst (((ks.filter p).map fun x=>x).map .int),hp):=by
    unfold Jg
    rw [Qg (KK (Qeo (ds:=ks.map .int) (Qe rfl)))]
    exact (Qg (vb (p:=p) (g:=fun x=>x) ks (fun i hi=>YB (ks.map .int) i (by rw [List.length_map];exact hi) hp) (fun x=>ht x hp) (fun x=>rfl) (by omega))).trans rfl
  rw [zM (ZQ q) (Gn ..),List.length_map,List.length_map]
theorem US (ks:List Int) (k:Int) (hl:ks.length <= 100):Zr [.tup (ks.map .int),.int k] = pure (.int (cLe ks k)):=ua fun hp=>QI (env:=[.val (.tup (ks.map .int)),.val (.int k)]) (QO (kT ks k hl (fun _ _=>rfl) hp))
theorem Qc1 (ks:List Int) (k:Int) (hl:ks.length <= 100):Xk [.tup (ks.map .int),.int k] = pure (.int (cLt ks k)):=ua fun hp=>QI (env:=[.val (.tup (ks.map .int)),.val (.int k)]) (QO (kT ks k hl (fun _ _=>rfl) hp))
theorem gg (l:Int) (ks ps:List Int) (hi sd:Option Int) (k:Int):YD [Zg l ks ps hi sd,.int k] = pure (.bl (hiB hi k)):=by
  cases hi <;> rfl
theorem QdD (l:Int) (ks ps:List Int) (hi sd:Option Int) (k:Int) (hl:ks.length <= 100) (hp:ps.length = ks.length + 1):YE [Zg l ks ps hi sd,.int k] = pure (.int (ps.getD (cLe ks k) 0)):=by
  have h:=JC ks k
  have a:=UO ps (i:=(cLe ks k:Int)) (by omega) (by omega)
  rw [Int.toNat_natCast] at a
  refine Yo (XV (qZ (x:=.tup (ps.map .int)) (y:=.int (cLe ks k)) rfl (j6 (x:=.tup (ks.map .int)) (y:=.int k) rfl rfl (US ks k hl)) ?_)) <;> try exact []
  simp [ixD,a]
theorem QbC (l:Int) (ks ps:List Int) (hi sd:Option Int) (k:Int) (hl:ks.length <= 100) (hp:ps.length = ks.length):J1 [Zg l ks ps hi sd,.int k] = pure (if cLt ks k = cLe ks k then .non else .int (ps.getD (cLt ks k) 0)):=by
  have h:=JC ks k
  have hlt:=jS ks k
  refine Yo (env:=[.val (Zg l ks ps hi sd),.val (.int k),.val (.tup (ks.map .int)),.val (.int (cLt ks k))]) ?_
  refine (ZK (ZV (d:=.tup (ks.map .int)) rfl)).trans ?_
  refine (ZK (ZV (d:=.int (cLt ks k)) (j6 (x:=.tup (ks.map .int)) (y:=.int k) rfl rfl (Qc1 ks k hl)))).trans ?_
  have tst:eB (Qn eqD (Qd 3) (Qt 2 Zr (Qc (Qd 2) (Qc (Qd 1) Qm)))) [.val (Zg l ks ps hi sd),.val (.int k),.val (.tup (ks.map .int)),.val (.int (cLt ks k))] = pure (decide (cLt ks k = cLe ks k)):=by
    refine QeK (qZ (x:=.int (cLt ks k)) (y:=.int (cLe ks k)) rfl (j6 (x:=.tup (ks.map .int)) (y:=.int k) rfl rfl (US ks k hl)) ?_)
    rw [Z3]
    congr 2
    rw [Bool.eq_iff_iff];simp only [beq_iff_eq,decide_eq_true_eq];omega
  by_cases hc:cLt ks k = cLe ks k
  . rw [if_pos hc]
    exact QcJ ((Qfh (tst.trans (by simp [hc]))).trans (XV rfl))
  . rw [if_neg hc]
    refine (ZK ((Qfg (tst.trans (by simp [hc]))).trans rfl)).trans ?_
    have hlt2:cLt ks k < ks.length:=by
      have:cLt ks k <= cLe ks k:=by
        unfold cLt cLe
        rw [<- List.countP_eq_length_filter,<- List.countP_eq_length_filter]
        exact List.countP_mono_left fun x _ hx=>by simp at hx ⊢;omega
      omega
    have a:=UO ps (i:=(cLt ks k:Int)) (by omega) (by omega)
    rw [Int.toNat_natCast] at a
    exact XV (qZ (x:=.tup (ps.map .int)) (y:=.int (cLt ks k)) rfl rfl (by simp [ixD,a]))
theorem Qag {F:List DV -> M DV} {f f' f'' f3:DEx} {env:En} {x y z u d:DV} (h:f env = pure x) (h':f' env = pure y) (h'':f'' env = pure z) (h3:f3 env = pure u) (hF:F [x,y,z,u] = pure d):Qt 4 F (Qc f (Qc f' (Qc f'' (Qc f3 Qm)))) env = pure d:=by simp [Qt,Qc,Qm,h,h',h'',h3,QB,hF]
theorem xF (l:Int) (ks ps:List Int) (hi sd:Option Int) (a b:DV):YY [Zg l ks ps hi sd,a,b] = pure (.tup [.int l,a,b,opt hi,opt sd]):=rfl
theorem QfP (ks ns:List Int) (a b:Nat) (h:ks.length <= 1000) (hn:ns.length <= 10):(do let x <- slD (.tup (ks.map .int)) none (some (a:Int));let y <- ZJ x (.tup (ns.map .int));let d <- slD (.tup (ks.map .int)) (some (b:Int)) none;ZJ y d:M DV) = pure (.tup ((ks.take a ++ ns ++ ks.drop b).map .int)):=by
  rw [Vt,Vs]
  simp only [pure_bind,ZJ]
  rw [zi (by simp;omega)]
  simp only [QB,if_true,pure_bind]
  rw [zi (by simp;omega)]
  simp [List.map_take,List.map_drop]
theorem Qc6 {f g h q:DEx} {env:En} {ks ns:List Int} {a b:Nat} (hf:f env = pure (.tup (ks.map .int))) (hg:g env = pure (.int (a:Int))) (hh:h env = pure (.int (b:Int))) (hq:q env = pure (.tup (ns.map .int))) (hl:ks.length <= 1000) (hn:ns.length <= 10):Qn ZJ (Qn ZJ (eSl f ZM (ZN g)) q) (eSl f (ZN h) ZM) env = pure (.tup ((ks.take a ++ ns ++ ks.drop b).map .int)):=by
  have e1:eSl f ZM (ZN g) env = slD (.tup (ks.map .int)) none (some (a:Int)):=by simp only [eSl,hf,hg,ZM,ZN,asI,pure_bind]
  have e2:eSl f (ZN h) ZM env = slD (.tup (ks.map .int)) (some (b:Int)) none:=by simp only [eSl,hf,hh,ZM,ZN,asI,pure_bind]
  rw [<- QfP ks ns a b hl hn]
  simp only [Qn,e1,e2,hq,pure_bind,bind_assoc]
theorem xQ (l:Int) (ks ps nk nw:List Int) (hi sd:Option Int) (k:Int) (hl:ks.length <= 100) (hp:ps.length <= 100) (h1:nk.length <= 10) (h2:nw.length <= 10):Y1 [Zg l ks ps hi sd,.int k,.tup (nk.map .int),.tup (nw.map .int)] = pure (Zg l (ks.take (cLt ks k) ++ nk ++ ks.drop (cLe ks k)) (ps.take (cLt ks k) ++ nw ++ ps.drop (cLe ks k)) hi sd):=by
  refine Yo (env:=[.val (Zg l ks ps hi sd),.val (.int k),.val (.tup (nk.map .int)),.val (.tup (nw.map .int)),.val (.tup (ks.map .int)),.val (.tup (ps.map .int)),.val (.int (cLt ks k:Int)),.val (.int (cLe ks k:Int))]) ?_
  refine (ZK (ZV (d:=.tup (ks.map .int)) rfl)).trans ?_
  refine (ZK (ZV (d:=.tup (ps.map .int)) rfl)).trans ?_
  refine (ZK (ZV (d:=.int (cLt ks k:Int)) (j6 (x:=.tup (ks.map .int)) (y:=.int k) rfl rfl (Qc1 ks k hl)))).trans ?_
  refine (ZK (ZV (d:=.int (cLe ks k:Int)) (j6 (x:=.tup (ks.map .int)) (y:=.int k) rfl rfl (US ks k hl)))).trans ?_
  exact XV (Qaf (x:=Zg l ks ps hi sd) rfl (Qc6 rfl rfl rfl rfl (by omega) h1) (Qc6 rfl rfl rfl rfl (by omega) h2) (xF l ks ps hi sd _ _))
def vp (ks:List Int) (c:Nat) (k:Int):List Int:=ks.take c ++ k :: ks.drop c
theorem Qek (ks:List Int) (c:Nat) (k:Int) (h:ks.length <= 1000):(do let a <- slD (.tup (ks.map .int)) none (some (c:Int));let b <- ZJ a (.tup [.int k]);let d <- slD (.tup (ks.map .int)) (some (c:Int)) none;ZJ b d:M DV) = pure (.tup ((vp ks c k).map .int)):=by
  rw [Vt,Vs]
  simp only [pure_bind,ZJ]
  rw [zi (by simp;omega)]
  simp only [QB,if_true,pure_bind]
  rw [zi (by simp;omega)]
  simp [vp,List.map_take,List.map_drop]
theorem ux {f g h:DEx} {env:En} {ks:List Int} {c:Nat} {k:Int} (hf:f env = pure (.tup (ks.map .int))) (hg:g env = pure (.int (c:Int))) (hk:h env = pure (.int k)) (hl:ks.length <= 1000):Qn ZJ (Qn ZJ (eSl f ZM (ZN g)) (ZC (Qc h Qm))) (eSl f (ZN g) ZM) env = pure (.tup ((vp ks c k).map .int)):=by
  have e1:eSl f ZM (ZN g) env = slD (.tup (ks.map .int)) none (some (c:Int)):=by simp only [eSl,hf,hg,ZM,ZN,asI,pure_bind]
  have e2:eSl f (ZN g) ZM env = slD (.tup (ks.map .int)) (some (c:Int)) none:=by simp only [eSl,hf,hg,ZM,ZN,asI,pure_bind]
  have e3:ZC (Qc h Qm) env = pure (.tup [.int k]):=by
    simp only [ZC,Qc,Qm,hk,pure_bind];rfl
  rw [<- Qek ks c k hl]
  simp only [Qn,e1,e2,e3,pure_bind,bind_assoc]
theorem gG (l:Int) (ks ps:List Int) (hi sd:Option Int) (k kid:Int) (hl:ks.length <= 100) (hp:ps.length <= 1000):YZ [Zg l ks ps hi sd,.int k,.int kid] = pure (Zg l (vp ks (cLe ks k) k) (vp ps (cLe ks k + 1) kid) hi sd):=by
  refine Yo (env:=[.val (Zg l ks ps hi sd),.val (.int k),.val (.int kid),.val (.tup (ks.map .int)),.val (.tup (ps.map .int)),.val (.int (cLe ks k:Int)),.val (.int ((cLe ks k:Int) + 1))]) ?_
  refine (ZK (ZV (d:=.tup (ks.map .int)) rfl)).trans ?_
  refine (ZK (ZV (d:=.tup (ps.map .int)) rfl)).trans ?_
  refine (ZK (ZV (d:=.int (cLe ks k:Int)) (j6 (x:=.tup (ks.map .int)) (y:=.int k) rfl rfl (US ks k hl)))).trans ?_
  refine (ZK (ZV (d:=.int ((cLe ks k:Int) + 1)) rfl)).trans ?_
  refine XV (Qaf (x:=Zg l ks ps hi sd) (y:=.tup ((vp ks (cLe ks k) k).map .int)) (z:=.tup ((vp ps (cLe ks k + 1) kid).map .int)) rfl ?_ ?_ (xF l ks ps hi sd _ _))
  . exact ux rfl rfl rfl (by omega)
  . exact ux rfl (by show (pure (DV.int ((cLe ks k:Int) + 1)):M DV) = _;rw [show ((cLe ks k:Int) + 1) = ((cLe ks k + 1:Nat):Int) by omega]) rfl hp
def Ze (l:Int) (n:Nat):Nat:=if l = 0 then n / 2 else n / 2 + 1
def QaV (l:Int) (ks ps:List Int) (hi sd:Option Int) (num:Int):DV :=
  .tup [Zg l (ks.take (ks.length / 2)) (ps.take (Ze l ks.length)) (some (ks.getD (ks.length / 2) 0)) (some num),Zg l (ks.drop (Ze l ks.length)) (ps.drop (Ze l ks.length)) hi sd,.int (ks.getD (ks.length / 2) 0)]
theorem gM (l:Int) (ks ps:List Int) (hi sd:Option Int) (num:Int) (h3:3 <= ks.length) (hl:ks.length <= 100):zW [Zg l ks ps hi sd,.int num] = pure (QaV l ks ps hi sd num):=by
  have hm:((ks.length:Int)) / 2 = ((ks.length / 2:Nat):Int):=by omega
  have a:=UO ks (i:=((ks.length / 2:Nat):Int)) (by omega) (by omega)
  rw [Int.toNat_natCast] at a
  have hcut:(if l = 0 then DV.int ((ks.length / 2:Nat):Int) else .int (((ks.length / 2:Nat):Int) + 1)) = .int ((Ze l ks.length:Nat):Int):=by
    unfold Ze
    split <;> simp
  generalize hC:Ze l ks.length = C at hcut
  generalize hK:ks.getD (ks.length / 2) 0 = kk at a
  have e7:eIf (eB (Qn eqD (Qd 2) (eC (.int 0)))) (Qd 5) (Qn ZJ (Qd 5) (eC (.int 1))) [.val (Zg l ks ps hi sd),.val (.int num),.val (.int l),.val (.tup (ks.map .int)),.val (.tup (ps.map .int)),.val (.int ((ks.length / 2:Nat):Int)),.val (.int kk),.un,.un,.un] = pure (.int (C:Int)):=by
    rw [<- hcut]
    by_cases q:l = 0
    . simp [eIf,eB,Qn,Qd,eC,Z3,asB,q]
    . have:(l == 0) = false:=by simpa using q
      simp [eIf,eB,Qn,Qd,eC,Z3,asB,q,this,Z1]
  unfold QaV
  rw [hC,hK]
  refine Yo (env:=[.val (Zg l ks ps hi sd),.val (.int num),.val (.int l),.val (.tup (ks.map .int)),.val (.tup (ps.map .int)),.val (.int ((ks.length / 2:Nat):Int)),.val (.int kk),.val (.int (C:Int)),.val (Zg l (ks.take (ks.length / 2)) (ps.take C) (some kk) (some num)),.val (Zg l (ks.drop C) (ps.drop C) hi sd)]) ?_
  refine (ZK (ZV (d:=.int l) rfl)).trans ?_
  refine (ZK (ZV (d:=.tup (ks.map .int)) rfl)).trans ?_
  refine (ZK (ZV (d:=.tup (ps.map .int)) rfl)).trans ?_
  refine (ZK (ZV (d:=.int ((ks.length / 2:Nat):Int)) ?_)).trans ?_
  . refine qZ (x:=.int (ks.length:Int)) (y:=.int 2) ?_ rfl ((K3 _ 2 (by decide) (by decide)).trans (by rw [hm]))
    show (pure (DV.int ((ks.map DV.int).length:Int)):M DV) = _
    rw [List.length_map]
  refine (ZK (ZV (d:=.int kk) (qZ (x:=.tup (ks.map .int)) (y:=.int ((ks.length / 2:Nat):Int)) rfl rfl (Qb4 a)))).trans ?_
  refine (ZK (ZV (d:=.int (C:Int)) e7)).trans ?_
  refine (ZK (ZV (d:=Zg l (ks.take (ks.length / 2)) (ps.take C) (some kk) (some num)) ?_)).trans ?_
  . have t1:=K9 (f:=Qd 3) (g:=Qd 5) (env:=[.val (Zg l ks ps hi sd),.val (.int num),.val (.int l),.val (.tup (ks.map .int)),.val (.tup (ps.map .int)),.val (.int ((ks.length / 2:Nat):Int)),.val (.int kk),.val (.int (C:Int)),.un,.un]) (ds:=ks.map .int) (m:=ks.length / 2) rfl rfl
    have t2:=K9 (f:=Qd 4) (g:=Qd 7) (env:=[.val (Zg l ks ps hi sd),.val (.int num),.val (.int l),.val (.tup (ks.map .int)),.val (.tup (ps.map .int)),.val (.int ((ks.length / 2:Nat):Int)),.val (.int kk),.val (.int (C:Int)),.un,.un]) (ds:=ps.map .int) (m:=C) rfl rfl
    simp only [List.set_cons_succ,List.set_cons_zero,List.map_cons,List.map_nil,List.length_cons,List.length_nil,List.cons_append,List.nil_append,List.replicate,ZC,Qc,Qm,t1,t2,pure_bind]
    simp only [Zg,List.map_take,opt]
    rfl
  refine (ZK (ZV (d:=Zg l (ks.drop C) (ps.drop C) hi sd) ?_)).trans ?_
  . have t1:=K8 (f:=Qd 3) (g:=Qd 7) (env:=[.val (Zg l ks ps hi sd),.val (.int num),.val (.int l),.val (.tup (ks.map .int)),.val (.tup (ps.map .int)),.val (.int ((ks.length / 2:Nat):Int)),.val (.int kk),.val (.int (C:Int)),.val (Zg l (ks.take (ks.length / 2)) (ps.take C) (some kk) (some num)),.un]) (ds:=ks.map .int) (m:=C) rfl rfl
    have t2:=K8 (f:=Qd 4) (g:=Qd 7) (env:=[.val (Zg l ks ps hi sd),.val (.int num),.val (.int l),.val (.tup (ks.map .int)),.val (.tup (ps.map .int)),.val (.int ((ks.length / 2:Nat):Int)),.val (.int kk),.val (.int (C:Int)),.val (Zg l (ks.take (ks.length / 2)) (ps.take C) (some kk) (some num)),.un]) (ds:=ps.map .int) (m:=C) rfl rfl
    simp only [List.set_cons_succ,List.set_cons_zero,List.map_cons,List.map_nil,List.length_cons,List.length_nil,List.cons_append,List.nil_append,List.replicate,ZC,Qc,Qm,t1,t2,pure_bind]
    simp only [Zg,List.map_drop]
    rfl
  exact XV rfl
theorem Xh (p:TR.Pg):pgD p = Zg p.lv p.ks p.ps p.hi (p.sd.map fun n=>(n:Int)):=by
  unfold pgD Zg;cases p.sd <;> rfl
theorem gQ (p:TR.Pg) (k:Int):YD [pgD p,.int k] = pure (.bl (TR.Za p k)):=by
  rw [Xh,gg]
  unfold hiB TR.Za
  cases p.hi <;> rfl
theorem Qd4 (p:TR.Pg) (k c:Int) (hl:p.ks.length <= 100) (hp:p.ps.length = p.ks.length + 1) (hc:p.ps[TR.cLe p.ks k]? = some c):YE [pgD p,.int k] = pure (.int c):=by
  rw [Xh,QdD _ _ _ _ _ _ hl hp]
  rw [List.getD_eq_getElem?_getD,show p.ps[cLe p.ks k]? = some c from hc];rfl
theorem Qa3 (p:TR.Pg) (k:Int) (hl:p.ks.length <= 100) (hp:p.ps.length = p.ks.length):J1 [pgD p,.int k] = pure (opt (TR.QG p k)):=by
  rw [Xh,QbC _ _ _ _ _ _ hl hp]
  unfold TR.QG
  by_cases h:cLt p.ks k = cLe p.ks k
  . rw [if_pos h,if_pos (show TR.cLt p.ks k = TR.cLe p.ks k from h)];rfl
  . rw [if_neg h,if_neg (show ¬ TR.cLt p.ks k = TR.cLe p.ks k from h)]
    have h1:=TR.UR p.ks k
    have h2:=TR.JC p.ks k
    have h3:¬ TR.cLt p.ks k = TR.cLe p.ks k:=h
    rw [List.getD_eq_getElem?_getD,show p.ps[cLt p.ks k]? = some (p.ps[TR.cLt p.ks k]'(by omega)) from List.getElem?_eq_getElem _,List.getElem?_eq_getElem (show TR.cLt p.ks k < p.ps.length by omega)];rfl
theorem Qck (p:TR.Pg) (k x:Int) (hl:p.ks.length <= 100) (hp:p.ps.length <= 100):qB [pgD p,.int k,.int x] = pure (pgD (TR.QE p k x)):=by
  have e:=xQ p.lv p.ks p.ps [k] [x] p.hi (p.sd.map fun n=>(n:Int)) k hl hp (by simp) (by simp)
  rw [Xh,Xh]
  refine Yo (env:=[.val (Zg p.lv p.ks p.ps p.hi (p.sd.map fun n=>(n:Int))),.val (.int k),.val (.int x)]) (XV (Qag rfl rfl rfl rfl (e.trans ?_)))
  simp [TR.QE,TR.cLt,TR.cLe,cLt,cLe]
theorem vK (p:TR.Pg) (k:Int) (hl:p.ks.length <= 100) (hp:p.ps.length <= 100):jP [pgD p,.int k] = pure (pgD (TR.without p k)):=by
  have e:=xQ p.lv p.ks p.ps [] [] p.hi (p.sd.map fun n=>(n:Int)) k hl hp (by simp) (by simp)
  rw [Xh,Xh]
  refine Yo (env:=[.val (Zg p.lv p.ks p.ps p.hi (p.sd.map fun n=>(n:Int))),.val (.int k)]) (XV (Qag rfl rfl rfl rfl (e.trans ?_)))
  simp [TR.without,TR.cLt,TR.cLe,cLt,cLe]
theorem vJ (p:TR.Pg) (k:Int) (c:Nat) (hl:p.ks.length <= 100) (hp:p.ps.length <= 1000):YZ [pgD p,.int k,.int c] = pure (pgD (TR.QT p k c)):=by
  rw [Xh,gG _ _ _ _ _ _ _ hl hp,Xh];rfl
theorem Qcj (p:TR.Pg) (room:Nat):XX [pgD p,.int room] = pure (.bl (decide (room < p.ks.length))):=by
  have e:(decide ((room:Int) < ((p.ks.map DV.int).length:Int))) = decide (room < p.ks.length):=by
    rw [List.length_map];congr 1;rw [eq_iff_iff];omega
  refine Yo (env:=[.val (pgD p),.val (.int room)]) (XV (qZ (x:=.int ((p.ks.map DV.int).length:Int)) (y:=.int room) rfl rfl ((Z4 _ _).trans ?_)))
  rw [<- e]
theorem gR (p:TR.Pg) (n:Nat) (h3:3 <= p.ks.length) (hl:p.ks.length <= 100):zW [pgD p,.int n] = pure (.tup [pgD (TR.QK p n),pgD (TR.QA p),.int (TR.JN p)]):=by
  rw [Xh,gM _ _ _ _ _ _ h3 hl]
  unfold QaV
  rw [Xh,Xh]
  have hc:Ze p.lv p.ks.length = TR.Ze p:=by
    unfold Ze TR.Ze TR.mid
    by_cases h:p.lv = 0
    . simp [h]
    . rw [if_neg h,if_neg (by omega)]
  rw [hc];rfl
structure At (hp:Hs) (n k a f q:Nat) (S:TR.Sh) (w:TR.Wk):Prop where
  h1:hp[n]? = some (.ins "Shelf" (shF S.room k S.top S.rd S.wr))
  h2:hp[k]? = some (.lst (S.pg.map pgD))
  h3:hp[a]? = some (wkO n f q w)
  h4:hp[f]? = some (.dic (fkD w.forks))
  h5:hp[q]? = some (.lst (prD w.pairs))
structure Dif (n k a f q:Nat):Prop where
  nk:n ≠ k
  na:n ≠ a
  nf:n ≠ f
  nq:n ≠ q
  ka:k ≠ a
  kf:k ≠ f
  kq:k ≠ q
  af:a ≠ f
  aq:a ≠ q
  fq:f ≠ q
def Fr (hp hp':Hs) (n k a f q:Nat):Prop:=hp.length <= hp'.length /\ ∀ i,i < hp.length -> i ≠ n -> i ≠ k -> i ≠ a -> i ≠ f -> i ≠ q -> hp'[i]? = hp[i]?
section
variable {hp hp' hp2:Hs} {n k a f q:Nat} {S S':TR.Sh} {w w':TR.Wk}
theorem Fr.refl:Fr hp hp n k a f q:=⟨Nat.le_refl _,fun _ _ _ _ _ _ _=>rfl⟩
theorem Fr.trans (x:Fr hp hp' n k a f q) (y:Fr hp' hp2 n k a f q):Fr hp hp2 n k a f q:=⟨Nat.le_trans x.1 y.1,fun i hi a1 a2 a3 a4 a5=>(y.2 i (Nat.lt_of_lt_of_le hi x.1) a1 a2 a3 a4 a5).trans (x.2 i hi a1 a2 a3 a4 a5)⟩
theorem gs {n m:Nat} {X:OV} {Y:Option OV} (h:n ≠ m) (h':hp[m]? = Y):(hp.set n X)[m]? = Y:=(Q6 _ _ _ _ h).trans h'
theorem gss {n:Nat} {X Y:OV} (h':hp[n]? = some Y):(hp.set n X)[n]? = some X:=Zn _ _ _ (by rw [h'];rfl)
theorem At.walk (A:At hp n k a f q S w) (D:Dif n k a f q) (w':TR.Wk) (e1:w'.forks = w.forks) (e2:w'.pairs = w.pairs):At (hp.set a (wkO n f q w')) n k a f q S w' /\ Fr hp (hp.set a (wkO n f q w')) n k a f q :=
  ⟨⟨gs D.na.symm A.h1,gs D.ka.symm A.h2,gss A.h3,gs D.af (by rw [e1];exact A.h4),gs D.aq (by rw [e2];exact A.h5)⟩,by simp,fun i hi a1 a2 a3 a4 a5=>Q6 _ _ _ _ (Ne.symm a3)⟩
theorem At.shelf (A:At hp n k a f q S w) (D:Dif n k a f q) (S':TR.Sh) (e:S'.room = S.room):At ((hp.set n (.ins "Shelf" (shF S.room k S'.top S'.rd S'.wr))).set k (.lst (S'.pg.map pgD))) n k a f q S' w /\ Fr hp ((hp.set n (.ins "Shelf" (shF S.room k S'.top S'.rd S'.wr))).set k (.lst (S'.pg.map pgD))) n k a f q :=
  ⟨⟨gs D.nk.symm (by rw [e];exact gss A.h1),gss (gs D.nk A.h2),gs D.ka (gs D.na A.h3),gs D.kf (gs D.nf A.h4),gs D.kq (gs D.nq A.h5)⟩,by simp,fun i hi a1 a2 a3 a4 a5=>(Q6 _ _ _ _ (Ne.symm a2)).trans (Q6 _ _ _ _ (Ne.symm a1))⟩
theorem At.count (A:At hp n k a f q S w) (D:Dif n k a f q) (S':TR.Sh) (e:S'.room = S.room) (e2:S'.pg = S.pg):At (hp.set n (.ins "Shelf" (shF S.room k S'.top S'.rd S'.wr))) n k a f q S' w /\ Fr hp (hp.set n (.ins "Shelf" (shF S.room k S'.top S'.rd S'.wr))) n k a f q :=
  ⟨⟨by rw [e];exact gss A.h1,gs D.nk (by rw [e2];exact A.h2),gs D.na A.h3,gs D.nf A.h4,gs D.nq A.h5⟩,by simp,fun i hi a1 a2 a3 a4 a5=>Q6 _ _ _ _ (Ne.symm a1)⟩
theorem At.fork (A:At hp n k a f q S w) (D:Dif n k a f q) (w':TR.Wk) (h:wkO n f q w' = wkO n f q w) (e:w'.pairs = w.pairs):At (hp.set f (.dic (fkD w'.forks))) n k a f q S w' /\ Fr hp (hp.set f (.dic (fkD w'.forks))) n k a f q :=
  ⟨⟨gs D.nf.symm A.h1,gs D.kf.symm A.h2,gs D.af.symm (by rw [h];exact A.h3),gss A.h4,gs D.fq (by rw [e];exact A.h5)⟩,by simp,fun i hi a1 a2 a3 a4 a5=>Q6 _ _ _ _ (Ne.symm a4)⟩
theorem At.pair (A:At hp n k a f q S w) (D:Dif n k a f q) (w':TR.Wk) (h:wkO n f q w' = wkO n f q w) (e:w'.forks = w.forks):At (hp.set q (.lst (prD w'.pairs))) n k a f q S w' /\ Fr hp (hp.set q (.lst (prD w'.pairs))) n k a f q :=
  ⟨⟨gs D.nq.symm A.h1,gs D.kq.symm A.h2,gs D.aq.symm (by rw [h];exact A.h3),gs D.fq.symm (by rw [e];exact A.h4),gss A.h5⟩,by simp,fun i hi a1 a2 a3 a4 a5=>Q6 _ _ _ _ (Ne.symm a5)⟩
theorem At.more (A:At hp n k a f q S w) (x:OV):At (hp ++ [x]) n k a f q S w /\ Fr hp (hp ++ [x]) n k a f q:=by
  have ap:∀ {i:Nat} {y:OV},hp[i]? = some y -> (hp ++ [x])[i]? = some y:=fun {i y} h=>by rw [List.getElem?_append_left (List.getElem?_eq_some_iff.mp h).1];exact h
  exact ⟨⟨ap A.h1,ap A.h2,ap A.h3,ap A.h4,ap A.h5⟩,by simp,fun i hi _ _ _ _ _=>List.getElem?_append_left hi⟩
theorem uJ (ps:List TR.Pg) (p:TR.Pg):ps.map pgD ++ [pgD p] = (ps ++ [p]).map pgD:=by simp
theorem map_set (ps:List TR.Pg) (i:Nat) (p:TR.Pg):(ps.map pgD).set i (pgD p) = (ps.set i p).map pgD:=by rw [List.map_set]
theorem Xd (A:At hp n k a f q S w) {env:En} (h:env[0]? = some (.val (.ref a))):QH "Walk" "shelf" (Qd 0) env hp = some (.ref n,hp):=Q8 (Qe h) A.h3 (kE ..)
theorem Uq (A:At hp n k a f q S w) (D:Dif n k a f q) {i:Nat} (hi:i < S.pg.length) (P:TR.Pg) (h3:S.room < P.ks.length -> 3 <= P.ks.length) (hP:P.ks.length <= 100) (hl:S.pg.length < 90000) :
    ∃ hp',Xj [.ref a,.int i,pgD P] hp = some (oN (TR.Qr S w i P).1,hp') /\ At hp' n k a f q (TR.Qr S w i P).2.1 (TR.Qr S w i P).2.2 /\ Fr hp hp' n k a f q:=by
  have t0:Qt 2 XX (Qc (Qd 2) (Qc (QD "Shelf" "room" 1 Jk (QH "Walk" "shelf" (Qd 0)) Qm) Qm)) [.val (.ref a),.val (.int i),.val (pgD P),.un] hp = some (.bl (decide (S.room < P.ks.length)),hp) :=
    QS (ZZ (Qe rfl) (QR (Xd A rfl) A.h1 (Qbl ..) Xe rfl (QcF A.h1))) rfl (Q5 (Qcj P S.room) hp)
  unfold TR.Qr
  by_cases hr:P.ks.length <= S.room
  . rw [if_pos hr]
    have hd:decide (S.room < P.ks.length) = false:=decide_eq_false (by omega)
    rw [hd] at t0
    have t1:Xw (eB (Qt 2 XX (Qc (Qd 2) (Qc (QD "Shelf" "room" 1 Jk (QH "Walk" "shelf" (Qd 0)) Qm) Qm)))) [.val (.ref a),.val (.int i),.val (pgD P),.un] hp = some (true,hp):=q8 (b:=false) (Zm t0)
    have wr:=VC (d:=pgD P) (i:=i) A.h1 A.h2 D.nk (by simpa using hi)
    rw [map_set] at wr
    obtain ⟨A1,F1⟩:=A.shelf D { S with pg:=S.pg.set i P,wr:=S.wr + 1 } rfl
    obtain ⟨A2,F2⟩:=A1.walk D { w with ended:=true } rfl rfl
    refine ⟨_,?_,A2,F1.trans F2⟩
    refine QI (env:=[.val (.ref a),.val (.int i),.val (pgD P),.un]) (Q3 ((ZE t1).trans ?_))
    refine (Ql (XD (QR (Xd A rfl) A.h1 (qU ..) (ZZ (Qe rfl) (Qe rfl)) rfl wr))).trans ?_
    exact (Ql (Jn (v:=.bl true) rfl (Qe rfl) A1.h3 wl)).trans (QO (d:=.non) rfl)
  . rw [if_neg hr]
    have hd:decide (S.room < P.ks.length) = true:=decide_eq_true (by omega)
    rw [hd] at t0
    have t1:Xw (eB (Qt 2 XX (Qc (Qd 2) (Qc (QD "Shelf" "room" 1 Jk (QH "Walk" "shelf" (Qd 0)) Qm) Qm)))) [.val (.ref a),.val (.int i),.val (pgD P),.un] hp = some (false,hp):=q8 (b:=true) (Zm t0)
    have pl:(S.pg.map pgD).length = S.pg.length:=by simp
    have pe:=gR P S.pg.length (h3 (by omega)) hP
    have ly:=QaA (pg:=pgD (TR.QA P)) A.h1 A.h2 D.nk (by rw [pl];omega)
    rw [pl,uJ] at ly
    obtain ⟨A1,F1⟩:=A.shelf D { S with pg:=S.pg ++ [TR.QA P],wr:=S.wr + 1 } rfl
    obtain ⟨A2,F2⟩:=A1.walk D { w with newp:=some S.pg.length } rfl rfl
    have wr:=VC (d:=pgD (TR.QK P S.pg.length)) (i:=i) A2.h1 A2.h2 D.nk (by simp;omega)
    rw [map_set] at wr
    obtain ⟨A3,F3⟩:=A2.shelf D { S with pg:=(S.pg ++ [TR.QA P]).set i (TR.QK P S.pg.length),wr:=S.wr + 1 + 1 } rfl
    obtain ⟨A4,F4⟩:=A3.walk D { w with newp:=some S.pg.length,aim:=TR.JN P } rfl rfl
    obtain ⟨A5,F5⟩:=A4.walk D { w with newp:=some S.pg.length,aim:=TR.JN P,goal:=P.lv + 1 } rfl rfl
    obtain ⟨A6,F6⟩:=A5.walk D { w with newp:=some S.pg.length,aim:=TR.JN P,goal:=P.lv + 1,place:=TR.ZR w.forks (P.lv + 1) } rfl rfl
    refine ⟨_,?_,A6,F1.trans (F2.trans (F3.trans (F4.trans (F5.trans F6))))⟩
    refine QI (env:=[.val (.ref a),.val (.int i),.val (pgD P),.val (.tup [pgD (TR.QK P S.pg.length),pgD (TR.QA P),.int (TR.JN P)])]) ?_
    refine (Ql ((Zc t1).trans Zd)).trans ?_
    have pg:=jy A.h1 A.h2
    rw [pl] at pg
    refine (Ql (QX (QS (ZZ (Qe rfl) (QR (Xd A rfl) A.h1 (XF ..) Xe rfl pg)) rfl (Q5 pe hp)))).trans ?_
    refine (Ql (Jn (QR (Xd A rfl) A.h1 (Uu ..) (ZQ (Qj (Qe rfl) rfl (J2 (i:=1) rfl _))) rfl ly) (Qe rfl) A1.h3 wl)).trans ?_
    refine (Ql (XD (QR (Xd A2 rfl) A2.h1 (qU ..) (ZZ (Qe rfl) (Qj (Qe rfl) rfl (J2 (i:=0) rfl _))) rfl wr))).trans ?_
    refine (Ql (Jn (Qj (Qe rfl) rfl (J2 (i:=2) rfl _)) (Qe rfl) A3.h3 wl)).trans ?_
    refine (Ql (Jn (v:=.int ((P.lv + 1:Nat):Int)) (Qj (Qj (Qe rfl) rfl (xi P _)) rfl rfl) (Qe rfl) A4.h3 wl)).trans ?_
    have dg:qd "dict" Ym (QH "Walk" "forks" (Qd 0)) (Qc (QH "Walk" "goal" (Qd 0)) Qm) [.val (.ref a),.val (.int i),.val (pgD P),.val (.tup [pgD (TR.QK P S.pg.length),pgD (TR.QA P),.int (TR.JN P)])] _ = some (oN (TR.ZR w.forks (P.lv + 1)),_) :=
      QbP (Q8 (Qe rfl) A5.h3 (UB ..)) A5.h4 (ZQ (Q8 (Qe rfl) A5.h3 (GW ..)))
    refine (Ql (Jn dg (Qe rfl) A5.h3 wl)).trans ?_
    exact QO (Q8 (Qe rfl) A6.h3 (KJ ..))
end
theorem kL (x:DV) (xs:List DV):atI (x :: xs) 0 = some x:=Y6 (j:=0) rfl
theorem VQ {r a b:Int} {n k:Nat} {ps:List DV} {hp:Hs} {t i:Nat} {key:Int} {l:Int} {ks qs:List Int} {hi sd:Option Int} (h1:hp[n]? = some (.ins "Shelf" (shF r k t a b))) (h2:hp[k]? = some (.lst ps)) (hnk:n ≠ k) (hi1:i < ps.length) (ht:ps[t]? = some (Zg l ks qs hi sd)) (hl:ps.length < 99999) :
    ZP [.ref n,.int key,.int i] hp = some (.int ps.length,(hp.set n (.ins "Shelf" (shF r k ps.length a (b + 1)))).set k (.lst (ps ++ [Zg (l + 1) [key] [(t:Int),(i:Int)] none none]))):=by
  have c:=yz (i:=(i:Int)) h1 h2 (by omega) (by omega)
  have ht':atI ps (t:Int) = some (.tup [.int l,.tup (ks.map .int),.tup (qs.map .int),opt hi,opt sd]):=Y6 ht
  have y:=QaA (pg:=Zg (l + 1) [key] [(t:Int),(i:Int)] none none) h1 h2 hnk hl
  have pd:DV.tup [.int (l + 1),.tup [.int key],.tup [.int (t:Int),.int (i:Int)],.non,.non] = Zg (l + 1) [key] [(t:Int),(i:Int)] none none:=rfl
  have g1:((hp.set n (.ins "Shelf" (shF r k t a (b + 1)))).set k (.lst (ps ++ [Zg (l + 1) [key] [(t:Int),(i:Int)] none none])))[n]? = some (.ins "Shelf" (shF r k t a (b + 1))):=by
    rw [Q6 _ _ _ _ hnk.symm];exact Zn _ _ _ (by rw [h1];rfl)
  have g2:∀ X Y Z:OV,((hp.set n X).set k Y).set n Z = (hp.set n Z).set k Y:=fun X Y Z=>by
    rw [List.set_comm _ _ hnk,List.set_set,List.set_comm _ _ hnk.symm,List.set_comm _ _ hnk]
  have g3:((hp.set n (.ins "Shelf" (shF r k ps.length a (b + 1)))).set k (.lst (ps ++ [Zg (l + 1) [key] [(t:Int),(i:Int)] none none])))[n]? = some (.ins "Shelf" (shF r k ps.length a (b + 1))):=by
    rw [Q6 _ _ _ _ hnk.symm];exact Zn _ _ _ (by rw [h1];rfl)
  simp [ZP,X7,Q7,Qs,QL,QP,qr,sIf,ZH,yc,jX,ya,yb,Qn,Qd,eC,eB,asB,Yh,eOr,Xw,JR,xY,qm,eIf,xX,Qm,Qc,ZC,qc,Qt,Jf,QB,gN,Z1,Js,Z4,Jc,Jy,Jx,Jr,XC,qq,x9,Z3,J0,Ji,Q9,YN,Kv,Yd,gSb,xj,qd,Yl,QH,j7,xm,onI,onL,onD,JZ,XQ,js,Ym,ixG,XO,qN,qx,Yi,qF,asI,zY,KF,QD,JS,YK,J7,jh,evP,ZG,XS,JF,Xb,JP,XR,XU,XT,Zn,Q6,Jo,zH,lim,ixD,h1,h2,c,YT,uS,Qbn,yp,xp,Uu,ht',kL,pd,y,g1,g2,g3]
theorem Qbc {hp:Hs} {n k a f q:Nat} {S:TR.Sh} {w:TR.Wk} (A:At hp n k a f q S w) (D:Dif n k a f q) {c:Nat} {r:TR.Pg} {key:Int} (hc:c < S.pg.length) (hr:S.pg[S.top]? = some r) (hl:S.pg.length < 90000) :
    ZP [.ref n,.int key,.int c] hp = some (.int S.pg.length,(hp.set n (.ins "Shelf" (shF S.room k S.pg.length S.rd (S.wr + 1)))).set k (.lst ((S.pg ++ [(⟨r.lv + 1,[key],[(S.top:Int),(c:Int)],none,none⟩:TR.Pg)]).map pgD))):=by
  have ht:(S.pg.map pgD)[S.top]? = some (Zg r.lv r.ks r.ps r.hi (r.sd.map fun n=>(n:Int))):=by rw [List.getElem?_map,hr,Option.map_some,Xh]
  have e:=VQ (key:=key) A.h1 A.h2 D.nk (i:=c) (by simpa using hc) ht (by simp;omega)
  rw [e,List.length_map]
  rw [show Zg ((r.lv:Int) + 1) [key] [(S.top:Int),(c:Int)] none none = pgD ⟨r.lv + 1,[key],[(S.top:Int),(c:Int)],none,none⟩ from rfl,uJ]
theorem KB (S:TR.Sh) (w:TR.Wk) (i:Nat) (P:TR.Pg):(TR.Qr S w i P).2.2.worth = w.worth:=by
  unfold TR.Qr;split <;> rfl
section
variable {hp:Hs} {n k a f q:Nat} {S:TR.Sh} {w:TR.Wk} {i:Nat} {p:TR.Pg}
theorem Gc (A:At hp n k a f q S w) (D:Dif n k a f q) (word:Str) (t:Option Nat):∃ hp',JG [.ref a,.str word,.int i,oN t] hp = some (.tup [.str word,.int i,oN t],hp') /\ At hp' n k a f q S { w with place:=t } /\ Fr hp hp' n k a f q:=by
  obtain ⟨A1,F1⟩:=A.walk D { w with place:=t } rfl rfl
  refine ⟨_,?_,A1,F1⟩
  refine QI (env:=[.val (.ref a),.val (.str word),.val (.int i),.val (oN t)]) ?_
  exact (Ql (Jn (Qe rfl) (Qe rfl) A.h3 wl)).trans (QO (JQ (Z0 (Qe rfl) (Qe rfl) (Qe rfl)) (by simp)))
theorem VP (A:At hp n k a f q S w) (D:Dif n k a f q) {c:Nat} {r:TR.Pg} (hw:w.newp = some c) (hc:c < S.pg.length) (hr:S.pg[S.top]? = some r) (hl:S.pg.length < 90000):∃ hp',ZI [.ref a,.int i] hp = some (.tup [.str "raised", .int i,.int S.pg.length],hp') /\ At hp' n k a f q { S with pg:=S.pg ++ [⟨r.lv + 1,[w.aim],[(S.top:Int),(c:Int)],none,none⟩],top:=S.pg.length,wr:=S.wr + 1 } { w with ended:=true } /\ Fr hp hp' n k a f q:=by
  obtain ⟨A1,F1⟩:=A.walk D { w with ended:=true } rfl rfl
  have e:=Qbc (key:=w.aim) A1 D hc hr hl
  obtain ⟨A2,F2⟩:=A1.shelf D { S with pg:=S.pg ++ [⟨r.lv + 1,[w.aim],[(S.top:Int),(c:Int)],none,none⟩],top:=S.pg.length,wr:=S.wr + 1 } rfl
  refine ⟨_,?_,A2,F1.trans F2⟩
  refine QI (env:=[.val (.ref a),.val (.int i)]) ?_
  refine (Ql (Jn (v:=.bl true) rfl (Qe rfl) A.h3 wl)).trans ?_
  refine QO (JQ (Z0 rfl (Qe rfl) (QR (Xd A1 rfl) A1.h1 (GJ ..) (ZZ (Q8 (Qe rfl) A1.h3 (Yt ..)) (Q8 (d:=.int c) (Qe rfl) A1.h3 ((KJ ..).trans (by show some (oN w.newp) = _;rw [hw];rfl)))) rfl e)) (by simp))
theorem VB (A:At hp n k a f q S w) (D:Dif n k a f q) {env:En} (e0:env[0]? = some (.val (.ref a))) (e2:env[2]? = some (.val (pgD p))) (h1:p.ks.length <= 100) (h2:p.ps.length = p.ks.length) :
    ∃ hp',Q9 "Walk" "worth" (Qd 0) (Qt 2 J1 (Qc (Qd 2) (Qc (QH "Walk" "aim" (Qd 0)) Qm))) env hp = some ((.nx,env),hp') /\ At hp' n k a f q S { w with worth:=TR.QG p w.aim } /\ Fr hp hp' n k a f q:=by
  obtain ⟨A1,F1⟩:=A.walk D { w with worth:=TR.QG p w.aim } rfl rfl
  exact ⟨_,Jn (QS (ZZ (Qe e2) (Q8 (Qe e0) A.h3 (Yt ..))) rfl (Q5 (Qa3 p w.aim h1 h2) hp)) (Qe e0) A.h3 wl,A1,F1⟩
theorem QbS (A:At hp n k a f q S w) (D:Dif n k a f q) (h1:p.ks.length <= 100) (h2:p.ps.length = p.ks.length) :
    ∃ hp',J5 [.ref a,.int i,pgD p] hp = some (.tup [.str "found", .int i,opt (TR.QG p w.aim)],hp') /\ At hp' n k a f q S { w with worth:=TR.QG p w.aim,ended:=true } /\ Fr hp hp' n k a f q:=by
  obtain ⟨hp1,e1,A1,F1⟩:=VB (env:=[.val (.ref a),.val (.int i),.val (pgD p)]) A D rfl rfl h1 h2
  obtain ⟨A2,F2⟩:=A1.walk D { w with worth:=TR.QG p w.aim,ended:=true } rfl rfl
  refine ⟨_,?_,A2,F1.trans F2⟩
  refine QI (env:=[.val (.ref a),.val (.int i),.val (pgD p)]) ?_
  refine (Ql e1).trans ((Ql (Jn (v:=.bl true) rfl (Qe rfl) A1.h3 wl)).trans ?_)
  exact QO (JQ (Z0 rfl (Qe rfl) (Q8 (Qe rfl) A2.h3 (YW ..))) (by simp))
theorem Qef (A:At hp n k a f q S w) (D:Dif n k a f q) (hi:i < S.pg.length) {x y:Int} (hd:w.deed = .put y x) (h1:p.ks.length <= 90) (h2:p.ps.length = p.ks.length) (h3:S.room < (TR.QE p w.aim x).ks.length -> 3 <= (TR.QE p w.aim x).ks.length) (h4:(TR.QE p w.aim x).ks.length <= 100) (hl:S.pg.length < 90000) :
    ∃ hp',XG [.ref a,.int i,pgD p] hp = some (.tup [.str "put", .int i,opt (TR.QG p w.aim),oN (TR.Qr S { w with worth:=TR.QG p w.aim } i (TR.QE p w.aim x)).1],hp') /\ At hp' n k a f q (TR.Qr S { w with worth:=TR.QG p w.aim } i (TR.QE p w.aim x)).2.1 (TR.Qr S { w with worth:=TR.QG p w.aim } i (TR.QE p w.aim x)).2.2 /\ Fr hp hp' n k a f q:=by
  obtain ⟨hp1,e1,A1,F1⟩:=VB (env:=[.val (.ref a),.val (.int i),.val (pgD p),.un]) A D rfl rfl (by omega) h2
  obtain ⟨hp2,e2,A2,F2⟩:=Uq A1 D hi (TR.QE p w.aim x) h3 h4 hl
  refine ⟨hp2,?_,A2,F1.trans F2⟩
  refine QI (env:=[.val (.ref a),.val (.int i),.val (pgD p),.val (oN (TR.Qr S { w with worth:=TR.QG p w.aim } i (TR.QE p w.aim x)).1)]) ?_
  refine (Ql e1).trans ?_
  have dx:ixG (Jq w.deed) (.int 2) hp1 = some (.int x,hp1):=by rw [hd];exact J2 (i:=2) rfl hp1
  refine (Ql (QX (QR (Qe rfl) A1.h3 (QbB ..) (ZZ (Qe rfl) (QS (Z0 (Qe rfl) (Q8 (Qe rfl) A1.h3 (Yt ..)) (Qj (Q8 (Qe rfl) A1.h3 (jL ..)) rfl dx)) rfl (Q5 (Qck p w.aim x (by omega) (by omega)) hp1))) rfl e2))).trans ?_
  refine QO (JQ (kJ rfl (Qe rfl) (Q8 (Qe rfl) A2.h3 ((YW ..).trans ?_)) (Qe rfl)) (by simp))
  rw [KB]
theorem Qdm (A:At hp n k a f q S w) (D:Dif n k a f q) (hi:i < S.pg.length) (h1:p.ks.length <= 100) (h2:p.ps.length = p.ks.length) :
    ∃ hp',X1 [.ref a,.int i,pgD p] hp = some (.tup [.str "cut", .int i,opt (TR.QG p w.aim)],hp') /\ At hp' n k a f q (if (TR.QG p w.aim).isSome = true then { S with pg:=S.pg.set i (TR.without p w.aim),wr:=S.wr + 1 } else S) { w with worth:=TR.QG p w.aim,ended:=true } /\ Fr hp hp' n k a f q:=by
  obtain ⟨hp1,e1,A1,F1⟩:=VB (env:=[.val (.ref a),.val (.int i),.val (pgD p)]) A D rfl rfl h1 h2
  have t:∀ b:Bool,(TR.QG p w.aim).isSome = b -> eB (Qn Gi (QH "Walk" "worth" (Qd 0)) (eC .non)) [.val (.ref a),.val (.int i),.val (pgD p)] hp1 = some (b,hp1):=fun b hb=>Zm (Qj (Q8 (Qe rfl) A1.h3 (YW ..)) rfl (by rw [vH,hb];rfl))
  cases hs:(TR.QG p w.aim).isSome with
  | true =>
    rw [if_pos rfl]
    have wr:=VC (d:=pgD (TR.without p w.aim)) (i:=i) A1.h1 A1.h2 D.nk (by simpa using hi)
    rw [map_set] at wr
    obtain ⟨A2,F2⟩:=A1.shelf D { S with pg:=S.pg.set i (TR.without p w.aim),wr:=S.wr + 1 } rfl
    obtain ⟨A3,F3⟩:=A2.walk D { w with worth:=TR.QG p w.aim,ended:=true } rfl rfl
    refine ⟨_,?_,A3,F1.trans (F2.trans F3)⟩
    refine QI (env:=[.val (.ref a),.val (.int i),.val (pgD p)]) ?_
    refine (Ql e1).trans ?_
    refine (Ql ((ZE (t true hs)).trans (XD (QR (Xd A1 rfl) A1.h1 (qU ..) (ZZ (Qe rfl) (QS (ZZ (Qe rfl) (Q8 (Qe rfl) A1.h3 (Yt ..))) rfl (Q5 (vK p w.aim (by omega) (by omega)) hp1))) rfl wr)))).trans ?_
    refine (Ql (Jn (v:=.bl true) rfl (Qe rfl) A2.h3 wl)).trans ?_
    exact QO (JQ (Z0 rfl (Qe rfl) (Q8 (Qe rfl) A3.h3 (YW ..))) (by simp))
  | false =>
    rw [if_neg (by simp)]
    obtain ⟨A3,F3⟩:=A1.walk D { w with worth:=TR.QG p w.aim,ended:=true } rfl rfl
    refine ⟨_,?_,A3,F1.trans F3⟩
    refine QI (env:=[.val (.ref a),.val (.int i),.val (pgD p)]) ?_
    refine (Ql e1).trans ?_
    refine (Ql ((Zc (t false hs)).trans Zd)).trans ?_
    refine (Ql (Jn (v:=.bl true) rfl (Qe rfl) A1.h3 wl)).trans ?_
    exact QO (JQ (Z0 rfl (Qe rfl) (Q8 (Qe rfl) A3.h3 (YW ..))) (by simp))
theorem QcR (A:At hp n k a f q S w) (D:Dif n k a f q) (hi:i < S.pg.length) {c:Nat} (hw:w.newp = some c) (h1:p.ks.length <= 90) (h2:p.ps.length <= 100) (h3:S.room < (TR.QT p w.aim c).ks.length -> 3 <= (TR.QT p w.aim c).ks.length) (h4:(TR.QT p w.aim c).ks.length <= 100) (hl:S.pg.length < 90000) :
    ∃ hp',Xf [.ref a,.int i,pgD p] hp = some (.tup [.str "told", .int i,oN (TR.Qr S w i (TR.QT p w.aim c)).1],hp') /\ At hp' n k a f q (TR.Qr S w i (TR.QT p w.aim c)).2.1 (TR.Qr S w i (TR.QT p w.aim c)).2.2 /\ Fr hp hp' n k a f q:=by
  obtain ⟨hp2,e2,A2,F2⟩:=Uq A D hi (TR.QT p w.aim c) h3 h4 hl
  refine ⟨hp2,?_,A2,F2⟩
  refine QI (env:=[.val (.ref a),.val (.int i),.val (pgD p),.val (oN (TR.Qr S w i (TR.QT p w.aim c)).1)]) ?_
  have nw:QH "Walk" "new_page" (Qd 0) [.val (.ref a),.val (.int i),.val (pgD p),.un] hp = some (.int c,hp):=Q8 (Qe rfl) A.h3 ((KJ ..).trans (by rw [hw];rfl))
  refine (Ql (QX (QR (Qe rfl) A.h3 (QbB ..) (ZZ (Qe rfl) (QS (Z0 (Qe rfl) (Q8 (Qe rfl) A.h3 (Yt ..)) nw) rfl (Q5 (vJ p w.aim c (by omega) (by omega)) hp))) rfl e2))).trans ?_
  exact QO (JQ (Z0 rfl (Qe rfl) (Qe rfl)) (by simp))
end
section
variable {hp:Hs} {n k a f q:Nat} {S:TR.Sh} {w:TR.Wk} {i:Nat} {p:TR.Pg}
theorem QaU (A:At hp n k a f q S w) {l h:Int} (hl:p.ks.length <= 100) :
    Z9 [.val (.ref a),.val (.int i),.val (pgD p),.val (.int l),.val (.int h),.un] hp = some (.ref hp.length,hp ++ [OV.lst (prD (TR.QM p l h))]):=by
  have e0:U6 (Qn ixG (Qd 2) (eC (.int 1))) (Qn ixG (Qd 2) (eC (.int 2))) [.val (.ref a),.val (.int i),.val (pgD p),.val (.int l),.val (.int h),.un] hp = some (prD (p.ks.zip p.ps),hp):=by
    have x1:Qn ixG (Qd 2) (eC (.int 1)) [.val (.ref a),.val (.int i),.val (pgD p),.val (.int l),.val (.int h),.un] hp = some (.tup (p.ks.map .int),hp):=Qj (Qe rfl) rfl (Qa1 p hp)
    have x2:Qn ixG (Qd 2) (eC (.int 2)) [.val (.ref a),.val (.int i),.val (pgD p),.val (.int l),.val (.int h),.un] hp = some (.tup (p.ps.map .int),hp):=Qj (Qe rfl) rfl (vI p hp)
    unfold U6
    rw [Qg x1]
    show (VY (.tup (p.ks.map .int)) >>= _) hp = _
    rw [show VY (.tup (p.ks.map .int)) = pure (p.ks.map .int) from rfl,pure_bind,Qg x2,show VY (.tup (p.ps.map .int)) = pure (p.ps.map .int) from rfl,pure_bind,uV];rfl
  have e1:xOf (U6 (Qn ixG (Qd 2) (eC (.int 1))) (Qn ixG (Qd 2) (eC (.int 2)))) [.val (.ref a),.val (.int i),.val (pgD p),.val (.int l),.val (.int h),.un] hp = some (nxD (prD (p.ks.zip p.ps)),hp):=by
    unfold xOf;rw [Qg e0];rfl
  have hz:(p.ks.zip p.ps).length <= 100:=by rw [List.length_zip];omega
  have e2:=gk (hp:=hp) (t:=fun d=>eB (Y9 leD ltD (Qd 1) (Qn ixG (Qd 0) (eC (.int 0))) (Qd 2)) (cE [3,4] [.val (.ref a),.val (.int i),.val (pgD p),.val (.int l),.val (.int h),.un] d)) (f:=fun d=>Qd 0 (cE [3,4] [.val (.ref a),.val (.int i),.val (pgD p),.val (.int l),.val (.int h),.un] d)) (p:=Qct l h) (prD (p.ks.zip p.ps)) (fun d hd=>by
      obtain ⟨z,_,rfl⟩:=List.mem_map.mp hd
      have c:cE [3,4] [.val (.ref a),.val (.int i),.val (pgD p),.val (.int l),.val (.int h),.un] (.tup [.int z.1,.int z.2]) = [.val (.tup [.int z.1,.int z.2]),.val (.int l),.val (.int h)]:=rfl
      show eB (Y9 leD ltD (Qd 1) (Qn ixG (Qd 0) (eC (.int 0))) (Qd 2)) (cE [3,4] [.val (.ref a),.val (.int i),.val (pgD p),.val (.int l),.val (.int h),.un] (.tup [.int z.1,.int z.2])) hp = _
      rw [c]
      have x1:Qn ixG (Qd 0) (eC (.int 0)) [.val (.tup [.int z.1,.int z.2]),.val (.int l),.val (.int h)] hp = some (.int z.1,hp):=Qj (Qe rfl) rfl (J2 (i:=0) rfl hp)
      by_cases q1:l <= z.1
      . by_cases q2:z.1 < h <;> simp [eB,Y9,ZG,JF,x1,Qd,Jy,Jc,asB,Qct,q1,q2]
      . simp [eB,Y9,ZG,JF,x1,Qd,Jy,Jc,asB,Qct,q1])
    (fun d hd=>rfl) (by rw [Kq];omega)
  rw [vN] at e2
  unfold Z9 Jg
  rw [Qg e1,Qg (show ZL _ _ _ lim 0 hp = _ from e2)]
  rfl
theorem VR (A:At hp n k a f q S w) (D:Dif n k a f q) {l h:Int} (hd:w.deed = .stretch l h) (h1:p.ks.length <= 100) (hw:w.pairs.length <= 50000) (hlk:(p.hi = none /\ p.sd = none) ∨ ∃ x s,p.hi = some x /\ p.sd = some s) :
    ∃ hp',J6 [.ref a,.int i,pgD p] hp = some (Ve (TR.ZF S w i p).1,hp') /\ At hp' n k a f q (TR.ZF S w i p).2.1 (TR.ZF S w i p).2.2 /\ Fr hp hp' n k a f q:=by
  have d1:ixG (Jq w.deed) (.int 1) hp = some (.int l,hp):=by rw [hd];exact J2 (i:=1) rfl hp
  have d2:ixG (Jq w.deed) (.int 2) hp = some (.int h,hp):=by rw [hd];exact J2 (i:=2) rfl hp
  obtain ⟨A1,F1⟩:=A.more (OV.lst (prD (TR.QM p l h)))
  obtain ⟨A2,F2⟩:=A1.pair D { w with pairs:=w.pairs ++ TR.QM p l h } rfl rfl
  have pl:(TR.QM p l h).length <= 100:=by
    unfold TR.QM
    refine Nat.le_trans (List.length_filter_le _ _) ?_
    rw [List.length_zip];omega
  have gl:(hp ++ [OV.lst (prD (TR.QM p l h))])[hp.length]? = some (.lst (prD (TR.QM p l h))):=by simp
  have ql:q ≠ hp.length:=fun e=>by
    have:=(List.getElem?_eq_some_iff.mp A.h5).1;omega
  have ex:=gA (o:=QH "Walk" "pairs" (Qd 0)) (fa:=Qc (Qd 5) Qm) (env:=[.val (.ref a),.val (.int i),.val (pgD p),.val (.int l),.val (.int h),.val (.ref hp.length)]) (Q8 (Qe rfl) A1.h3 (kD ..)) A1.h5 (ZQ (Qe rfl)) gl (by rw [Kq,Kq];omega)
  rw [Qcs] at ex
  have tw:∀ {hpx:Hs} {env:En},hpx[hp.length]? = some (.lst (prD (TR.QM p l h))) -> env[5]? = some (.val (.ref hp.length)) -> Jf kz (Qc (Qd 5) Qm) env hpx = some (.tup (prD (TR.QM p l h)),hpx):=fun {hpx env} hx he=>by
    unfold Jf
    rw [Qg (ZQ (Qe he))]
    show (Jz hp.length >>= _) hpx = _
    rw [Qg (JX hx)];rfl
  have gl2:((hp ++ [OV.lst (prD (TR.QM p l h))]).set q (OV.lst (prD (w.pairs ++ TR.QM p l h))))[hp.length]? = some (.lst (prD (TR.QM p l h))):=gs ql gl
  have al:a ≠ hp.length:=fun e=>by
    have:=(List.getElem?_eq_some_iff.mp A.h3).1;omega
  have start:∀ (g:DSx) (r:(Fl × En) × Hs),g [.val (.ref a),.val (.int i),.val (pgD p),.val (.int l),.val (.int h),.val (.ref hp.length)] ((hp ++ [OV.lst (prD (TR.QM p l h))]).set q (OV.lst (prD (w.pairs ++ TR.QM p l h)))) = some r ->
      Qs (QL 3 (Qn ixG (QH "Walk" "deed" (Qd 0)) (eC (.int 1)))) (Qs (QL 4 (Qn ixG (QH "Walk" "deed" (Qd 0)) (eC (.int 2)))) (Qs (QL 5 Z9) (Qs (Ji (qd "list" jt (QH "Walk" "pairs" (Qd 0)) (Qc (Qd 5) Qm))) g))) [.val (.ref a),.val (.int i),.val (pgD p),.un,.un,.un] hp = some r:=fun g r hg=>by
    refine (Ql (QX (Qj (Q8 (Qe rfl) A.h3 (jL ..)) rfl d1))).trans ?_
    refine (Ql (QX (Qj (Q8 (Qe rfl) A.h3 (jL ..)) rfl d2))).trans ?_
    refine (Ql (QX (QaU A h1))).trans ?_
    exact (Ql (XD ex)).trans hg
  have fin:∃ hp',Qs (Q9 "Walk" "ended" (Qd 0) (eC (.bl true))) (QP (ZC (Qc (eC (.str "read")) (Qc (Qd 1) (Qc (Jf kz (Qc (Qd 5) Qm)) (Qc (eC .non) (Qc (eC .non) Qm))))))) [.val (.ref a),.val (.int i),.val (pgD p),.val (.int l),.val (.int h),.val (.ref hp.length)] ((hp ++ [OV.lst (prD (TR.QM p l h))]).set q (OV.lst (prD (w.pairs ++ TR.QM p l h)))) = some ((.rt (Ve (.read i (TR.QM p l h) none)),[.val (.ref a),.val (.int i),.val (pgD p),.val (.int l),.val (.int h),.val (.ref hp.length)]),hp') /\ At hp' n k a f q S { w with pairs:=w.pairs ++ TR.QM p l h,ended:=true } /\ Fr hp hp' n k a f q:=by
    obtain ⟨A3,F3⟩:=A2.walk D { w with pairs:=w.pairs ++ TR.QM p l h,ended:=true } rfl rfl
    refine ⟨_,?_,A3,F1.trans (F2.trans F3)⟩
    refine (Ql (Jn (v:=.bl true) rfl (Qe rfl) A2.h3 wl)).trans ?_
    exact QO (JQ (kK rfl (Qe rfl) (tw (gs al gl2) rfl) rfl rfl) (by simp))
  have hiE:∀ hpx:Hs,Qn ixG (Qd 2) (eC (.int 3)) [.val (.ref a),.val (.int i),.val (pgD p),.val (.int l),.val (.int h),.val (.ref hp.length)] hpx = some (opt p.hi,hpx):=fun hpx=>Qj (Qe rfl) rfl (Qd3 p hpx)
  have sdE:∀ hpx:Hs,Qn ixG (Qd 2) (eC (.int 4)) [.val (.ref a),.val (.int i),.val (pgD p),.val (.int l),.val (.int h),.val (.ref hp.length)] hpx = some (oN p.sd,hpx):=fun hpx=>Qj (Qe rfl) rfl (Qa2 p hpx)
  rcases hlk with ⟨e1,e2⟩ | ⟨x,s,e1,e2⟩
  . rw [gI hd e1]
    obtain ⟨hp',ef,Af,Ff⟩:=fin
    refine ⟨hp',QI (start _ _ (Q3 ((ZE (hp1:=_) ?_).trans ef))),Af,Ff⟩
    exact Qc5 (Zm (Qj (hiE _) rfl (by rw [xh,e1];rfl)))
  . rw [QaB hd e1 e2]
    by_cases hx:h <= x
    . rw [if_pos hx]
      obtain ⟨hp',ef,Af,Ff⟩:=fin
      refine ⟨hp',QI (start _ _ (Q3 ((ZE (hp1:=_) ?_).trans ef))),Af,Ff⟩
      exact (K7 (Zm (b:=false) (Qj (hiE _) rfl (by rw [xh,e1];rfl)))).trans (Zm (Qj (hiE _) (Qe rfl) (by rw [e1];show geD (.int x) (.int h) _ = _;rw [Jx,decide_eq_true hx];rfl)))
    . rw [if_neg hx]
      obtain ⟨A3,F3⟩:=A2.walk D { w with pairs:=w.pairs ++ TR.QM p l h,aim:=x } rfl rfl
      obtain ⟨A4,F4⟩:=A3.walk D { w with pairs:=w.pairs ++ TR.QM p l h,aim:=x,place:=some s } rfl rfl
      refine ⟨_,QI (env:=[.val (.ref a),.val (.int i),.val (pgD p),.val (.int l),.val (.int h),.val (.ref hp.length)]) (start _ _ ?_),A4,F1.trans (F2.trans (F3.trans F4))⟩
      refine (Ql ((Zc ((K7 (Zm (b:=false) (Qj (hiE _) rfl (by rw [xh,e1];rfl)))).trans (Zm (b:=false) (Qj (hiE _) (Qe rfl) (by rw [e1];show geD (.int x) (.int h) _ = _;rw [Jx,decide_eq_false hx];rfl))))).trans Zd)).trans ?_
      refine (Ql (Jn (v:=.int x) ((hiE _).trans (by rw [e1];rfl)) (Qe rfl) A2.h3 wl)).trans ?_
      refine (Ql (Jn (v:=.int s) ((sdE _).trans (by rw [e2];rfl)) (Qe rfl) A3.h3 wl)).trans ?_
      exact QO (JQ (kK rfl (Qe rfl) (tw (gs al (gs al gl2)) rfl) (Q8 (Qe rfl) A4.h3 (YV ..)) (Q8 (Qe rfl) A4.h3 (Yt ..))) (by simp))
end
section
variable {hp:Hs} {n k a f q:Nat} {S:TR.Sh} {w:TR.Wk} {i:Nat} {p:TR.Pg}
theorem qW:PyData.strOk "find" = true:=by decide +kernel
theorem jJ:PyData.strOk "put" = true:=by decide +kernel
theorem jI:PyData.strOk "cut" = true:=by decide +kernel
theorem KE:PyData.strOk "stretch" = true:=by decide +kernel
def yE:TR.Deed -> Str
  | .find _ => "find"
  | .put _ _ => "put"
  | .cut _ => "cut"
  | .stretch _ _ => "stretch"
theorem gw (d:TR.Deed) (hp:Hs):ixG (Jq d) (.int 0) hp = some (.str (yE d),hp):=by cases d <;> exact J2 (i:=0) rfl hp
theorem vh (A:At hp n k a f q S w) (D:Dif n k a f q) (hi:i < S.pg.length) (h1:p.ks.length <= 90) (h2:p.ps.length = p.ks.length) (h3:∀ x,S.room < (TR.QE p w.aim x).ks.length -> 3 <= (TR.QE p w.aim x).ks.length) (h4:∀ x,(TR.QE p w.aim x).ks.length <= 100) (hl:S.pg.length < 90000) (hw:w.pairs.length <= 50000) (hlk:(p.hi = none /\ p.sd = none) ∨ ∃ x s,p.hi = some x /\ p.sd = some s) :
    ∃ hp',X2 [.ref a,.int i,pgD p] hp = some (Ve (TR.ZF S w i p).1,hp') /\ At hp' n k a f q (TR.ZF S w i p).2.1 (TR.ZF S w i p).2.2 /\ Fr hp hp' n k a f q:=by
  have s0:QL 3 (Qn ixG (QH "Walk" "deed" (Qd 0)) (eC (.int 0))) [.val (.ref a),.val (.int i),.val (pgD p),.un] hp = some ((.nx,[.val (.ref a),.val (.int i),.val (pgD p),.val (.str (yE w.deed))]),hp):=QX (Qj (Q8 (Qe rfl) A.h3 (jL ..)) rfl (gw w.deed hp))
  have tst:∀ (x:Str) (b:Bool),PyData.strOk (yE w.deed) = true -> PyData.strOk x = true -> (yE w.deed == x) = b -> eB (Qn eqG (Qd 3) (eC (.str x))) [.val (.ref a),.val (.int i),.val (pgD p),.val (.str (yE w.deed))] hp = some (b,hp):=fun x b o1 o2 e=>Zm (Qj (Qe rfl) rfl (eqS hp o1 o2 e))
  have ag:∀ (nm:Str) (fn:List DV -> M DV) (d:DV) (hp':Hs),List.lookup nm (wkF n f q (Jq w.deed) (.int w.aim) (.int w.goal) (oN w.place) (oN w.newp) (opt w.worth) (.bl w.ended)) = none -> fn [.ref a,.int i,pgD p] hp = some (d,hp') -> QP (QD "Walk" nm 3 fn (Qd 0) (Qc (Qd 1) (Qc (Qd 2) Qm))) [.val (.ref a),.val (.int i),.val (pgD p),.val (.str (yE w.deed))] hp = some ((.rt d,[.val (.ref a),.val (.int i),.val (pgD p),.val (.str (yE w.deed))]),hp'):=fun nm fn d hp' e1 e2=>QO (QR (Qe rfl) A.h3 e1 (ZZ (Qe rfl) (Qe rfl)) rfl e2)
  cases hd:w.deed with
  | find y =>
    obtain ⟨hp',e,A',F'⟩:=QbS (i:=i) A D (by omega) h2
    refine ⟨hp',?_,by rw [yS hd];exact A',F'⟩
    rw [yS hd]
    have t:=tst "find" true (by rw [hd];exact qW) qW (by rw [hd];show (("find" : Str) == ("find" : Str)) = true;decide)
    exact QI ((Ql s0).trans (Q3 ((ZE t).trans (ag _ _ _ _ (Qev ..) e))))
  | put y x =>
    obtain ⟨hp',e,A',F'⟩:=Qef (i:=i) A D hi hd h1 h2 (h3 x) (h4 x) hl
    refine ⟨hp',?_,by rw [Ue hd];exact A',F'⟩
    rw [Ue hd]
    have t1:=tst "find" false (by rw [hd];exact jJ) qW (by rw [hd];show (("put" : Str) == ("find" : Str)) = false;decide)
    have t2:=tst "put" true (by rw [hd];exact jJ) jJ (by rw [hd];show (("put" : Str) == ("put" : Str)) = true;decide)
    exact QI ((Ql s0).trans ((Ql ((Zc t1).trans Zd)).trans (Q3 ((ZE t2).trans (ag _ _ _ _ (Qew ..) e)))))
  | cut y =>
    obtain ⟨hp',e,A',F'⟩:=Qdm (i:=i) A D hi (by omega) h2
    refine ⟨hp',?_,by rw [Ud hd];exact A',F'⟩
    rw [Ud hd]
    have t1:=tst "find" false (by rw [hd];exact jI) qW (by rw [hd];show (("cut" : Str) == ("find" : Str)) = false;decide)
    have t2:=tst "put" false (by rw [hd];exact jI) jJ (by rw [hd];show (("cut" : Str) == ("put" : Str)) = false;decide)
    have t3:=tst "cut" true (by rw [hd];exact jI) jI (by rw [hd];show (("cut" : Str) == ("cut" : Str)) = true;decide)
    exact QI ((Ql s0).trans ((Ql ((Zc t1).trans Zd)).trans ((Ql ((Zc t2).trans Zd)).trans (Q3 ((ZE t3).trans (ag _ _ _ _ (Qex ..) e))))))
  | stretch l h =>
    obtain ⟨hp',e,A',F'⟩:=VR (i:=i) A D hd (by omega) hw hlk
    refine ⟨hp',?_,A',F'⟩
    have t1:=tst "find" false (by rw [hd];exact KE) qW (by rw [hd];show (("stretch" : Str) == ("find" : Str)) = false;decide)
    have t2:=tst "put" false (by rw [hd];exact KE) jJ (by rw [hd];show (("stretch" : Str) == ("put" : Str)) = false;decide)
    have t3:=tst "cut" false (by rw [hd];exact KE) jI (by rw [hd];show (("stretch" : Str) == ("cut" : Str)) = false;decide)
    exact QI ((Ql s0).trans ((Ql ((Zc t1).trans Zd)).trans ((Ql ((Zc t2).trans Zd)).trans ((Ql ((Zc t3).trans Zd)).trans (ag _ _ _ _ (Qey ..) e)))))
theorem yq {bg:TR.Bg} {r:TR.Row} {S':TR.Sh} {w':TR.Wk} (T:TR.Tree S bg) (W:TR.WOk S bg w) (hr:S.room <= 50) (A:At hp n k a f q S w) (D:Dif n k a f q) (hl:S.pg.length < 90000) (hf:w.forks.length < 5000) (hw:w.pairs.length <= 50000) (hs:TR.Z7 S w = some (r,S',w')) :
    ∃ hp',Zz [.ref a] hp = some (Ve r,hp') /\ At hp' n k a f q S' w' /\ Fr hp hp' n k a f q:=by
  have env0:([DV.ref a].map Sl.val ++ List.replicate (3 - [DV.ref a].length) Sl.un) = [.val (.ref a),.un,.un]:=rfl
  cases he:w.ended with
  | true =>
    unfold TR.Z7 at hs
    rw [if_pos he] at hs
    cases hs
    refine ⟨hp,?_,A,Fr.refl⟩
    exact QI (env:=[.val (.ref a),.un,.un]) (Q3 ((ZE (Zm (Q8 (Qe rfl) A.h3 ((YU ..).trans (by rw [he]))))).trans (QO (d:=.non) rfl)))
  | false =>
    obtain ⟨m,hm0,hpl⟩:∃ m,w.place.getD S.top = m /\ (w.place = some m ∨ (w.place = none /\ m = S.top)):=by
      cases e:w.place with
      | none=>exact ⟨S.top,rfl,.inr ⟨rfl,rfl⟩⟩
      | some m=>exact ⟨m,rfl,.inl rfl⟩
    unfold TR.Z7 at hs
    rw [if_neg (by rw [he];simp),hm0] at hs
    cases hg:S.pg[m]? with
    | none=>rw [hg] at hs;cases hs
    | some p =>
      rw [hg] at hs
      simp only at hs
      have ok:=T.page m p hg
      have hml:m < S.pg.length:=(List.getElem?_eq_some_iff.mp hg).1
      have hps:p.ps.length <= 100:=by have a1:=ok.parts;have a2:=ok.few;split at a1 <;> omega
      have hks:p.ks.length <= 90:=by have a2:=ok.few;omega
      have r2:=T.room2
      have st0:sIf (eB (QH "Walk" "ended" (Qd 0))) (QP (eC .non)) ZH [.val (.ref a),.un,.un] hp = some ((.nx,[.val (.ref a),.un,.un]),hp):=(Zc (Zm (Q8 (Qe rfl) A.h3 ((YU ..).trans (by rw [he]))))).trans Zd
      have num:eIf (eB (Qn isD (QH "Walk" "place" (Qd 0)) (eC .non))) (QD "Shelf" "root" 1 Zq (QH "Walk" "shelf" (Qd 0)) Qm) (QH "Walk" "place" (Qd 0)) [.val (.ref a),.un,.un] hp = some (.int m,hp):=by
        rcases hpl with e | ⟨e,rfl⟩
        . exact (QeL (Zm (b:=false) (Qj (Q8 (Qe rfl) A.h3 (YV ..)) rfl (by rw [yY,e];rfl)))).trans (Q8 (Qe rfl) A.h3 ((YV ..).trans (by rw [e];rfl)))
        . exact (QeM (Zm (Qj (Q8 (Qe rfl) A.h3 (YV ..)) rfl (by rw [yY,e];rfl)))).trans (QR (Xd A rfl) A.h1 (qh ..) Xe rfl (Ku A.h1))
      have rd:=Ks (i:=m) (d:=pgD p) A.h1 A.h2 D.nk (by rw [List.getElem?_map,hg];rfl)
      obtain ⟨A1,F1⟩:=A.count D { S with rd:=S.rd + 1 } rfl rfl
      have st1:=QX (i:=1) num
      have st2:QL 2 (QD "Shelf" "read" 2 Q0 (QH "Walk" "shelf" (Qd 0)) (Qc (Qd 1) Qm)) [.val (.ref a),.val (.int m),.un] hp = some ((.nx,[.val (.ref a),.val (.int m),.val (pgD p)]),(hp.set n (.ins "Shelf" (shF S.room k S.top (S.rd + 1) S.wr)))):=QX (QR (Xd A rfl) A.h1 (qg ..) (ZQ (Qe rfl)) rfl rd)
      have lvE:∀ hpx:Hs,Qn ixG (Qd 2) (eC (.int 0)) [.val (.ref a),.val (.int m),.val (pgD p)] hpx = some (.int p.lv,hpx):=fun hpx=>Qj (Qe rfl) rfl (xi p hpx)
      have plE:eB (Qn isD (QH "Walk" "place" (Qd 0)) (eC .non)) [.val (.ref a),.val (.int m),.val (pgD p)] (hp.set n (.ins "Shelf" (shF S.room k S.top (S.rd + 1) S.wr))) = some (w.place.isNone,(hp.set n (.ins "Shelf" (shF S.room k S.top (S.rd + 1) S.wr)))):=Zm (Qj (Q8 (Qe rfl) A1.h3 (YV ..)) rfl (by rw [yY];rfl))
      have glE:QH "Walk" "goal" (Qd 0) [.val (.ref a),.val (.int m),.val (pgD p)] (hp.set n (.ins "Shelf" (shF S.room k S.top (S.rd + 1) S.wr))) = some (.int w.goal,(hp.set n (.ins "Shelf" (shF S.room k S.top (S.rd + 1) S.wr)))):=Q8 (Qe rfl) A1.h3 (GW ..)
      have t1:Yh (eB (Qn isD (QH "Walk" "place" (Qd 0)) (eC .non))) (eB (Qn ltD (Qn ixG (Qd 2) (eC (.int 0))) (QH "Walk" "goal" (Qd 0)))) [.val (.ref a),.val (.int m),.val (pgD p)] (hp.set n (.ins "Shelf" (shF S.room k S.top (S.rd + 1) S.wr))) = some (decide (w.place = none /\ p.lv < w.goal),(hp.set n (.ins "Shelf" (shF S.room k S.top (S.rd + 1) S.wr)))):=by
        cases hp0:w.place with
        | none =>
          rw [hp0] at plE
          refine (Qae plE).trans (Zm (Qj (lvE _) glE ?_))
          rw [Jc]
          show some (DV.bl _,_) = _
          congr 3
          by_cases z:p.lv < w.goal
          . rw [decide_eq_true (show (p.lv:Int) < w.goal by omega),decide_eq_true (show (none:Option Nat) = none /\ p.lv < w.goal from ⟨rfl,z⟩)]
          . rw [decide_eq_false (show ¬ (p.lv:Int) < w.goal by omega),decide_eq_false (fun h=>z h.2)]
        | some z =>
          rw [hp0] at plE
          rw [decide_eq_false (fun h=>by cases h.1)]
          exact Qad plE
      have go:∀ (g:DSx) (x:(Fl × En) × Hs),g [.val (.ref a),.val (.int m),.val (pgD p)] (hp.set n (.ins "Shelf" (shF S.room k S.top (S.rd + 1) S.wr))) = some x -> Qs (sIf (eB (QH "Walk" "ended" (Qd 0))) (QP (eC .non)) ZH) (Qs (QL 1 (eIf (eB (Qn isD (QH "Walk" "place" (Qd 0)) (eC .non))) (QD "Shelf" "root" 1 Zq (QH "Walk" "shelf" (Qd 0)) Qm) (QH "Walk" "place" (Qd 0)))) (Qs (QL 2 (QD "Shelf" "read" 2 Q0 (QH "Walk" "shelf" (Qd 0)) (Qc (Qd 1) Qm))) g)) [.val (.ref a),.un,.un] hp = some x:=fun g x hg=>(Ql st0).trans ((Ql st1).trans ((Ql st2).trans hg))
      by_cases hr1:w.place = none /\ p.lv < w.goal
      . rw [if_pos hr1] at hs
        rw [decide_eq_true hr1] at t1
        cases hn:w.newp with
        | none=>rw [hn] at hs;cases hs
        | some c =>
          rw [hn] at hs
          simp only [Option.some.injEq,Prod.mk.injEq] at hs
          obtain ⟨rfl,rfl,rfl⟩:=hs
          have htop:m = S.top:=by
            rcases hpl with e | ⟨_,e⟩
            . rw [hr1.1] at e;cases e
            . exact e
          subst htop
          obtain ⟨c',z,b1,b2,_⟩:=W.tell (by omega)
          rw [hn] at b1;cases b1
          obtain ⟨hp',e,A',F'⟩:=VP (i:=S.top) A1 D hn (List.getElem?_eq_some_iff.mp b2).1 hg hl
          rw [hn] at A'
          refine ⟨hp',?_,A',F1.trans F'⟩
          exact QI (go _ _ (Q3 ((ZE t1).trans (QO (QR (Qe rfl) A1.h3 (Qeu ..) (ZQ (Qe rfl)) rfl e)))))
      . rw [if_neg hr1] at hs
        rw [decide_eq_false hr1] at t1
        have t2:eB (Qt 2 YD (Qc (Qd 2) (Qc (QH "Walk" "aim" (Qd 0)) Qm))) [.val (.ref a),.val (.int m),.val (pgD p)] (hp.set n (.ins "Shelf" (shF S.room k S.top (S.rd + 1) S.wr))) = some (TR.Za p w.aim,(hp.set n (.ins "Shelf" (shF S.room k S.top (S.rd + 1) S.wr)))):=Zm (QS (ZZ (Qe rfl) (Q8 (Qe rfl) A1.h3 (Yt ..))) rfl (Q5 (gQ p w.aim) _))
        have go2:∀ (g:DSx) (x:(Fl × En) × Hs),g [.val (.ref a),.val (.int m),.val (pgD p)] (hp.set n (.ins "Shelf" (shF S.room k S.top (S.rd + 1) S.wr))) = some x -> Qs (sIf (Yh (eB (Qn isD (QH "Walk" "place" (Qd 0)) (eC .non))) (eB (Qn ltD (Qn ixG (Qd 2) (eC (.int 0))) (QH "Walk" "goal" (Qd 0))))) (QP (QD "Walk" "raise_root_over" 2 ZI (Qd 0) (Qc (Qd 1) Qm))) ZH) g [.val (.ref a),.val (.int m),.val (pgD p)] (hp.set n (.ins "Shelf" (shF S.room k S.top (S.rd + 1) S.wr))) = some x:=fun g x hg=>(Ql ((Zc t1).trans Zd)).trans hg
        cases hb:TR.Za p w.aim with
        | true =>
          rw [hb,if_pos rfl] at hs
          rw [hb] at t2
          cases hsd:p.sd with
          | none=>rw [hsd] at hs;cases hs
          | some s =>
            rw [hsd] at hs
            simp only [Option.some.injEq,Prod.mk.injEq] at hs
            obtain ⟨rfl,rfl,rfl⟩:=hs
            obtain ⟨hp',e,A',F'⟩:=Gc (i:=m) A1 D "side" (some s)
            refine ⟨hp',?_,A',F1.trans F'⟩
            refine QI (go _ _ (go2 _ _ (Q3 ((ZE t2).trans (QO (QR (Qe rfl) A1.h3 (QbA ..) (Z0 rfl (Qe rfl) (Qj (Qe rfl) rfl (Qa2 p _))) rfl ?_))))))
            rw [hsd];exact e
        | false =>
          rw [hb,if_neg (by simp)] at hs
          rw [hb] at t2
          have t3:eB (Qn gtD (Qn ixG (Qd 2) (eC (.int 0))) (QH "Walk" "goal" (Qd 0))) [.val (.ref a),.val (.int m),.val (pgD p)] (hp.set n (.ins "Shelf" (shF S.room k S.top (S.rd + 1) S.wr))) = some (decide (w.goal < p.lv),(hp.set n (.ins "Shelf" (shF S.room k S.top (S.rd + 1) S.wr)))):=Zm (Qj (lvE _) glE (by
            rw [Z4]
            show some (DV.bl _,_) = _
            congr 3
            by_cases z:w.goal < p.lv
            . rw [decide_eq_true z,decide_eq_true (by omega)]
            . rw [decide_eq_false z,decide_eq_false (by omega)]))
          by_cases hd:w.goal < p.lv
          . rw [if_pos hd] at hs
            rw [decide_eq_true hd] at t3
            cases hc:p.ps[TR.cLe p.ks w.aim]? with
            | none=>rw [hc] at hs;cases hs
            | some c =>
              rw [hc] at hs
              simp only [Option.some.injEq,Prod.mk.injEq] at hs
              obtain ⟨rfl,rfl,rfl⟩:=hs
              have pl:=ok.parts
              rw [if_neg (by omega)] at pl
              obtain ⟨c',z,b1,b2,_⟩:=T.kid m p hg (by omega) _ _ hc
              subst b1
              obtain ⟨A2,F2⟩:=A1.fork D { w with forks:=TR.qQ w.forks p.lv m } rfl rfl
              obtain ⟨hp',e,A',F'⟩:=Gc (i:=m) A2 D "down" (some c')
              refine ⟨hp',?_,by rw [Int.toNat_natCast];exact A',F1.trans (F2.trans F')⟩
              have ke:=Qd4 p w.aim c' (by omega) pl hc
              have pt:Yd (Qd 1) (gSb (QH "Walk" "forks" (Qd 0)) (Qn ixG (Qd 2) (eC (.int 0)))) [.val (.ref a),.val (.int m),.val (pgD p)] (hp.set n (.ins "Shelf" (shF S.room k S.top (S.rd + 1) S.wr))) = some ((.nx,[.val (.ref a),.val (.int m),.val (pgD p)]),(hp.set n (.ins "Shelf" (shF S.room k S.top (S.rd + 1) S.wr))).set f (.dic (fkD (TR.qQ w.forks p.lv m)))):=Qel (Qe rfl) (Q8 (Qe rfl) A1.h3 (UB ..)) (lvE _) A1.h4 hf
              refine QI (go _ _ (go2 _ _ ((Ql ((Zc t2).trans Zd)).trans (Q3 ((ZE t3).trans ((Ql pt).trans (QO (QR (Qe rfl) A2.h3 (QbA ..) (Z0 rfl (Qe rfl) (QS (ZZ (Qe rfl) (Q8 (Qe rfl) A2.h3 (Yt ..))) rfl (Q5 ke _))) rfl ?_))))))))
              rw [show Ve (TR.Row.down m (c':Int).toNat) = .tup [.str "down", .int m,.int c'] from by rw [Int.toNat_natCast];rfl]
              exact e
          . rw [if_neg hd] at hs
            rw [decide_eq_false hd] at t3
            have go3:∀ (g:DSx) (x:(Fl × En) × Hs),g [.val (.ref a),.val (.int m),.val (pgD p)] (hp.set n (.ins "Shelf" (shF S.room k S.top (S.rd + 1) S.wr))) = some x -> Qs (sIf (eB (Qt 2 YD (Qc (Qd 2) (Qc (QH "Walk" "aim" (Qd 0)) Qm)))) (QP (QD "Walk" "go_on" 4 JG (Qd 0) (Qc (eC (.str "side")) (Qc (Qd 1) (Qc (Qn ixG (Qd 2) (eC (.int 4))) Qm))))) ZH) (Qs (sIf (eB (Qn gtD (Qn ixG (Qd 2) (eC (.int 0))) (QH "Walk" "goal" (Qd 0)))) (Qs (Yd (Qd 1) (gSb (QH "Walk" "forks" (Qd 0)) (Qn ixG (Qd 2) (eC (.int 0))))) (QP (QD "Walk" "go_on" 4 JG (Qd 0) (Qc (eC (.str "down")) (Qc (Qd 1) (Qc (Qt 2 YE (Qc (Qd 2) (Qc (QH "Walk" "aim" (Qd 0)) Qm))) Qm)))))) ZH) g) [.val (.ref a),.val (.int m),.val (pgD p)] (hp.set n (.ins "Shelf" (shF S.room k S.top (S.rd + 1) S.wr))) = some x:=fun g x hg=>(Ql ((Zc t2).trans Zd)).trans ((Ql ((Zc t3).trans Zd)).trans hg)
            have t4:eB (Qn gtD (QH "Walk" "goal" (Qd 0)) (eC (.int 0))) [.val (.ref a),.val (.int m),.val (pgD p)] (hp.set n (.ins "Shelf" (shF S.room k S.top (S.rd + 1) S.wr))) = some (decide (0 < w.goal),(hp.set n (.ins "Shelf" (shF S.room k S.top (S.rd + 1) S.wr)))):=Zm (Qj glE rfl (by
              rw [Z4]
              show some (DV.bl _,_) = _
              congr 3
              by_cases z:0 < w.goal
              . rw [decide_eq_true z,decide_eq_true (by omega)]
              . rw [decide_eq_false z,decide_eq_false (by omega)]))
            have glv:w.goal <= p.lv:=by
              rcases hpl with e | ⟨e,_⟩
              . obtain ⟨p',b1,b2,_⟩:=W.at_ m e
                rw [hg] at b1;cases b1;exact b2
              . exact Nat.le_of_not_lt fun h=>hr1 ⟨e,h⟩
            by_cases h0:0 < w.goal
            . rw [if_pos h0] at hs
              rw [decide_eq_true h0] at t4
              cases hn:w.newp with
              | none=>rw [hn] at hs;cases hs
              | some c =>
                rw [hn] at hs
                simp only [Option.some.injEq,Prod.mk.injEq] at hs
                obtain ⟨rfl,rfl,rfl⟩:=hs
                have kl:=TR.xO ok (k:=w.aim) (c:=c)
                obtain ⟨hp',e,A',F'⟩:=QcR (i:=m) (p:=p) A1 D hml hn hks hps (fun z=>by have:S.room < (TR.QT p w.aim c).ks.length:=z;omega) (by omega) hl
                refine ⟨hp',?_,A',F1.trans F'⟩
                exact QI (go _ _ (go2 _ _ (go3 _ _ (Q3 ((ZE t4).trans (QO (QR (Qe rfl) A1.h3 (Qet ..) (ZZ (Qe rfl) (Qe rfl)) rfl e)))))))
            . rw [if_neg h0] at hs
              rw [decide_eq_false h0] at t4
              have hz:p.lv = 0:=by omega
              have pl:=ok.parts
              rw [if_pos hz] at pl
              have kl:∀ x,(TR.QE p w.aim x).ks.length <= S.room + 1:=fun x=>TR.jK ok
              obtain ⟨hp',e,A',F'⟩:=vh (i:=m) (p:=p) A1 D hml hks (by omega) (fun x z=>by have:S.room < (TR.QE p w.aim x).ks.length:=z;omega) (fun x=>by have:=kl x;omega) hl hw ((T.link m p hg).imp id fun ⟨x,s,_,b1,b2,_⟩=>⟨x,s,b1,b2⟩)
              have hs':=Option.some.inj hs
              refine ⟨hp',?_,?_,F1.trans F'⟩
              . rw [show r = (TR.ZF { S with rd:=S.rd + 1 } w m p).1 by rw [hs']]
                exact QI (go _ _ (go2 _ _ (go3 _ _ ((Ql ((Zc t4).trans Zd)).trans (QO (QR (Qe rfl) A1.h3 (Qes ..) (ZZ (Qe rfl) (Qe rfl)) rfl e))))))
              . rw [show S' = (TR.ZF { S with rd:=S.rd + 1 } w m p).2.1 by rw [hs'],show w' = (TR.ZF { S with rd:=S.rd + 1 } w m p).2.2 by rw [hs']]
                exact A'
end
theorem Qbz (n:Nat) (d:TR.Deed) (hp:Hs):Zi [.ref hp.length,.ref n,Jq d] (hp ++ [.ins "Walk" []]) = some (.non,hp ++ [wkO n (hp.length + 1) (hp.length + 2) (TR.fresh d),.dic [],.lst []]):=by
  have st:∀ (nm:Str) (e:DEx) (v:DV) (fs:List (Str × DV)) (t t':Hs),e [.val (.ref hp.length),.val (.ref n),.val (Jq d)] (hp ++ .ins "Walk" fs :: t) = some (v,hp ++ .ins "Walk" fs :: t') -> fs.length < 1000 -> Q9 "Walk" nm (Qd 0) e [.val (.ref hp.length),.val (.ref n),.val (Jq d)] (hp ++ .ins "Walk" fs :: t) = some ((.nx,[.val (.ref hp.length),.val (.ref n),.val (Jq d)]),hp ++ .ins "Walk" (Xa nm v fs) :: t'):=fun nm e v fs t t' he hl=>by
    rw [Jn he (Qe rfl) (Qam hp _ _) hl,Qbi]
  have a1:∀ fs,J7 [.val (.ref hp.length),.val (.ref n),.val (Jq d)] (hp ++ .ins "Walk" fs :: []) = some (.ref (hp.length + 1),hp ++ .ins "Walk" fs :: [.dic []]):=fun fs=>by
    show some (DV.ref (hp ++ [OV.ins "Walk" fs]).length,(hp ++ [OV.ins "Walk" fs]) ++ [OV.dic []]) = _
    simp
  have a2:∀ fs,YK Qm [.val (.ref hp.length),.val (.ref n),.val (Jq d)] (hp ++ .ins "Walk" fs :: [.dic []]) = some (.ref (hp.length + 2),hp ++ .ins "Walk" fs :: [.dic [],.lst []]):=fun fs=>by
    show some (DV.ref (hp ++ [OV.ins "Walk" fs,OV.dic []]).length,(hp ++ [OV.ins "Walk" fs,OV.dic []]) ++ [OV.lst []]) = _
    simp
  refine QcH (env:=[.val (.ref hp.length),.val (.ref n),.val (Jq d)]) ?_
  refine (Ql (st "shelf" _ (.ref n) [] [] [] (Qe rfl) (Nat.lt_of_le_of_lt (m:=20) (by repeat (first | exact Nat.zero_le _ | refine JV ?_)) (by decide)))).trans ?_
  refine (Ql (st "deed" _ (Jq d) _ [] [] (Qe rfl) (Nat.lt_of_le_of_lt (m:=20) (by repeat (first | exact Nat.zero_le _ | refine JV ?_)) (by decide)))).trans ?_
  refine (Ql (st "aim" _ (.int d.key) _ [] [] (Qj (Qe rfl) rfl (kZ d _)) (Nat.lt_of_le_of_lt (m:=20) (by repeat (first | exact Nat.zero_le _ | refine JV ?_)) (by decide)))).trans ?_
  refine (Ql (st "goal" _ (.int 0) _ [] [] rfl (Nat.lt_of_le_of_lt (m:=20) (by repeat (first | exact Nat.zero_le _ | refine JV ?_)) (by decide)))).trans ?_
  refine (Ql (st "place" _ .non _ [] [] rfl (Nat.lt_of_le_of_lt (m:=20) (by repeat (first | exact Nat.zero_le _ | refine JV ?_)) (by decide)))).trans ?_
  refine (Ql (st "forks" _ (.ref (hp.length + 1)) _ [] [.dic []] (a1 _) (Nat.lt_of_le_of_lt (m:=20) (by repeat (first | exact Nat.zero_le _ | refine JV ?_)) (by decide)))).trans ?_
  refine (Ql (st "new_page" _ .non _ [.dic []] [.dic []] rfl (Nat.lt_of_le_of_lt (m:=20) (by repeat (first | exact Nat.zero_le _ | refine JV ?_)) (by decide)))).trans ?_
  refine (Ql (st "worth" _ .non _ [.dic []] [.dic []] rfl (Nat.lt_of_le_of_lt (m:=20) (by repeat (first | exact Nat.zero_le _ | refine JV ?_)) (by decide)))).trans ?_
  refine (Ql (st "pairs" _ (.ref (hp.length + 2)) _ [.dic []] [.dic [],.lst []] (a2 _) (Nat.lt_of_le_of_lt (m:=20) (by repeat (first | exact Nat.zero_le _ | refine JV ?_)) (by decide)))).trans ?_
  exact st "ended" _ (.bl false) _ [.dic [],.lst []] [.dic [],.lst []] rfl (Nat.lt_of_le_of_lt (m:=20) (by repeat (first | exact Nat.zero_le _ | refine JV ?_)) (by decide))
theorem VA {n:Nat} {d:TR.Deed} {fa:DAx} {env:En} {hp0 hp:Hs} (ha:fa env hp0 = some ([.ref n,Jq d],hp)):JS "Walk" 3 Zi fa env hp0 = some (.ref hp.length,hp ++ [wkO n (hp.length + 1) (hp.length + 2) (TR.fresh d),.dic [],.lst []]):=by
  unfold JS
  rw [Qg ha]
  have al:Y5 (.ins "Walk" []) hp = some (.ref hp.length,hp ++ [.ins "Walk" []]):=rfl
  have gd:QB (decide ([DV.ref n,Jq d].length + 1 = 3)) hp = some ((),hp):=rfl
  rw [Qg gd,Qg al,Qg (Qbz n d hp)];rfl
theorem jv {hp:Hs} {n f q a:Nat} {w:TR.Wk} (h:hp[a]? = some (wkO n f q w)):ZY [.ref a] hp = some (.bl w.ended,hp):=QI (QO (Q8 (Qe rfl) h (YU ..)))
def qO (c p m:Int):Int:=(c + p / 3) % p * ((c + p / 3) % p) % p * ((c + p / 3) % p) % p % m
theorem Jd (c p m:Int) (h0:0 < p) (h1:p < 1073741824) (hm:0 < m):Qu [.int c,.int p,.int m] = pure (.int (qO c p m)):=by
  have l0:0 <= (c + p / 3) % p:=Int.emod_nonneg _ (by omega)
  have l1:(c + p / 3) % p < p:=Int.emod_lt_of_pos _ h0
  have d:=K3 p 3 (by decide) (by decide)
  have a:=XB (c + p / 3) p h0
  have b:=xf ((c + p / 3) % p) ((c + p / 3) % p) (by omega) (by omega)
  have e:=XB ((c + p / 3) % p * ((c + p / 3) % p)) p h0
  have f:=vF ((c + p / 3) % p * ((c + p / 3) % p) % p) ((c + p / 3) % p) (by omega) (by omega)
  have g:=XB ((c + p / 3) % p * ((c + p / 3) % p) % p * ((c + p / 3) % p)) p h0
  have h:=XB ((c + p / 3) % p * ((c + p / 3) % p) % p * ((c + p / 3) % p) % p) m hm
  simp [Qu,yx,Q7,Qs,QL,QP,Qn,Qd,eC,Z1,d,a,b,e,f,g,h,qO]
theorem Xo (c p m:Int) (h:0 < m):0 <= qO c p m:=Int.emod_nonneg _ (by omega)
theorem Yn (c p m:Int) (h:0 < m):qO c p m < m:=Int.emod_lt_of_pos _ h
theorem Qdb:qP (.int 10) (.int 40) = pure (.int 10000000000000000000000000000000000000000):=rfl
def emp:DV:=.tup [.int 0,.tup [],.tup [],.non,.non]
theorem pf0 (d:DV):Xa ("page_room" : Str) d [] = [(("page_room" : Str),d)]:=by rfl
theorem pf1 (x d:DV):Xa ("kept" : Str) d [(("page_room" : Str),x)] = [(("page_room" : Str),x),(("kept" : Str),d)]:=by rfl
theorem pf2 (x y d:DV):Xa ("top" : Str) d [(("page_room" : Str),x),(("kept" : Str),y)] = [(("page_room" : Str),x),(("kept" : Str),y),(("top" : Str),d)]:=by rfl
theorem pf3 (x y z d:DV):Xa ("read_count" : Str) d [(("page_room" : Str),x),(("kept" : Str),y),(("top" : Str),z)] = [(("page_room" : Str),x),(("kept" : Str),y),(("top" : Str),z),(("read_count" : Str),d)]:=by rfl
theorem pf4 (x y z u d:DV):Xa ("write_count" : Str) d [(("page_room" : Str),x),(("kept" : Str),y),(("top" : Str),z),(("read_count" : Str),u)] = [(("page_room" : Str),x),(("kept" : Str),y),(("top" : Str),z),(("read_count" : Str),u),(("write_count" : Str),d)]:=by rfl
theorem Qb2 (r:Int) (hp:Hs):ZO [.ref hp.length,.int r] (hp ++ [.ins "Shelf" []]) = some (.non,hp ++ [.ins "Shelf" (shF r (hp.length + 1) 0 0 0),.lst [emp]]):=by
  simp [ZO,YH,Q7,Qs,QL,QP,qr,sIf,ZH,yc,jX,ya,yb,Qn,Qd,eC,eB,asB,Yh,eOr,Xw,JR,xY,qm,eIf,xX,Qm,Qc,ZC,qc,Qt,Jf,QB,gN,Z1,Js,Z4,Jc,Jy,Jx,Jr,XC,qq,x9,Z3,J0,Ji,Q9,YN,Kv,Yd,gSb,xj,qd,Yl,QH,j7,xm,onI,onL,onD,JZ,XQ,js,Ym,ixG,XO,qN,qx,Yi,qF,asI,zY,KF,QD,JS,YK,J7,jh,evP,ZG,XS,JF,Xb,JP,XR,XU,XT,Zn,Q6,Jo,Qam,Qbi,pf0,pf1,pf2,pf3,pf4,zH,lim,shF,emp]
theorem Qbx (r:Nat) (h:2 <= r):TR.Tree ⟨r,[⟨0,[],[],none,none⟩],0,0,0⟩ (fun _=>none):=by
  have one:∀ (n:Nat) (p:TR.Pg),([⟨0,[],[],none,none⟩]:List TR.Pg)[n]? = some p -> n = 0 /\ p = ⟨0,[],[],none,none⟩:=fun n p hp=>by
    match n,hp with
    | 0,hp=>cases hp;exact ⟨rfl,rfl⟩
    | n + 1,hp=>simp at hp
  refine ⟨h,⟨_,rfl,fun n p hp=>?_⟩,rfl,fun n p hp=>?_,fun n p hp=>?_,fun n p hp h0=>?_,fun n m p q hn hm _ e=>?_,fun n p hp v hv=>(by cases hv)⟩
  . rw [(one n p hp).2];exact Nat.le_refl _
  . rw [(one n p hp).2]
    exact ⟨List.Pairwise.nil,Nat.zero_le _,rfl,fun k hk=>(by cases hk),fun _ k hk=>(by cases hk),fun k hk=>(by cases hk),fun h hh=>(by cases hh)⟩
  . rw [(one n p hp).2];exact .inl ⟨rfl,rfl⟩
  . rw [(one n p hp).2] at h0;exact absurd h0 (by decide)
  . exact absurd ((one n p hn).1.trans (one m q hm).1.symm) e
theorem QdJ (a b:Int):Kk [.int a,.int b] = pure (.int (if b < a then b else a)):=rfl
theorem QeT (c:Int) (hp:Hs):∃ k,YF [.int c] hp = some (.int k,hp):=by
  have p5:=Jd c 10007 5 (by decide) (by decide) (by decide)
  have g:=Xo c 10007 5 (by decide)
  have l:=Yn c 10007 5 (by decide)
  generalize qO c 10007 5 = q at p5 g l
  let e:En:=[.val (.int c),.val (.int q)]
  have s1:QL 1 (Qt 3 Qu (Qc (Qd 0) (Qc (eC (.int 10007)) (Qc (eC (.int 5)) Qm)))) [.val (.int c),.un] hp = some ((.nx,e),hp):=QX (QS (Z0 (Qe rfl) rfl rfl) rfl (Q5 p5 _))
  have t:eB (Qn eqD (Qd 1) (eC (.int 0))) e hp = some (q == 0,hp):=Zm (Qj (Qe rfl) rfl (Q5 (Z3 _ _) _))
  by_cases h:q = 0
  . rw [h] at t
    have a:=XB c 10000000000000000000000000000000000000000 (by decide)
    have b:=vF (c % 10000000000000000000000000000000000000000) 1000000000039 (by decide) (by decide)
    have d:=xf 2 1000000000000000000000000000000 (by decide) (by decide)
    have m:=XB (c % 10000000000000000000000000000000000000000 * 1000000000039 + 11) 2000000000000000000000000000001 (by decide)
    exact ⟨_,QI (env:=e) ((Ql s1).trans (Q3 ((ZE t).trans (QO (Qj (Qj (Qj (Qj (Qj (Qe rfl) (Qj rfl rfl (Q5 Qdb _)) (Q5 a _)) rfl (Q5 b _)) rfl rfl) (Qj (Qj rfl (Qj rfl rfl (Q5 XC _)) (Q5 d _)) rfl rfl) (Q5 m _)) (Qj rfl rfl (Q5 XC _)) rfl)))))⟩
  . rw [show (q == 0) = false by simpa using h] at t
    obtain ⟨v,hv,hpos⟩:∃ v:Int,atI [DV.int 10,.int 10,.int 41,.int 120,.int 120] q = some (.int v) /\ 0 < v:=by
      rcases (by omega:q = 1 ∨ q = 2 ∨ q = 3 ∨ q = 4) with r | r | r | r <;> rw [r]
      . exact ⟨10,rfl,by decide⟩
      . exact ⟨41,rfl,by decide⟩
      . exact ⟨120,rfl,by decide⟩
      . exact ⟨120,rfl,by decide⟩
    refine ⟨_,QI (env:=e) ((Ql s1).trans ((Ql ((Zc t).trans Zd)).trans (QO (Qj (QS (Z0 (v'':=.int v) (Qe rfl) rfl (Qj (x:=.lst [.int 10,.int 10,.int 41,.int 120,.int 120]) rfl (Qe rfl) ?_)) rfl (Q5 (Jd c 10009 v (by decide) (by decide) hpos) _)) rfl rfl))))⟩
    show qx (atI _ q) hp = _
    rw [hv];rfl
theorem QcU (c:Int) (hp:Hs):∃ k,qA [.int c] hp = some (.int k,hp):=by
  have p4:=Jd c 10037 4 (by decide) (by decide) (by decide)
  have t:eB (Qn eqD (Qt 3 Qu (Qc (Qd 0) (Qc (eC (.int 10037)) (Qc (eC (.int 4)) Qm)))) (eC (.int 0))) [.val (.int c)] hp = some (qO c 10037 4 == 0,hp):=Zm (Qj (QS (Z0 (Qe rfl) rfl rfl) rfl (Q5 p4 _)) rfl (Q5 (Z3 _ _) _))
  by_cases h:qO c 10037 4 = 0
  . rw [h] at t
    have a:=XB c 10000000000000000000000000000000000000000 (by decide)
    have b:=vF (c % 10000000000000000000000000000000000000000) 1000000000039 (by decide) (by decide)
    have d:=xf 2 1000000000000000000000000000000 (by decide) (by decide)
    have m:=XB (c % 10000000000000000000000000000000000000000 * 1000000000039 + 5) 2000000000000000000000000000001 (by decide)
    exact ⟨_,QI (env:=[.val (.int c)]) (Q3 ((ZE t).trans (QO (Qj (Qj (Qj (Qj (Qj (Qe rfl) (Qj rfl rfl (Q5 Qdb _)) (Q5 a _)) rfl (Q5 b _)) rfl rfl) (Qj (Qj rfl (Qj rfl rfl (Q5 XC _)) (Q5 d _)) rfl rfl) (Q5 m _)) (Qj rfl rfl (Q5 XC _)) rfl))))⟩
  . rw [show (qO c 10037 4 == 0) = false by simpa using h] at t
    exact ⟨_,QI (env:=[.val (.int c)]) ((Ql ((Zc t).trans Zd)).trans (QO (Qj (QS (Z0 (Qe rfl) rfl rfl) rfl (Q5 (Jd c 10039 9 (by decide) (by decide) (by decide)) _)) rfl rfl)))⟩
theorem Qdp (c:Int) (hp:Hs):∃ d,X3 [.int c] hp = some (Jq d,hp) /\ TR.GZ d:=by
  have p10:=Jd c 10061 10 (by decide) (by decide) (by decide)
  obtain ⟨k,ke⟩:=QeT c hp
  obtain ⟨x,xe⟩:=QcU c hp
  generalize qO c 10061 10 = kd at p10
  let E:Sl -> Sl -> Sl -> En:=fun z3 z4 z5=>[.val (.int c),.val (.int kd),.val (.int k),z3,z4,z5]
  have s1:QL 1 (Qt 3 Qu (Qc (Qd 0) (Qc (eC (.int 10061)) (Qc (eC (.int 10)) Qm)))) [.val (.int c),.un,.un,.un,.un,.un] hp = some ((.nx,[.val (.int c),.val (.int kd),.un,.un,.un,.un]),hp):=QX (QS (Z0 (Qe rfl) rfl rfl) rfl (Q5 p10 _))
  have s2:QL 2 (Qt 1 YF (Qc (Qd 0) Qm)) [.val (.int c),.val (.int kd),.un,.un,.un,.un] hp = some ((.nx,E .un .un .un),hp):=QX (QS (ZQ (Qe rfl)) rfl ke)
  have t:∀ n:Int,eB (Qn ltD (Qd 1) (eC (.int n))) (E .un .un .un) hp = some (decide (kd < n),hp):=fun n=>Zm (Qj (Qe rfl) rfl (Q5 (Jc _ _) _))
  have go:∀ (g:DSx) (d:DV) (e:En),g (E .un .un .un) hp = some ((.rt d,e),hp) -> Qs (QL 1 (Qt 3 Qu (Qc (Qd 0) (Qc (eC (.int 10061)) (Qc (eC (.int 10)) Qm))))) (Qs (QL 2 (Qt 1 YF (Qc (Qd 0) Qm))) g) [.val (.int c),.un,.un,.un,.un,.un] hp = some ((.rt d,e),hp):=fun g d e h=>(Ql s1).trans ((Ql s2).trans h)
  by_cases h1:kd < 5
  . have t5:=t 5
    rw [decide_eq_true h1] at t5
    exact ⟨.put k x,QI (go _ _ _ (Q3 ((ZE t5).trans (QO (JQ (Z0 rfl (Qe rfl) (QS (ZQ (Qe rfl)) rfl xe)) (by simp)))))),trivial⟩
  have t5:=t 5
  rw [decide_eq_false h1] at t5
  by_cases h2:kd < 7
  . have t7:=t 7
    rw [decide_eq_true h2] at t7
    exact ⟨.cut k,QI (go _ _ _ ((Ql ((Zc t5).trans Zd)).trans (Q3 ((ZE t7).trans (QO (JQ (ZZ rfl (Qe rfl)) (by simp))))))),trivial⟩
  have t7:=t 7
  rw [decide_eq_false h2] at t7
  by_cases h3:kd < 9
  . have t9:=t 9
    rw [decide_eq_true h3] at t9
    exact ⟨.find k,QI (go _ _ _ ((Ql ((Zc t5).trans Zd)).trans ((Ql ((Zc t7).trans Zd)).trans (Q3 ((ZE t9).trans (QO (JQ (ZZ rfl (Qe rfl)) (by simp)))))))),trivial⟩
  have t9:=t 9
  rw [decide_eq_false h3] at t9
  have p50:=Jd c 10067 50 (by decide) (by decide) (by decide)
  have p150:=Jd c 10151 150 (by decide) (by decide) (by decide)
  have p4:=Jd c 10069 4 (by decide) (by decide) (by decide)
  have g4:=Xo c 10069 4 (by decide)
  have l4:=Yn c 10069 4 (by decide)
  have g50:=Xo c 10067 50 (by decide)
  have g150:=Xo c 10151 150 (by decide)
  generalize qO c 10069 4 = w4 at p4 g4 l4
  generalize qO c 10067 50 = x5 at p50 g50
  generalize qO c 10151 150 = x15 at p150 g150
  obtain ⟨lo,el,lo1⟩:∃ lo:Int,Kk [.int k,.int (1000000000000000000000000000000 - 1)] = pure (.int lo) /\ lo <= 999999999999999999999999999999:=⟨_,QdJ _ _,by split <;> omega⟩
  obtain ⟨ne,en,ne1⟩:∃ ne:Int,Kk [.int 1000000000000000000000000000000,.int (lo + 1 + x5)] = pure (.int ne) /\ lo < ne:=⟨_,QdJ _ _,by split <;> omega⟩
  obtain ⟨fa,ef,fa1⟩:∃ fa:Int,Kk [.int 1000000000000000000000000000000,.int (lo + 51 + x15)] = pure (.int fa) /\ lo < fa:=⟨_,QdJ _ _,by split <;> omega⟩
  obtain ⟨v,hv,lv⟩:∃ v:Int,atI [DV.int (lo + 1),.int ne,.int fa,.int 1000000000000000000000000000000] w4 = some (.int v) /\ lo < v:=by
    rcases (by omega:w4 = 0 ∨ w4 = 1 ∨ w4 = 2 ∨ w4 = 3) with q | q | q | q <;> rw [q]
    . exact ⟨_,rfl,by omega⟩
    . exact ⟨_,rfl,ne1⟩
    . exact ⟨_,rfl,fa1⟩
    . exact ⟨_,rfl,by omega⟩
  have pw:∀ e:En,Qn qP (eC (.int 10)) (eC (.int 30)) e hp = some (.int 1000000000000000000000000000000,hp):=fun e=>Qj rfl rfl (Q5 XC _)
  have pk:∀ (e:En) (p m r:Int),e[0]? = some (.val (.int c)) -> Qu [.int c,.int p,.int m] = pure (.int r) -> Qt 3 Qu (Qc (Qd 0) (Qc (eC (.int p)) (Qc (eC (.int m)) Qm))) e hp = some (.int r,hp):=fun e p m r h h'=>QS (Z0 (Qe h) rfl rfl) rfl (Q5 h' _)
  refine ⟨.stretch lo v,QI (go _ _ (E (.val (.int lo)) (.val (.int ne)) (.val (.int fa))) ((Ql ((Zc t5).trans Zd)).trans ((Ql ((Zc t7).trans Zd)).trans ((Ql ((Zc t9).trans Zd)).trans ?_)))),lv⟩
  refine (Ql (env1:=E (.val (.int lo)) .un .un) (hp1:=hp) (QX (zM (ZZ (Qe rfl) (Qj (pw _) rfl rfl)) (Q5 el _)))).trans ?_
  refine (Ql (env1:=E (.val (.int lo)) (.val (.int ne)) .un) (hp1:=hp) (QX (zM (ZZ (pw _) (Qj (Qj (Qe rfl) rfl rfl) (pk _ _ _ _ rfl p50) rfl)) (Q5 en _)))).trans ?_
  refine (Ql (env1:=E (.val (.int lo)) (.val (.int ne)) (.val (.int fa))) (hp1:=hp) (QX (zM (ZZ (pw _) (Qj (Qj (Qe rfl) rfl rfl) (pk _ _ _ _ rfl p150) rfl)) (Q5 ef _)))).trans (QO ?_)
  have ls:qc (Qc (Qn ZJ (Qd 3) (eC (.int 1))) (Qc (Qd 4) (Qc (Qd 5) (Qc (Qn qP (eC (.int 10)) (eC (.int 30))) Qm)))) (E (.val (.int lo)) (.val (.int ne)) (.val (.int fa))) hp = some (.lst [.int (lo + 1),.int ne,.int fa,.int 1000000000000000000000000000000],hp):=by
    unfold qc
    rw [Qg (kJ (Qj (Qe rfl) rfl rfl) (Qe rfl) (Qe rfl) (pw _))];rfl
  refine JQ (Z0 rfl (Qe rfl) (Qj ls (pk _ _ _ _ rfl p4) ?_)) (by simp)
  show qx (atI _ w4) hp = _
  rw [hv];rfl
def dF (F:Int -> Option Int):TR.Deed -> Int -> Option Int
  | .put k x=>TR.ku F k x
  | .cut k=>TR.GQ F k
  | _=>F
theorem QbY {b:DV -> DSx} {d:DV} {ds:List DV} {env env1:En} {hp hp1:Hs} {x:DV} (h:b d env hp = some ((.rt x,env1),hp1)):Yx b (d :: ds) env hp = some ((.rt x,env1),hp1):=by
  show (b d env hp).bind _ = _
  rw [h];rfl
theorem kc {n k a:Nat} {dv:DV} (D:Dif n k a (a + 1) (a + 2)) {m:Nat} {S:TR.Sh} {v:TR.Wk} {S':TR.Sh} {v':TR.Wk} (st:TR.Steps m S v S' v') (he:v'.ended = true):∀ {bg:TR.Bg} {F:Int -> Option Int} {w:Hs} (i:Nat) (z:Sl),TR.Al S bg F v -> S.room <= 50 -> At w n k a (a + 1) (a + 2) S v -> S.pg.length <= 1000 + i -> v.forks.length <= i -> v.pairs.length <= 50 * i -> i + m < 1000 ->
    ∃ w' z',Yx (fun d env=>do let env' <- gN 3 d env;jq env') ((QW 0 1000).drop i) [.val (.ref n),.val dv,.val (.ref a),z] w = some ((.rt (.ref a),[.val (.ref n),.val dv,.val (.ref a),z']),w') /\ At w' n k a (a + 1) (a + 2) S' v' /\ Fr w w' n k a (a + 1) (a + 2):=by
  induction st with
  | nil S v =>
    intro bg F w i z A hr A0 h1 h2 h3 h4
    have il:i < (QW 0 1000).length:=by rw [Zk];omega
    have ei:(QW 0 1000)[i] = .int (i:Int):=(Xp (List.getElem?_eq_getElem il)).2
    rw [List.drop_eq_getElem_cons il,ei]
    have ov:=jv A0.h3
    rw [he] at ov
    refine ⟨w,.val (.int (i:Int)),QbY ?_,A0,Fr.refl⟩
    exact Q3 ((ZE (Zm (QR (Qe rfl) A0.h3 (jN ..) Xe rfl ov))).trans (QO (Qe rfl)))
  | @cons m S S1 S' v v1 v' r hw hs rest ih =>
    intro bg F w i z A hr A0 h1 h2 h3 h4
    have il:i < (QW 0 1000).length:=by rw [Zk];omega
    have ei:(QW 0 1000)[i] = .int (i:Int):=(Xp (List.getElem?_eq_getElem il)).2
    rw [List.drop_eq_getElem_cons il,ei]
    have ov:=jv A0.h3
    rw [hw] at ov
    obtain ⟨r',S2,v2,bg2,F2,es,A2,g2,_,_,rm2⟩:=A.step hw
    rw [hs] at es
    cases es
    obtain ⟨w2,e2,At2,Fr2⟩:=yq A.tree (A.wok hw) hr A0 D (by omega) (by omega) (by omega) hs
    have sz:=TR.Vw (m:=50) (fun m p hm=>by have:=(A.tree.page m p hm).few;omega) hs
    obtain ⟨_,_,_,bgx,esx,stx⟩:=TR.yr A.tree (A.wok hw) hw (A.unt hw)
    rw [hs] at esx
    cases esx
    have ln:=stx.len
    obtain ⟨w3,z3,e3,At3,Fr3⟩:=ih he (i + 1) (.val (.int (i:Int))) A2 (by omega) At2 (by omega) (by omega) (by omega) (by omega)
    refine ⟨w3,z3,(QbX ?_).trans e3,At3,Fr2.trans Fr3⟩
    exact (Ql ((Zc (Zm (QR (Qe rfl) A0.h3 (jN ..) Xe rfl ov))).trans Zd)).trans (XD (QR (Qe rfl) A0.h3 (jM ..) Xe rfl e2))
theorem Qdi {F F':Int -> Option Int} {v:TR.Wk}:∀ {d:TR.Deed},TR.Ans F F' v d -> F' = dF F d
  | .find _,h=>h.1
  | .put _ _,h=>h.1
  | .cut _,h=>h.1
  | .stretch _ _,h=>h.1
theorem Qdt {hp:Hs} {n k:Nat} {S:TR.Sh} {bg:TR.Bg} {F:Int -> Option Int} (T:TR.Tree S bg) (Dt:∀ s,s < S.pg.length -> s ≠ S.top -> TR.Kd S s) (K:TR.Fk S) (hT:TR.TabIs S F) (hr:S.room <= 50) (h1:hp[n]? = some (.ins "Shelf" (shF S.room k S.top S.rd S.wr))) (h2:hp[k]? = some (.lst (S.pg.map pgD))) (nk:n ≠ k) (hl:S.pg.length <= 900) (d:TR.Deed) (hd:TR.GZ d) :
    ∃ x hp' S' bg',YX [.ref n,Jq d] hp = some (x,hp') /\ TR.Tree S' bg' /\ (∀ s,s < S'.pg.length -> s ≠ S'.top -> TR.Kd S' s) /\ TR.Fk S' /\ TR.TabIs S' (dF F d) /\ TR.Grow S bg S' bg' /\ TR.Jl S' 0 <= TR.Jl S 0 + 1 /\ S'.room = S.room /\ hp'[n]? = some (.ins "Shelf" (shF S'.room k S'.top S'.rd S'.wr)) /\ hp'[k]? = some (.lst (S'.pg.map pgD)) /\ hp.length <= hp'.length /\ ∀ i,i < hp.length -> i ≠ n -> i ≠ k -> hp'[i]? = hp[i]?:=by
  have ln:n < hp.length:=(List.getElem?_eq_some_iff.mp h1).1
  have lk:k < hp.length:=(List.getElem?_eq_some_iff.mp h2).1
  have D:Dif n k hp.length (hp.length + 1) (hp.length + 2):=⟨nk,by omega,by omega,by omega,by omega,by omega,by omega,by omega,by omega,by omega⟩
  let w0:=hp ++ [wkO n (hp.length + 1) (hp.length + 2) (TR.fresh d),.dic [],.lst []]
  have A0:At w0 n k hp.length (hp.length + 1) (hp.length + 2) S (TR.fresh d):=⟨(List.getElem?_append_left ln).trans h1,(List.getElem?_append_left lk).trans h2,by simp [w0],by show (hp ++ _)[_]? = _;rw [List.getElem?_append_right (by omega)];simp;rfl,by show (hp ++ _)[_]? = _;rw [List.getElem?_append_right (by omega)];simp;rfl⟩
  obtain ⟨m,S',bg',F',v',g,st,ml,A',he,an,_,rm⟩:=TR.QeD T Dt K hT d hd
  have AF:TR.Al S bg F (TR.fresh d):=by
    refine ⟨T,K,hT,fun n h1 h2=>.inl (Dt n h1 h2),fun _=>?_,fun _=>TR.WOk.fresh rfl rfl rfl,fun _ h=>absurd h (by show ¬ 0 < 0;omega)⟩
    cases d with
    | find k=>rfl
    | put k x=>rfl
    | cut k=>rfl
    | stretch l h=>exact ⟨hd,.inl rfl⟩
  obtain ⟨w',z',eM,At',F'⟩:=kc (dv:=Jq d) D st he 0 .un AF hr A0 (by omega) (by simp [TR.fresh]) (by simp [TR.fresh]) (by omega)
  have lv:=st.leaves AF
  have l1:TR.lvs S (TR.fresh d) = TR.Jl S 0 + 1:=by unfold TR.lvs;rw [if_pos ⟨rfl,rfl⟩]
  have l2:TR.lvs S' v' = TR.Jl S' 0:=by unfold TR.lvs;rw [if_neg (fun q=>by rw [he] at q;cases q.2)];rfl
  have tab:=A'.tab
  rw [Qdi an] at tab
  refine ⟨.ref hp.length,w',S',bg',?_,A'.tree,A'.all_told (.inr he),A'.fk,tab,g,by omega,rm,At'.h1,At'.h2,by have:=F'.1;simp [w0] at this;omega,fun i hi a1 a2=>?_⟩
  . have mk:QL 2 (JS "Walk" 3 Zi (Qc (Qd 0) (Qc (Qd 1) Qm))) [.val (.ref n),.val (Jq d),.un,.un] hp = some ((.nx,[.val (.ref n),.val (Jq d),.val (.ref hp.length),.un]),w0):=QX (VA (ZZ (Qe rfl) (Qe rfl)))
    rw [List.drop_zero] at eM
    have L:zX [.val (.ref n),.val (Jq d),.val (.ref hp.length),.un] w0 = some ((.rt (.ref hp.length),[.val (.ref n),.val (Jq d),.val (.ref hp.length),z']),w'):=J4 (XN (m:=1000) (ZQ rfl) (by omega)) eM
    exact QI ((Ql mk).trans (Q3 L))
  . rw [F'.2 i (by simp [w0];omega) a1 a2 (by omega) (by omega) (by omega)]
    exact List.getElem?_append_left hi
structure Inv (w:Hs) (S:TR.Sh) (bg:TR.Bg) (F:Int -> Option Int) (kvs:List (Key × DV)) (N:Nat):Prop where
  T:TR.Tree S bg
  D:∀ s,s < S.pg.length -> s ≠ S.top -> TR.Kd S s
  K:TR.Fk S
  tab:TR.TabIs S F
  rm:S.room <= 50
  cnt:TR.Jl S 0 <= N + 1
  h0:w[0]? = some (.dic kvs)
  h1:w[1]? = some (.ins "Shelf" (shF S.room 2 S.top S.rd S.wr))
  h2:w[2]? = some (.lst (S.pg.map pgD))
  zl:kvs.length <= N
theorem QfD (r:Nat) (h:2 <= r) (h':r <= 50):Inv [.dic [],.ins "Shelf" (shF r 2 0 0 0),.lst [emp]] ⟨r,[⟨0,[],[],none,none⟩],0,0,0⟩ (fun _=>none) (fun _=>none) [] 0:=by
  have one:∀ (n:Nat) (p:TR.Pg),([⟨0,[],[],none,none⟩]:List TR.Pg)[n]? = some p -> n = 0 /\ p = ⟨0,[],[],none,none⟩:=fun n p hp=>by
    match n,hp with
    | 0,hp=>cases hp;exact ⟨rfl,rfl⟩
    | n + 1,hp=>simp at hp
  refine ⟨Qbx r h,fun s h1 h2=>?_,fun n p hp h0=>?_,fun k v=>⟨fun q=>(by cases q),fun q=>?_⟩,h',?_,rfl,rfl,rfl,Nat.le_refl _⟩
  . have h1:s < 1:=h1
    have h2:s ≠ 0:=h2
    omega
  . rw [(one n p hp).2] at h0;exact absurd h0 (by decide)
  . obtain ⟨n,p,hp,_,m⟩:=q
    rw [(one n p hp).2] at m;cases m
  . exact Nat.le_trans (List.length_filter_le _ _) (by simp)
theorem QbJ (c:Int):∃ S bg F kvs hp',Yj [.int c,.ref 0] [.dic []] = some (.ref 1,hp') /\ Inv hp' S bg F kvs 60:=by
  have p7:=Q5 (Jd c 10079 7 (by decide) (by decide) (by decide))
  have p2:=Q5 (Jd c 10091 2 (by decide) (by decide) (by decide))
  have p25:=Q5 (Jd c 10093 25 (by decide) (by decide) (by decide))
  have p8:=Q5 (Jd c 10141 8 (by decide) (by decide) (by decide))
  have a1:=Xo c 10079 7 (by decide)
  have a2:=Yn c 10079 7 (by decide)
  have b1:=Xo c 10091 2 (by decide)
  have b2:=Yn c 10091 2 (by decide)
  have c1:=Xo c 10093 25 (by decide)
  have c2:=Yn c 10093 25 (by decide)
  generalize qO c 10079 7 = x at p7 a1 a2
  generalize qO c 10091 2 = y at p2 b1 b2
  generalize qO c 10093 25 = z at p25 c1 c2
  generalize qO c 10141 8 = u at p8
  have xy0:0 <= x * y:=Int.mul_nonneg a1 b1
  have xy1:x * y <= 6 * 1:=Int.mul_le_mul (by omega) (by omega) b1 (by decide)
  obtain ⟨r,hr⟩:=yX (show 0 <= 2 + x * y by omega)
  have mm:=Q5 (xf x y (by omega) (by omega))
  have i0:ZO [.ref 1,.int r] [.dic [],.ins "Shelf" []] = some (.non,[.dic [],.ins "Shelf" (shF r 2 0 0 0),.lst [emp]]):=Qb2 r [.dic []]
  have s1:QL 2 (JS "Shelf" 2 ZO (Qc (Qn ZJ (eC (.int 2)) (Qn qw (Qt 3 Qu (Qc (Qd 0) (Qc (eC (.int 10079)) (Qc (eC (.int 7)) Qm)))) (Qt 3 Qu (Qc (Qd 0) (Qc (eC (.int 10091)) (Qc (eC (.int 2)) Qm)))))) Qm)) [.val (.int c),.val (.ref 0),.un,.un,.un,.un] [.dic []] = some ((.nx,[.val (.int c),.val (.ref 0),.val (.ref 1),.un,.un,.un]),[.dic [],.ins "Shelf" (shF r 2 0 0 0),.lst [emp]]):=by
    refine QX ?_
    have ar:Qc (Qn ZJ (eC (.int 2)) (Qn qw (Qt 3 Qu (Qc (Qd 0) (Qc (eC (.int 10079)) (Qc (eC (.int 7)) Qm)))) (Qt 3 Qu (Qc (Qd 0) (Qc (eC (.int 10091)) (Qc (eC (.int 2)) Qm)))))) Qm [.val (.int c),.val (.ref 0),.un,.un,.un,.un] [.dic []] = some ([.int r],[.dic []]):=ZQ (Qj rfl (Qj (QS (Z0 (Qe rfl) rfl rfl) rfl (p7 _)) (QS (Z0 (Qe rfl) rfl rfl) rfl (p2 _)) (mm _)) (by rw [<- hr];rfl))
    unfold JS
    have al:Y5 (.ins "Shelf" []) [.dic []] = some (.ref 1,[.dic [],.ins "Shelf" []]):=rfl
    have gd:QB (decide ([DV.int r].length + 1 = 2)) [.dic []] = some ((),[.dic []]):=rfl
    rw [Qg ar,Qg gd,Qg al,Qg i0];rfl
  obtain ⟨m,hm1,hm2⟩:∃ m:Nat,(Qs (QL 3 (Qt 3 Qu (Qc (Qd 0) (Qc (eC (.int 10093)) (Qc (eC (.int 25)) Qm))))) (sIf (eB (Qn eqG (Qt 3 Qu (Qc (Qd 0) (Qc (eC (.int 10141)) (Qc (eC (.int 8)) Qm)))) (eC (.int 3)))) (QL 3 (eC (.int 60))) ZH) [.val (.int c),.val (.ref 0),.val (.ref 1),.un,.un,.un] [.dic [],.ins "Shelf" (shF r 2 0 0 0),.lst [emp]] = some ((.nx,[.val (.int c),.val (.ref 0),.val (.ref 1),.val (.int m),.un,.un]),[.dic [],.ins "Shelf" (shF r 2 0 0 0),.lst [emp]])) /\ m <= 60:=by
    obtain ⟨zn,hz⟩:=yX c1
    have s3:QL 3 (Qt 3 Qu (Qc (Qd 0) (Qc (eC (.int 10093)) (Qc (eC (.int 25)) Qm)))) [.val (.int c),.val (.ref 0),.val (.ref 1),.un,.un,.un] [.dic [],.ins "Shelf" (shF r 2 0 0 0),.lst [emp]] = some ((.nx,[.val (.int c),.val (.ref 0),.val (.ref 1),.val (.int zn),.un,.un]),[.dic [],.ins "Shelf" (shF r 2 0 0 0),.lst [emp]]):=QX (QS (Z0 (Qe rfl) rfl rfl) rfl ((p25 _).trans (by rw [hz])))
    have t:eB (Qn eqG (Qt 3 Qu (Qc (Qd 0) (Qc (eC (.int 10141)) (Qc (eC (.int 8)) Qm)))) (eC (.int 3))) [.val (.int c),.val (.ref 0),.val (.ref 1),.val (.int zn),.un,.un] [.dic [],.ins "Shelf" (shF r 2 0 0 0),.lst [emp]] = some (u == 3,[.dic [],.ins "Shelf" (shF r 2 0 0 0),.lst [emp]]):=Zm (Qj (QS (Z0 (Qe rfl) rfl rfl) rfl (p8 _)) rfl (eqI _ _ _))
    cases h:(u == 3) with
    | true=>rw [h] at t;exact ⟨60,(Ql s3).trans ((ZE t).trans (QX (d:=.int 60) rfl)),by omega⟩
    | false=>rw [h] at t;exact ⟨zn,(Ql s3).trans ((Zc t).trans Zd),by omega⟩
  have M:WP (Yx (fun d env=>do let env' <- gN 4 d env;zA env') (QW 0 m) [.val (.int c),.val (.ref 0),.val (.ref 1),.val (.int m),.un,.un]) [.dic [],.ins "Shelf" (shF r 2 0 0 0),.lst [emp]] fun q w=>∃ z4 z5 S bg F kvs,q = (.nx,[.val (.int c),.val (.ref 0),.val (.ref 1),.val (.int m),z4,z5]) /\ Inv w S bg F kvs m:=by
    refine Y4 (fun i env w=>∃ z4 z5 S bg F kvs,env = [.val (.int c),.val (.ref 0),.val (.ref 1),.val (.int m),z4,z5] /\ Inv w S bg F kvs i) _ ⟨_,_,⟨r,[⟨0,[],[],none,none⟩],0,0,0⟩,_,fun _=>none,[],rfl,QfD r (by omega) (by omega)⟩ (fun i d0 hd0 env w zz=>?_) (fun env w zz=>by obtain ⟨z4,z5,S,bg,F,kvs,e,I⟩:=zz;exact ⟨z4,z5,S,bg,F,kvs,by rw [e],by rw [Zk] at I;exact I⟩)
    obtain ⟨z4,z5,S,bg,F,kvs,e,I⟩:=zz
    subst e
    obtain ⟨hi,hd'⟩:=Xp hd0
    subst hd'
    have pk:=Q5 (Jd (c + 7 * (i:Int)) 10099 120 (by decide) (by decide) (by decide))
    generalize qO (c + 7 * (i:Int)) 10099 120 = v at pk
    have m7:=Q5 (xf 7 (i:Int) (by decide) (by decide))
    have pl0:=TR.jA I.T I.K
    have cn:=I.cnt
    obtain ⟨x0,w',S',bg',f1,f2,f3,f4,f5,_,f6,f7,f8,f9,_,f10⟩:=Qdt I.T I.D I.K I.tab I.rm I.h1 I.h2 (by decide) (by omega) (.put (v - 5) i) trivial
    have l0:0 < w.length:=(List.getElem?_eq_some_iff.mp I.h0).1
    have g0:w'[0]? = some (.dic kvs):=(f10 0 l0 (by decide) (by decide)).trans I.h0
    let e5:En:=[.val (.int c),.val (.ref 0),.val (.ref 1),.val (.int m),.val (.int (i:Int)),.val (.int (v - 5))]
    have t1:QL 5 (Qn xr (Qt 3 Qu (Qc (Qn ZJ (Qd 0) (Qn qw (eC (.int 7)) (Qd 4))) (Qc (eC (.int 10099)) (Qc (eC (.int 120)) Qm)))) (eC (.int 5))) [.val (.int c),.val (.ref 0),.val (.ref 1),.val (.int m),.val (.int (i:Int)),z5] w = some ((.nx,e5),w):=QX (Qj (QS (Z0 (Qj (Qe rfl) (Qj rfl (Qe rfl) (m7 _)) rfl) rfl rfl) rfl (pk _)) rfl rfl)
    have t2:Ji (Qt 2 YX (Qc (Qd 2) (Qc (ZC (Qc (eC (.str "put")) (Qc (Qd 5) (Qc (Qd 4) Qm)))) Qm))) e5 w = some ((.nx,e5),w'):=XD (QS (ZZ (Qe rfl) (JQ (Z0 rfl (Qe rfl) (Qe rfl)) (by simp))) rfl f1)
    have zl:=I.zl
    have t3:Yd (Qd 4) (gSb (Qd 1) (Qd 5)) e5 w' = some ((.nx,e5),w'.set 0 (.dic (Vc kvs (.inl (v - 5)) (.int (i:Int))))):=by
      refine yo (Qe rfl) ?_
      unfold gSb
      rw [Qg (Qe rfl),Qg (Qe rfl),Qg (GA (d:=.int (i:Int)) g0 (show qF (.int (v - 5)) = some (.inl (v - 5)) from rfl) (by omega))];rfl
    have pl:=Qbb kvs (.inl (v - 5)) (.int (i:Int))
    exact ⟨_,_,(Ql t1).trans ((Ql t2).trans t3),⟨_,_,S',bg',_,_,rfl,f2,f3,f4,f5,by rw [f7];exact I.rm,by omega,gss g0,gs (by decide) f8,gs (by decide) f9,by omega⟩⟩
  obtain ⟨q,w,eM,z4,z5,S,bg,F,kvs,rfl,I⟩:=M
  have L:zr [.val (.int c),.val (.ref 0),.val (.ref 1),.val (.int m),.un,.un] [.dic [],.ins "Shelf" (shF r 2 0 0 0),.lst [emp]] = some ((.nx,[.val (.int c),.val (.ref 0),.val (.ref 1),.val (.int m),z4,z5]),w):=J4 (XN (m:=m) (ZQ (Qe rfl)) (by omega)) eM
  refine ⟨S,bg,F,kvs,w,?_,I.T,I.D,I.K,I.tab,I.rm,by have:=I.cnt;omega,I.h0,I.h1,I.h2,by have:=I.zl;omega⟩
  refine QI (env:=[.val (.int c),.val (.ref 0),.val (.ref 1),.val (.int m),z4,z5]) ((Ql s1).trans ?_)
  have as:∀ (f g h:DSx) (env:En) (hp:Hs),Qs f (Qs g h) env hp = Qs (Qs f g) h env hp:=fun f g h env hp=>kj f g h env hp
  rw [as]
  exact (Ql hm1).trans ((Ql L).trans (QO (Qe rfl)))
theorem qY {t:DV -> M Bool} {f:DV -> M DV} {g:DV -> DV} {hp:Hs} (ds:List DV) (ht:∀ d ∈ ds,t d hp = some (true,hp)) (hf:∀ d ∈ ds,f d hp = some (g d,hp)) (hl:ds.length < 100000):ZL (nxD ds) t f 100000 0 hp = some (ds.map g,hp):=by
  suffices h:∀ (m i n:Nat),m + i = ds.length -> m < n -> ZL (nxD ds) t f n i hp = some ((ds.drop i).map g,hp) by simpa using h ds.length 0 100000 rfl hl
  intro m
  induction m with
  | zero =>
    intro i n e hn'
    obtain ⟨n,rfl⟩:∃ k,n = k + 1:=⟨n - 1,by omega⟩
    have:i = ds.length:=by omega
    subst this
    have e1:=YB ds ds.length (Nat.le_refl _) hp
    rw [show ds[ds.length]? = none by simp] at e1
    rw [ZL,Qg e1,List.drop_length];rfl
  | succ m ih =>
    intro i n e hn'
    obtain ⟨n,rfl⟩:∃ k,n = k + 1:=⟨n - 1,by omega⟩
    have hlt:i < ds.length:=by omega
    have e1:=YB ds i (by omega) hp
    rw [List.getElem?_eq_getElem hlt] at e1
    rw [ZL,Qg e1]
    simp only
    rw [Qg (ht ds[i] (List.getElem_mem hlt)),List.drop_eq_getElem_cons hlt]
    simp only [if_true]
    rw [Qg (hf ds[i] (List.getElem_mem hlt)),Qg (ih (i + 1) n (by omega) (by omega))];rfl
theorem GB {hp:Hs} {a i:Nat} {ds:List DV} {d:DV} (h:hp[a]? = some (.lst ds)) (hi:i < ds.length):xj (.ref a) (.int (i:Int)) d hp = some ((),hp.set a (.lst (ds.set i d))):=by
  show (Jz a >>= _) hp = _
  rw [Qg (JX h)]
  show (asI (.int (i:Int)) >>= fun k=>match ixN ds.length k with | some j=>xo a (.lst (ds.set j d)) | none=>failure) hp = _
  simp only [asI,pure_bind,uE hi];rfl
theorem QcV {f:DEx} {env:En} {hp:Hs} {n:Nat} {ds:List DV} (h:f env hp = some (.ref n,hp)) (hn:hp[n]? = some (.lst ds)):xLs f env hp = some (nxW n,hp):=by
  unfold xLs;rw [Qg h];show (Jz n >>= _) hp = _;rw [Qg (JX hn)];rfl
section
variable {hp:Hs} {S:TR.Sh} {bg:TR.Bg}
theorem Qbe (h1:hp[1]? = some (.ins "Shelf" (shF S.room 2 S.top S.rd S.wr))) (h2:hp[2]? = some (.lst (S.pg.map pgD))) (hl:S.pg.length < 99000) (e1 e2 e3 e4:Sl) :
    ZX [.val (.ref 1),e1,e2,e3,e4] hp = some (.lst (S.pg.map pgD),hp.set 1 (.ins "Shelf" (shF S.room 2 S.top (S.rd + S.pg.length) S.wr))):=by
  let W:Nat -> Hs:=fun i=>hp.set 1 (.ins "Shelf" (shF S.room 2 S.top (S.rd + i) S.wr))
  have w1:∀ i,(W i)[1]? = some (.ins "Shelf" (shF S.room 2 S.top (S.rd + i) S.wr)):=fun i=>gss h1
  have w2:∀ i,(W i)[2]? = some (.lst (S.pg.map pgD)):=fun i=>gs (by decide) h2
  have ws:∀ i,(W i).set 1 (.ins "Shelf" (shF S.room 2 S.top (S.rd + i + 1) S.wr)) = W (i + 1):=fun i=>by
    show (hp.set 1 _).set 1 _ = hp.set 1 _
    rw [List.set_set,show S.rd + (i:Int) + 1 = S.rd + ((i + 1:Nat):Int) by omega]
  have w0:W 0 = hp:=by
    show hp.set 1 _ = hp
    rw [show S.rd + ((0:Nat):Int) = S.rd by simp];exact QcK h1
  have cx:∀ (m i fuel:Nat),m + i = S.pg.length -> m < fuel -> ZL (nxD (QW 0 S.pg.length)) (fun d=>VX (cE [0] [.val (.ref 1),e1,e2,e3,e4] d)) (fun d=>QD "Shelf" "read" 2 Q0 (Qd 1) (Qc (Qd 0) Qm) (cE [0] [.val (.ref 1),e1,e2,e3,e4] d)) fuel i (W i) = some ((S.pg.drop i).map pgD,W S.pg.length):=by
    intro m
    induction m with
    | zero =>
      intro i fuel e hf
      obtain ⟨g,rfl⟩:∃ g,fuel = g + 1:=⟨fuel - 1,by omega⟩
      have:i = S.pg.length:=by omega
      subst this
      have x:=YB (QW 0 S.pg.length) S.pg.length (by rw [Zk];omega) (W S.pg.length)
      rw [List.getElem?_eq_none (by rw [Zk];omega)] at x
      rw [ZL,Qg x,List.drop_length];rfl
    | succ m ih =>
      intro i fuel e hf
      obtain ⟨g,rfl⟩:∃ g,fuel = g + 1:=⟨fuel - 1,by omega⟩
      have hi:i < S.pg.length:=by omega
      have x:=YB (QW 0 S.pg.length) i (by rw [Zk];omega) (W i)
      have gi:(QW 0 S.pg.length)[i]? = some (.int (i:Int)):=by
        have:=List.getElem?_eq_getElem (l:=QW 0 S.pg.length) (i:=i) (by rw [Zk];exact hi)
        rw [this];congr 1
        exact (Xp this).2
      rw [gi] at x
      have hg:S.pg[i]? = some S.pg[i]:=List.getElem?_eq_getElem hi
      have rd:=Ks (i:=i) (d:=pgD S.pg[i]) (w1 i) (w2 i) (by decide) (by rw [List.getElem?_map,hg];rfl)
      rw [ws] at rd
      have me:QD "Shelf" "read" 2 Q0 (Qd 1) (Qc (Qd 0) Qm) (cE [0] [.val (.ref 1),e1,e2,e3,e4] (.int (i:Int))) (W i) = some (pgD S.pg[i],W (i + 1)):=QR (Qe rfl) (w1 i) (qg ..) (ZQ (Qe rfl)) rfl rd
      rw [ZL,Qg x]
      simp only
      rw [show (VX (cE [0] [.val (.ref 1),e1,e2,e3,e4] (.int (i:Int)))) = pure true from rfl,pure_bind]
      simp only [if_true]
      rw [Qg me,Qg (ih (i + 1) g (by omega) (by omega)),List.drop_eq_getElem_cons hi];rfl
  have src:xOf (zo (Qc (QD "Shelf" "pages" 1 Zx (Qd 0) Qm) Qm)) [.val (.ref 1),e1,e2,e3,e4] hp = some (nxD (QW 0 S.pg.length),hp):=KK (XN (m:=S.pg.length) (ZQ ((QR (Qe rfl) h1 (XF ..) Xe rfl (jy h1 h2)).trans (by rw [List.length_map]))) (by omega))
  have c0:=cx S.pg.length 0 lim rfl (by unfold lim;omega)
  rw [w0,List.drop_zero] at c0
  unfold ZX Jg
  rw [Qg src,Qg c0];rfl
def cnD (L:List Int) (N:Nat):List DV:=(List.range N).map fun c:Nat=>.int (L.count (c:Int):Nat)
theorem je (L:List Int) (N:Nat):(cnD L N).length = N:=by unfold cnD;simp
theorem yf (L:List Int) {N c:Nat} (h:c < N):(cnD L N)[c]? = some (.int (L.count (c:Int):Nat)):=by
  unfold cnD;rw [List.getElem?_map,List.getElem?_range h];rfl
theorem QbM (L:List Int) {N c:Nat} (h:c < N):(cnD L N).set c (.int ((L.count (c:Int):Nat) + 1)) = cnD (L ++ [(c:Int)]) N:=by
  apply List.ext_getElem?
  intro i
  by_cases hi:i < N
  . rw [yf _ hi]
    by_cases e:i = c
    . subst e
      rw [List.getElem?_set_self (by rw [je];exact hi),List.count_append,List.count_singleton_self];rfl
    . rw [List.getElem?_set_ne (Ne.symm e),yf _ hi,List.count_append,List.count_singleton]
      have:((c:Int) == (i:Int)) = false:=by simp;omega
      rw [this];simp
  . rw [List.getElem?_eq_none (by rw [List.length_set,je];omega),List.getElem?_eq_none (by rw [je];omega)]
theorem yC (T:TR.Tree S bg) (D:∀ s,s < S.pg.length -> s ≠ S.top -> TR.Kd S s) (hr:S.room <= 50) (h1:hp[1]? = some (.ins "Shelf" (shF S.room 2 S.top S.rd S.wr))) (h2:hp[2]? = some (.lst (S.pg.map pgD))) (hl:S.pg.length < 90000) :
    ∃ w',Zv [.ref 1] hp = some (.bl true,w') /\ w'[1]? = some (.ins "Shelf" (shF S.room 2 S.top (S.rd + S.pg.length) S.wr)) /\ (∀ i,i < hp.length -> i ≠ 1 -> w'[i]? = hp[i]?) /\ hp.length <= w'.length:=by
  let w1:Hs:=hp.set 1 (.ins "Shelf" (shF S.room 2 S.top (S.rd + S.pg.length) S.wr))
  have l1:w1.length = hp.length:=by simp [w1]
  have lo:1 < hp.length:=(List.getElem?_eq_some_iff.mp h1).1
  let P:=S.pg.map pgD
  let W:List Int -> Hs:=fun L=>w1 ++ [.lst (cnD L S.pg.length)]
  have wm:∀ L,(W L)[w1.length]? = some (.lst (cnD L S.pg.length)):=fun L=>by show (w1 ++ _)[_]? = _;simp
  have wset:∀ L L',(W L).set w1.length (.lst (cnD L' S.pg.length)) = W L':=fun L L'=>by
    show (w1 ++ _).set _ _ = _
    rw [List.set_append_right _ _ (Nat.le_refl _)];simp [W]
  have s1:QL 1 ZX [.val (.ref 1),.un,.un,.un,.un] hp = some ((.nx,[.val (.ref 1),.val (.lst P),.un,.un,.un]),w1):=QX (Qbe h1 h2 (by omega) _ _ _ _)
  have s2:QL 2 JB [.val (.ref 1),.val (.lst P),.un,.un,.un] w1 = some ((.nx,[.val (.ref 1),.val (.lst P),.val (.ref w1.length),.un,.un]),W []):=by
    refine QX (d:=.ref w1.length) ?_
    have cx:=qY (hp:=w1) (t:=fun d=>VX (cE [] [.val (.ref 1),.val (.lst P),.un,.un,.un] d)) (f:=fun d=>eC (.int 0) (cE [] [.val (.ref 1),.val (.lst P),.un,.un,.un] d)) (g:=fun _=>.int 0) P (fun _ _=>rfl) (fun _ _=>rfl) (by simp [P];omega)
    have e:P.map (fun _=>DV.int 0) = cnD [] S.pg.length:=by
      unfold cnD
      show P.map (fun _=>DV.int 0) = (List.range S.pg.length).map (fun _=>DV.int 0)
      rw [List.map_const',List.map_const']
      simp [P]
    rw [e] at cx
    unfold JB Jg
    rw [Qg (jO (hp1:=w1) (Qe rfl)),Qg (show ZL _ _ _ lim 0 w1 = _ from cx)];rfl
  have M:WP (jl (nxD P) (fun d env=>do let env' <- gN 3 d env;JE env') 100000 0 [.val (.ref 1),.val (.lst P),.val (.ref w1.length),.un,.un]) (W []) fun q w=>∃ z3 z4,q = (.nx,[.val (.ref 1),.val (.lst P),.val (.ref w1.length),z3,z4]) /\ w = W (TR.J3 S S.pg.length):=by
    refine yt P (fun i env w=>∃ z3 z4,env = [.val (.ref 1),.val (.lst P),.val (.ref w1.length),z3,z4] /\ w = W (TR.J3 S i)) (by simp [P];omega) ⟨_,_,rfl,rfl⟩ (fun i d hd env w zz=>?_) (fun env w zz=>by obtain ⟨z3,z4,e,ew⟩:=zz;exact ⟨z3,z4,by rw [e],by rw [ew,show P.length = S.pg.length by simp [P]]⟩)
    obtain ⟨z3,z4,rfl,rfl⟩:=zz
    have hi:i < S.pg.length:=by have:=(List.getElem?_eq_some_iff.mp hd).1;simpa [P] using this
    have hn:S.pg[i]? = some S.pg[i]:=List.getElem?_eq_getElem hi
    generalize hp0:S.pg[i] = p at hn
    have ed:d = pgD p:=by
      have:=hd
      rw [List.getElem?_map,hn] at this
      exact (Option.some.inj this).symm
    subst ed
    show WP (JE [.val (.ref 1),.val (.lst P),.val (.ref w1.length),.val (pgD p),z4]) _ _
    have lvE:∀ (z:Sl) (w:Hs),Qn ixG (Qd 3) (eC (.int 0)) [.val (.ref 1),.val (.lst P),.val (.ref w1.length),.val (pgD p),z] w = some (.int p.lv,w):=fun z w=>Qj (Qe rfl) rfl (xi p w)
    by_cases h0:0 < p.lv
    . have pl:=(T.page i p hn).parts
      have few:=(T.page i p hn).few
      rw [if_neg (by omega)] at pl
      have kA:TR.Yz S i = p.ps:=by unfold TR.Yz;rw [hn];dsimp only;rw [if_pos h0]
      have N:WP (Yx (fun d env=>do let env' <- gN 4 d env;XA env') (p.ps.map .int) [.val (.ref 1),.val (.lst P),.val (.ref w1.length),.val (pgD p),z4]) (W (TR.J3 S i)) fun q w=>∃ z4,q = (.nx,[.val (.ref 1),.val (.lst P),.val (.ref w1.length),.val (pgD p),z4]) /\ w = W (TR.J3 S i ++ p.ps):=by
        refine Y4 (fun j env w=>∃ z4,env = [.val (.ref 1),.val (.lst P),.val (.ref w1.length),.val (pgD p),z4] /\ w = W (TR.J3 S i ++ p.ps.take j)) _ ⟨_,rfl,by rw [List.take_zero,List.append_nil]⟩ (fun j d hd env w zz=>?_) (fun env w zz=>by obtain ⟨z4,e,ew⟩:=zz;exact ⟨z4,by rw [e],by rw [ew,List.length_map,List.take_length]⟩)
        obtain ⟨z4,rfl,rfl⟩:=zz
        obtain ⟨k,hk,rfl⟩:∃ k,p.ps[j]? = some k /\ d = .int k:=by
          rw [List.getElem?_map] at hd
          obtain ⟨k,a,b⟩:=Option.map_eq_some_iff.mp hd
          exact ⟨k,a,b.symm⟩
        obtain ⟨c,q,rfl,b2,b3,b4⟩:=T.kid i p hn h0 j k hk
        have hc:=TR.Qw b2
        have tk:p.ps.take (j + 1) = p.ps.take j ++ [(c:Int)]:=by rw [List.take_add_one,hk];rfl
        generalize hL:TR.J3 S i ++ p.ps.take j = L
        have t1:Yd (Qn ZJ (Qn ixG (Qd 2) (Qd 4)) (eC (.int 1))) (gSb (Qd 2) (Qd 4)) [.val (.ref 1),.val (.lst P),.val (.ref w1.length),.val (pgD p),.val (.int (c:Int))] (W L) = some ((.nx,[.val (.ref 1),.val (.lst P),.val (.ref w1.length),.val (pgD p),.val (.int (c:Int))]),W (L ++ [(c:Int)])):=by
          refine yo (d:=.int ((L.count (c:Int):Nat) + 1)) (hp1:=W L) (Qj (Qj (Qe rfl) (Qe rfl) (U8 (i:=c) (wm L) (yf L hc))) rfl rfl) ?_
          unfold gSb
          rw [Qg (Qe rfl),Qg (Qe rfl),Qg (GB (i:=c) (wm L) (by rw [je];exact hc)),QbM L hc,wset];rfl
        have t2:eB (Qn neG (Qn ixG (Qn ixG (Qd 1) (Qd 4)) (eC (.int 0))) (Qn xr (Qn ixG (Qd 3) (eC (.int 0))) (eC (.int 1)))) [.val (.ref 1),.val (.lst P),.val (.ref w1.length),.val (pgD p),.val (.int (c:Int))] (W (L ++ [(c:Int)])) = some (false,W (L ++ [(c:Int)])):=by
          generalize W (L ++ [(c:Int)]) = w9
          have g1:ixG (.lst P) (.int (c:Int)) w9 = some (pgD q,w9):=by
            show (qx (atI P (c:Int))) w9 = _
            rw [Y6 (by rw [List.getElem?_map,b2];rfl)];rfl
          have g2:xr (.int p.lv) (.int 1) w9 = some (.int q.lv,w9):=by
            show some (DV.int ((p.lv:Int) - 1),w9) = _
            rw [show ((p.lv:Int) - 1) = (q.lv:Int) by omega]
          exact Zm (Qj (Qj (Qj (Qe rfl) (Qe rfl) g1) rfl (xi q w9)) (Qj (lvE _ w9) rfl g2) (QfG _ w9))
        refine WP.of ((Ql t1).trans ((Zc t2).trans Zd)) ⟨_,rfl,?_⟩
        rw [tk,<- List.append_assoc,hL]
      obtain ⟨q,w,eN,z4',rfl,rfl⟩:=N
      have L1:Xt [.val (.ref 1),.val (.lst P),.val (.ref w1.length),.val (pgD p),z4] (W (TR.J3 S i)) = some ((.nx,[.val (.ref 1),.val (.lst P),.val (.ref w1.length),.val (pgD p),z4']),W (TR.J3 S i ++ p.ps)):=J4 (hp1:=W (TR.J3 S i)) (by
        unfold iTp;rw [Qg (Qj (Qe rfl) rfl (vI p _))];rfl) eN
      refine WP.of ((ZE (Zm (b:=true) (Qj (lvE _ _) rfl (by rw [Z4,decide_eq_true (by omega)];rfl)))).trans L1) ⟨_,_,rfl,?_⟩
      rw [TR.yP,kA]
    . refine WP.of ((Zc (Zm (b:=false) (Qj (lvE _ _) rfl (by rw [Z4,decide_eq_false (by omega)];rfl)))).trans Zd) ⟨_,_,rfl,?_⟩
      rw [TR.yP,show TR.Yz S i = [] by unfold TR.Yz;rw [hn];dsimp only;rw [if_neg h0],List.append_nil]
  obtain ⟨q,w,eM,z3,z4,rfl,rfl⟩:=M
  have L2:Xu [.val (.ref 1),.val (.lst P),.val (.ref w1.length),.un,.un] (W []) = some ((.nx,[.val (.ref 1),.val (.lst P),.val (.ref w1.length),z3,z4]),W (TR.J3 S S.pg.length)):=zT (jO (hp1:=W []) (Qe rfl)) eM
  let w2:=W (TR.J3 S S.pg.length)
  have o1:w2[1]? = some (.ins "Shelf" (shF S.room 2 S.top (S.rd + S.pg.length) S.wr)):=by
    show (w1 ++ _)[1]? = _
    rw [List.getElem?_append_left (by omega)];exact gss h1
  have c1:JA [.val (.ref 1),.val (.lst P),.val (.ref w1.length),z3,z4] w2 = some (.lst (cnD (TR.J3 S S.pg.length) S.pg.length),w2):=by
    have src:xOf (zo (Qc (Jf XO (Qc (Qd 1) Qm)) Qm)) [.val (.ref 1),.val (.lst P),.val (.ref w1.length),z3,z4] w2 = some (nxD (QW 0 S.pg.length),w2):=KK (XN (m:=S.pg.length) (ZQ ((zM (ZQ (Qe rfl)) (Gn P w2)).trans (by rw [show P.length = S.pg.length by simp [P]]))) (by omega))
    have cx:=qY (hp:=w2) (t:=fun d=>VX (cE [0] [.val (.ref 1),.val (.lst P),.val (.ref w1.length),z3,z4] d)) (f:=fun d=>Jf Qas (Qc (Qn neG (Qd 0) (QD "Shelf" "root" 1 Zq (Qd 1) Qm)) Qm) (cE [0] [.val (.ref 1),.val (.lst P),.val (.ref w1.length),z3,z4] d)) (g:=fun d=>match d with | .int i=>.int (if (i == (S.top:Int)) = true then 0 else 1) | _=>.non) (QW 0 S.pg.length) (fun _ _=>rfl) (fun d hd=>by
      obtain ⟨i,hi⟩:=List.mem_iff_getElem?.mp hd
      obtain ⟨_,rfl⟩:=Xp hi
      have e1:Qn neG (Qd 0) (QD "Shelf" "root" 1 Zq (Qd 1) Qm) (cE [0] [.val (.ref 1),.val (.lst P),.val (.ref w1.length),z3,z4] (.int (i:Int))) w2 = some (.bl (!((i:Int) == (S.top:Int))),w2):=Qj (Qe rfl) (QR (Qe rfl) o1 (qh ..) Xe rfl (Ku o1)) (neI _ _ _)
      refine zM (ZQ e1) ?_
      show Qas [.bl (!((i:Int) == (S.top:Int)))] w2 = some (DV.int (if ((i:Int) == (S.top:Int)) = true then 0 else 1),w2)
      cases ((i:Int) == (S.top:Int)) <;> rfl) (by rw [Zk];omega)
    have e:(QW 0 S.pg.length).map (fun d=>match d with | .int i=>DV.int (if (i == (S.top:Int)) = true then 0 else 1) | _=>DV.non) = cnD (TR.J3 S S.pg.length) S.pg.length:=by
      apply List.ext_getElem?
      intro i
      by_cases hi:i < S.pg.length
      . have g:=List.getElem?_eq_getElem (l:=QW 0 S.pg.length) (i:=i) (by rw [Zk];exact hi)
        rw [yf _ hi,List.getElem?_map,g,(Xp g).2,TR.vv T D hi]
        show some (DV.int _) = _
        by_cases e:i = S.top
        . rw [if_pos e,if_pos (by simp [e])];rfl
        . rw [if_neg e,if_neg (by simp;omega)];rfl
      . rw [List.getElem?_eq_none (by rw [List.length_map,Zk];omega),List.getElem?_eq_none (by rw [je];omega)]
    rw [e] at cx
    unfold JA Jg
    rw [Qg src,Qg (show ZL _ _ _ lim 0 w2 = _ from cx)];rfl
  refine ⟨w2,QI ((Ql s1).trans ((Ql s2).trans ((Ql L2).trans (QO (Qj (Qe rfl) c1 (Qah (n:=0) (wm _) (fun d hd=>by
    obtain ⟨i,_,rfl⟩:=List.mem_map.mp hd;exact vL 0 _) (by decide))))))),o1,fun i hi ne=>?_,by show hp.length <= (w1 ++ _).length;rw [List.length_append];omega⟩
  show (w1 ++ _)[i]? = _
  rw [List.getElem?_append_left (by omega)]
  exact Q6 _ _ _ _ (Ne.symm ne)
end
section
variable {hp:Hs} {S:TR.Sh} {bg:TR.Bg} {n:Nat} {p r:TR.Pg}
theorem Qbq:PyData.strOk "down" = true:=by decide +kernel
theorem kr:PyData.strOk "found" = true:=by decide +kernel
theorem Qav {S:TR.Sh} (D:∀ s,s < S.pg.length -> s ≠ S.top -> TR.Kd S s) (x y:Int):∀ s,s < ({ S with rd:=x,wr:=y }:TR.Sh).pg.length -> s ≠ ({ S with rd:=x,wr:=y }:TR.Sh).top -> TR.Kd { S with rd:=x,wr:=y } s:=D
theorem GO (T:TR.Tree S bg) (D:∀ s,s < S.pg.length -> s ≠ S.top -> TR.Kd S s) (hr:S.room <= 50) (h1:hp[1]? = some (.ins "Shelf" (shF S.room 2 S.top S.rd S.wr))) (h2:hp[2]? = some (.lst (S.pg.map pgD))) (hl:S.pg.length < 4000) (ht:S.pg[S.top]? = some r) (hn:S.pg[n]? = some p) (hz:p.lv = 0) {j:Nat} {k v:Int} (hk:p.ks[j]? = some k) (hv:p.ps[j]? = some v) :
    ∃ w' rd',X4 [.ref 1,.int n,.int k,.int v,.int r.lv] hp = some (.bl true,w') /\ w'[1]? = some (.ins "Shelf" (shF S.room 2 S.top rd' S.wr)) /\ (∀ i,i < hp.length -> i ≠ 1 -> w'[i]? = hp[i]?) /\ hp.length <= w'.length:=by
  have l1:1 < hp.length:=(List.getElem?_eq_some_iff.mp h1).1
  have l2:2 < hp.length:=(List.getElem?_eq_some_iff.mp h2).1
  have Df:Dif 1 2 hp.length (hp.length + 1) (hp.length + 2):=⟨by decide,by omega,by omega,by omega,by omega,by omega,by omega,by omega,by omega,by omega⟩
  let w0:=hp ++ [wkO 1 (hp.length + 1) (hp.length + 2) (TR.fresh (.find k)),.dic [],.lst []]
  have A0:At w0 1 2 hp.length (hp.length + 1) (hp.length + 2) S (TR.fresh (.find k)):=⟨(List.getElem?_append_left l1).trans h1,(List.getElem?_append_left l2).trans h2,by simp [w0],by show (hp ++ _)[_]? = _;rw [List.getElem?_append_right (by omega)];simp;rfl,by show (hp ++ _)[_]? = _;rw [List.getElem?_append_right (by omega)];simp;rfl⟩
  have rl:r.lv < 4000:=by
    have lv:=TR.Tree.levels T
    rw [TR.ZT ht] at lv
    have:=T.pages_row ht lv
    omega
  let E:Sl -> Sl -> En:=fun z6 z7=>[.val (.ref 1),.val (.int n),.val (.int k),.val (.int v),.val (.int r.lv),.val (.ref hp.length),z6,z7]
  let Ok:Nat -> Hs -> Prop:=fun i w=>∃ (Si:TR.Sh) (bgi:TR.Bg) (wk:TR.Wk) (m:Nat) (q:TR.Pg),Si.pg = S.pg /\ Si.top = S.top /\ Si.room = S.room /\ Si.wr = S.wr /\ TR.Tree Si bgi /\ TR.WOk Si bgi wk /\ At w 1 2 hp.length (hp.length + 1) (hp.length + 2) Si wk /\ wk.ended = false /\ wk.goal = 0 /\ wk.deed = .find k /\ wk.aim = k /\ wk.place.getD Si.top = m /\ Si.pg[m]? = some q /\ q.lv + i = r.lv /\ TR.In Si bgi m k /\ wk.forks.length <= i /\ wk.pairs = [] /\ hp.length + 3 <= w.length /\ ∀ x,x < hp.length -> x ≠ 1 -> w[x]? = hp[x]?
  have M:WP (Yx (fun d env=>do let env' <- gN 6 d env;YL env') (QW 0 r.lv) (E .un .un)) w0 fun q w=>∃ z6 z7,q = (.nx,E z6 z7) /\ Ok r.lv w:=by
    refine Y4 (fun i env w=>∃ z6 z7,env = E z6 z7 /\ Ok i w) _ ⟨_,_,rfl,S,bg,TR.fresh (.find k),S.top,r,rfl,rfl,rfl,rfl,T,TR.WOk.fresh rfl rfl rfl,A0,rfl,rfl,rfl,rfl,rfl,ht,rfl,TR.QcG T D k,Nat.zero_le _,rfl,by simp [w0],fun x hx _=>List.getElem?_append_left hx⟩ (fun i d0 hd0 env w zz=>?_) (fun env w zz=>by obtain ⟨z6,z7,e,o⟩:=zz;exact ⟨z6,z7,by rw [e],by rw [Zk] at o;exact o⟩)
    obtain ⟨z6,z7,rfl,Si,bgi,wk,m,q,e1,e2,e3,e4,Ti,Wi,Ai,f1,f2,f3,f4,f5,f6,f7,f8,f9,f10,f11,f12⟩:=zz
    obtain ⟨hi,hd'⟩:=Xp hd0
    subst hd'
    have Di:∀ s,s < Si.pg.length -> s ≠ Si.top -> TR.Kd Si s:=fun s a b=>by
      rw [e1] at a;rw [e2] at b
      obtain ⟨x,y,c1,c2⟩:=D s a b
      exact ⟨x,y,by rw [e1];exact c1,c2⟩
    obtain ⟨c,z,es,g1,g2,g3⟩:=TR.Qc3 Ti Di f5 f6 f1 f2 (by omega) (by rw [f4];exact f8)
    obtain ⟨r',S2,w2,bg2,es',st⟩:=TR.yr Ti Wi f1 (fun h=>by omega)
    rw [es] at es'
    simp only [Option.some.injEq,Prod.mk.injEq] at es'
    obtain ⟨rfl,rfl,rfl⟩:=es'
    obtain ⟨w',ew,A',F'⟩:=yq Ti Wi (by rw [e3];exact hr) Ai Df (by rw [e1];omega) (by omega) (by rw [f10];simp) es
    have s1:QL 7 (QD "Walk" "step" 1 Zz (Qd 5) Qm) (E (.val (.int (i:Int))) z7) w = some ((.nx,E (.val (.int (i:Int))) (.val (Ve (.down m c)))),w'):=QX (QR (Qe rfl) Ai.h3 (jM ..) Xe rfl ew)
    have s2:eOr (eB (Qn isD (Qd 7) (eC .non))) (eB (Qn neG (Qn ixG (Qd 7) (eC (.int 0))) (eC (.str "down")))) (E (.val (.int (i:Int))) (.val (Ve (.down m c)))) w' = some (false,w'):=(K7 (Zm (b:=false) (Qj (x:=Ve (.down m c)) (Qe rfl) rfl rfl))).trans (Zm (b:=false) (Qj (x:=.str "down") (Qj (x:=Ve (.down m c)) (Qe rfl) rfl (J2 (i:=0) rfl w')) rfl (QaK (n:=0) (Qa6 Qbq) (by decide) w')))
    have pl:=TR.GC wk.forks q.lv m
    have ww:=st.wok f1
    refine ⟨_,_,(Ql s1).trans ((Zc s2).trans Zd),⟨_,_,rfl,{ Si with rd:=Si.rd + 1 },bg2,_,c,z,e1,e2,e3,e4,st.tree,ww,A',f1,f2,f3,f4,rfl,g1,by omega,?_,by show (TR.qQ wk.forks q.lv m).length <= _;omega,f10,by have:=F'.1;omega,fun x hx ne=>?_⟩⟩
    . have:=TR.In.grow g3 st.grow rfl
      rw [f4] at this;exact this
    . by_cases ex:x = 2
      . subst ex
        rw [A'.h2]
        show some (OV.lst (Si.pg.map pgD)) = _
        rw [e1,h2]
      . rw [F'.2 x (by omega) ne ex (by omega) (by omega) (by omega)];exact f12 x hx ne
  obtain ⟨q0,w,eM,z6,z7,rfl,Si,bgi,wk,m,q,e1,e2,e3,e4,Ti,Wi,Ai,f1,f2,f3,f4,f5,f6,f7,f8,f9,f10,f11,f12⟩:=M
  have mk:QL 5 (JS "Walk" 3 Zi (Qc (Qd 0) (Qc (ZC (Qc (eC (.str "find")) (Qc (Qd 2) Qm))) Qm))) [.val (.ref 1),.val (.int n),.val (.int k),.val (.int v),.val (.int r.lv),.un,.un,.un] hp = some ((.nx,E .un .un),w0):=QX (VA (d:=.find k) (ZZ (Qe rfl) (JQ (ZZ rfl (Qe rfl)) (by simp))))
  have L:YG (E .un .un) w0 = some ((.nx,E z6 z7),w):=J4 (XN (m:=r.lv) (ZQ (Qe rfl)) (by omega)) eM
  have hq0:q.lv = 0:=by omega
  have em:m = n:=TR.QaC Ti (by rw [e1];exact hn) hz (List.mem_of_getElem? hk) f6 hq0 f8
  subst em
  have eq:q = p:=by rw [e1,hn] at f6;exact (Option.some.inj f6).symm
  subst eq
  have hh:TR.ltH wk.aim q.hi:=by
    obtain ⟨_,x1,_,x3⟩:=f8
    rw [f6] at x1;cases x1
    rw [f4];exact x3
  have es:=TR.vk f1 f5 f6 f2 hq0 f3 hh
  have wv:TR.QG q wk.aim = some v:=by
    rw [f4];exact (TR.UD (Ti.page m q f6).sorted).mpr (TR.mem_zip_iff.mpr ⟨j,hk,hv⟩)
  rw [wv] at es
  obtain ⟨w',ew,A',F'⟩:=yq Ti Wi (by rw [e3];exact hr) Ai Df (by rw [e1];omega) (by omega) (by rw [f10];simp) es
  have plr:Pl 1 (Ve (.found m (some v))):=fun d hd=>by
    simp only [List.mem_cons,List.not_mem_nil,or_false] at hd
    rcases hd with rfl | rfl | rfl
    . exact Qa6 kr
    . exact vL _ _
    . exact vL _ _
  have c1:Qn eqG (QD "Walk" "step" 1 Zz (Qd 5) Qm) (ZC (Qc (eC (.str "found")) (Qc (Qd 1) (Qc (Qd 3) Qm)))) (E z6 z7) w = some (.bl true,w'):=Qj (y:=Ve (.found m (some v))) (QR (Qe rfl) Ai.h3 (jM ..) Xe rfl ew) (JQ (Z0 rfl (Qe rfl) (Qe rfl)) (by simp)) (Qai plr (by decide) w')
  have c2:QD "Walk" "over" 1 ZY (Qd 5) Qm (E z6 z7) w' = some (.bl true,w'):=QR (Qe rfl) A'.h3 (jN ..) Xe rfl (jv A'.h3)
  refine ⟨w',Si.rd + 1,QI (env:=E z6 z7) ((Ql mk).trans ((Ql L).trans (QO ((yJ c1).trans ((if_pos rfl).trans c2))))),?_,fun x hx ne=>?_,by have:=F'.1;omega⟩
  . have:=A'.h1
    rw [show (({ Si with rd:=Si.rd + 1 }:TR.Sh).room) = S.room from e3,show (({ Si with rd:=Si.rd + 1 }:TR.Sh).top) = S.top from e2,show (({ Si with rd:=Si.rd + 1 }:TR.Sh).wr) = S.wr from e4] at this
    exact this
  . by_cases ex:x = 2
    . subst ex
      rw [A'.h2]
      show some (OV.lst (Si.pg.map pgD)) = _
      rw [e1,h2]
    . rw [F'.2 x (by omega) ne ex (by omega) (by omega) (by omega)];exact f12 x hx ne
theorem Qb1 {f g:DEx} {env:En} {hp:Hs} {ds es:List DV} (hf:f env hp = some (.tup ds,hp)) (hg:g env hp = some (.tup es,hp)):U6 f g env hp = some (zq ds es,hp):=by
  unfold U6
  rw [Qg hf,Qg (rfl:VY (.tup ds) hp = some (ds,hp)),Qg hg,Qg (rfl:VY (.tup es) hp = some (es,hp))];rfl
theorem qk (T:TR.Tree S bg) (D:∀ s,s < S.pg.length -> s ≠ S.top -> TR.Kd S s) (hr:S.room <= 50) (h1:hp[1]? = some (.ins "Shelf" (shF S.room 2 S.top S.rd S.wr))) (h2:hp[2]? = some (.lst (S.pg.map pgD))) (hl:S.pg.length < 4000) :
    ∃ w' rd',Zu [.ref 1] hp = some (.bl true,w') /\ w'[1]? = some (.ins "Shelf" (shF S.room 2 S.top rd' S.wr)) /\ (∀ i,i < hp.length -> i ≠ 1 -> w'[i]? = hp[i]?) /\ hp.length <= w'.length:=by
  obtain ⟨r,ht,hmax⟩:=T.root
  have l2:2 < hp.length:=(List.getElem?_eq_some_iff.mp h2).1
  let Ok:Hs -> Prop:=fun w=>∃ rd,w[1]? = some (.ins "Shelf" (shF S.room 2 S.top rd S.wr)) /\ hp.length <= w.length /\ ∀ x,x < hp.length -> x ≠ 1 -> w[x]? = hp[x]?
  have rdn:∀ {w:Hs} {i:Nat} {q:TR.Pg},Ok w -> S.pg[i]? = some q -> ∃ w',Q0 [.ref 1,.int i] w = some (pgD q,w') /\ Ok w':=fun {w i q} o hq=>by
    obtain ⟨rd,o1,o2,o3⟩:=o
    refine ⟨_,Ks (i:=i) (d:=pgD q) o1 ((o3 2 l2 (by decide)).trans h2) (by decide) (by rw [List.getElem?_map,hq];rfl),rd + 1,gss o1,by simpa using o2,fun x hx ne=>?_⟩
    rw [Q6 _ _ _ _ (Ne.symm ne)];exact o3 x hx ne
  have mth:∀ {w:Hs},Ok w -> ∃ fs,w[1]? = some (.ins "Shelf" fs) /\ List.lookup ("read" : Str) fs = none /\ List.lookup ("root" : Str) fs = none /\ List.lookup ("pages" : Str) fs = none:=fun {w} o=>by
    obtain ⟨rd,o1,_⟩:=o
    exact ⟨_,o1,qg ..,qh ..,XF ..⟩
  have o0:Ok hp:=⟨S.rd,h1,Nat.le_refl _,fun _ _ _=>rfl⟩
  obtain ⟨wa,ea,oa⟩:=rdn o0 ht
  have s1:QL 1 (Qn ixG (QD "Shelf" "read" 2 Q0 (Qd 0) (Qc (QD "Shelf" "root" 1 Zq (Qd 0) Qm) Qm)) (eC (.int 0))) [.val (.ref 1),.un,.un,.un,.un,.un] hp = some ((.nx,[.val (.ref 1),.val (.int r.lv),.un,.un,.un,.un]),wa):=QX (Qj (QR (Qe rfl) h1 (qg ..) (ZQ (QR (Qe rfl) h1 (qh ..) Xe rfl (Ku h1))) rfl ea) rfl (xi r wa))
  have M:WP (Yx (fun d env=>do let env' <- gN 2 d env;Xz env') (QW 0 S.pg.length) [.val (.ref 1),.val (.int r.lv),.un,.un,.un,.un]) wa fun q w=>∃ z2 z3 z4 z5,q = (.nx,[.val (.ref 1),.val (.int r.lv),z2,z3,z4,z5]) /\ Ok w:=by
    refine Y4 (fun i env w=>∃ z2 z3 z4 z5,env = [.val (.ref 1),.val (.int r.lv),z2,z3,z4,z5] /\ Ok w) _ ⟨_,_,_,_,rfl,oa⟩ (fun i d0 hd0 env w zz=>?_) (fun env w zz=>by obtain ⟨z2,z3,z4,z5,e,o⟩:=zz;exact ⟨z2,z3,z4,z5,by rw [e],o⟩)
    obtain ⟨z2,z3,z4,z5,rfl,o⟩:=zz
    obtain ⟨hi,hd'⟩:=Xp hd0
    subst hd'
    have hn:S.pg[i]? = some S.pg[i]:=List.getElem?_eq_getElem hi
    generalize S.pg[i] = p at hn
    obtain ⟨fs,m1,m2,m3,m4⟩:=mth o
    obtain ⟨wb,eb,ob⟩:=rdn o hn
    have t1:QL 3 (QD "Shelf" "read" 2 Q0 (Qd 0) (Qc (Qd 2) Qm)) [.val (.ref 1),.val (.int r.lv),.val (.int (i:Int)),z3,z4,z5] w = some ((.nx,[.val (.ref 1),.val (.int r.lv),.val (.int (i:Int)),.val (pgD p),z4,z5]),wb):=QX (QR (Qe rfl) m1 m2 (ZQ (Qe rfl)) rfl eb)
    have t2:eB (Qn eqG (Qn ixG (Qd 3) (eC (.int 0))) (eC (.int 0))) [.val (.ref 1),.val (.int r.lv),.val (.int (i:Int)),.val (pgD p),z4,z5] wb = some ((p.lv:Int) == 0,wb):=Zm (Qj (Qj (Qe rfl) rfl (xi p wb)) rfl (eqI _ _ _))
    by_cases hz:p.lv = 0
    . rw [show ((p.lv:Int) == 0) = true by simp [hz]] at t2
      have N:WP (Yx (fun d env=>do let env' <- gT [4,5] d env;JD env') (zq (p.ks.map .int) (p.ps.map .int)) [.val (.ref 1),.val (.int r.lv),.val (.int (i:Int)),.val (pgD p),z4,z5]) wb fun q w=>∃ z4 z5,q = (.nx,[.val (.ref 1),.val (.int r.lv),.val (.int (i:Int)),.val (pgD p),z4,z5]) /\ Ok w:=by
        refine Y4 (fun j env w=>∃ z4 z5,env = [.val (.ref 1),.val (.int r.lv),.val (.int (i:Int)),.val (pgD p),z4,z5] /\ Ok w) _ ⟨_,_,rfl,ob⟩ (fun j d0 hd0 env w zz=>?_) (fun env w zz=>by obtain ⟨z4,z5,e,o⟩:=zz;exact ⟨z4,z5,by rw [e],o⟩)
        obtain ⟨z4,z5,rfl,o⟩:=zz
        obtain ⟨x,y,q1,q2,rfl⟩:=VE hd0
        obtain ⟨k,hk,rfl⟩:∃ k,p.ks[j]? = some k /\ x = .int k:=by
          rw [List.getElem?_map] at q1
          obtain ⟨k,a,b⟩:=Option.map_eq_some_iff.mp q1
          exact ⟨k,a,b.symm⟩
        obtain ⟨v,hv,rfl⟩:∃ k,p.ps[j]? = some k /\ y = .int k:=by
          rw [List.getElem?_map] at q2
          obtain ⟨k,a,b⟩:=Option.map_eq_some_iff.mp q2
          exact ⟨k,a,b.symm⟩
        obtain ⟨rd,o1,o2,o3⟩:=o
        obtain ⟨w',rd',e,x1,x2,x3⟩:=GO (S:={ S with rd:=rd,wr:=S.wr }) (T.rd _ _) (Qav D _ _) hr o1 ((o3 2 l2 (by decide)).trans h2) hl ht hn hz hk hv
        refine ⟨(.nx,[.val (.ref 1),.val (.int r.lv),.val (.int (i:Int)),.val (pgD p),.val (.int k),.val (.int v)]),w',?_,⟨_,_,rfl,rd',x1,by omega,fun x hx ne=>(x2 x (by omega) ne).trans (o3 x hx ne)⟩⟩
        show JD [.val (.ref 1),.val (.int r.lv),.val (.int (i:Int)),.val (pgD p),.val (.int k),.val (.int v)] w = _
        exact (Zc (q8 (b:=true) (Zm (QS (kK (Qe rfl) (Qe rfl) (Qe rfl) (Qe rfl) (Qe rfl)) rfl e)))).trans Zd
      obtain ⟨q,w',eN,y4,y5,rfl,oN⟩:=N
      have L1:Xr [.val (.ref 1),.val (.int r.lv),.val (.int (i:Int)),.val (pgD p),z4,z5] wb = some ((.nx,[.val (.ref 1),.val (.int r.lv),.val (.int (i:Int)),.val (pgD p),y4,y5]),w'):=J4 (Qb1 (Qj (Qe rfl) rfl (Qa1 p wb)) (Qj (Qe rfl) rfl (vI p wb))) eN
      exact WP.of ((Ql t1).trans ((ZE t2).trans L1)) ⟨_,_,_,_,rfl,oN⟩
    . rw [show ((p.lv:Int) == 0) = false by simp;omega] at t2
      exact WP.of ((Ql t1).trans ((Zc t2).trans Zd)) ⟨_,_,_,_,rfl,ob⟩
  obtain ⟨q,w,eM,z2,z3,z4,z5,rfl,rd,x1,x2,x3⟩:=M
  obtain ⟨rda,oa1,oa2,oa3⟩:=oa
  have L2:Xs [.val (.ref 1),.val (.int r.lv),.un,.un,.un,.un] wa = some ((.nx,[.val (.ref 1),.val (.int r.lv),z2,z3,z4,z5]),w):=J4 (XN (m:=S.pg.length) (ZQ ((QR (Qe rfl) oa1 (XF ..) Xe rfl (jy oa1 ((oa3 2 l2 (by decide)).trans h2))).trans (by rw [List.length_map]))) (by omega)) eM
  exact ⟨w,rd,QI ((Ql s1).trans ((Ql L2).trans (QO (d:=.bl true) rfl))),x1,x3,x2⟩
end
def hD:Option Nat -> DV
  | none=>.non
  | some a=>.ref a
structure Sys (w:Hs) (wl:Nat) (S:TR.Sh) (bg:TR.Bg) (H:List (Option Nat)) (ws:List TR.Wk) (b:Nat -> Nat) (G:Nat):Prop where
  T:TR.Tree S bg
  A:TR.All S bg ws
  K:TR.Fk S
  D:TR.Tld S ws
  rm:S.room <= 50
  len:H.length = ws.length
  h1:w[1]? = some (.ins "Shelf" (shF S.room 2 S.top S.rd S.wr))
  h2:w[2]? = some (.lst (S.pg.map pgD))
  hw:w[wl]? = some (.lst (H.map hD))
  wl3:3 <= wl
  ob:∀ (i a:Nat),H[i]? = some (some a) -> ∃ v,ws[i]? = some v /\ w[a]? = some (wkO 1 (a + 1) (a + 2) v) /\ w[a + 1]? = some (.dic (fkD v.forks)) /\ w[a + 2]? = some (.lst (prD v.pairs)) /\ wl < a /\ v.forks.length <= b i /\ v.pairs.length <= 50 * b i
  no:∀ (i:Nat) (v:TR.Wk),H[i]? = some none -> ws[i]? = some v -> v.ended = true
  dj:∀ (i j a b:Nat),i ≠ j -> H[i]? = some (some a) -> H[j]? = some (some b) -> a + 2 < b ∨ b + 2 < a
  cn:TR.Jl S 0 + TR.zc ws <= G
theorem Qbs {hp:Hs} {n f q a:Nat} {w:TR.Wk} (h:hp[a]? = some (wkO n f q w)) (he:w.ended = true):Zz [.ref a] hp = some (.non,hp) :=
  QI (env:=[.val (.ref a),.un,.un]) (Q3 ((ZE (Zm (Q8 (Qe rfl) h ((YU ..).trans (by rw [he]))))).trans (QO (d:=.non) rfl)))
section
variable {w:Hs} {wl:Nat} {S:TR.Sh} {bg:TR.Bg} {H:List (Option Nat)} {ws:List TR.Wk} {b:Nat -> Nat} {G:Nat}
theorem Sys.pages (Y:Sys w wl S bg H ws b G):S.pg.length <= 2 * G:=by
  have h1:=TR.jA Y.T Y.K
  have h2:=Y.cn
  omega
theorem Sys.mono (Y:Sys w wl S bg H ws b G) {b':Nat -> Nat} (h:∀ i,b i <= b' i):Sys w wl S bg H ws b' G:=⟨Y.T,Y.A,Y.K,Y.D,Y.rm,Y.len,Y.h1,Y.h2,Y.hw,Y.wl3,fun i a hi=>by
  obtain ⟨v,a1,a2,a3,a4,a5,a6,a7⟩:=Y.ob i a hi
  have:=h i
  exact ⟨v,a1,a2,a3,a4,a5,by omega,by omega⟩,Y.no,Y.dj,Y.cn⟩
theorem Sys.more (Y:Sys w wl S bg H ws b G) {G':Nat} (h:G <= G'):Sys w wl S bg H ws b G':=⟨Y.T,Y.A,Y.K,Y.D,Y.rm,Y.len,Y.h1,Y.h2,Y.hw,Y.wl3,Y.ob,Y.no,Y.dj,Nat.le_trans Y.cn h⟩
def up (b:Nat -> Nat) (i:Nat):Nat -> Nat:=fun j=>if j = i then b i + 1 else b j
def dn (t:Nat -> Nat) (i:Nat):Nat -> Nat:=fun j=>if j = i then t i - 1 else t j
theorem GP (Y:Sys w wl S bg H ws b G) {i a:Nat} (hi:H[i]? = some (some a)) (hb:b i < 900) (hG:G < 1000):∃ x w' S' bg' ws',Zz [.ref a] w = some (x,w') /\ Sys w' wl S' bg' H ws' (up b i) G /\ (∀ j,j ≠ i -> ws'[j]? = ws[j]?) /\ (∀ t,TR.Lim S bg ws t -> TR.Lim S' bg' ws' (dn t i)):=by
  obtain ⟨v,a1,a2,a3,a4,a5,a6,a7⟩:=Y.ob i a hi
  have pn:=Y.pages
  have w3:=Y.wl3
  cases he:v.ended with
  | true =>
    refine ⟨_,w,S,bg,ws,Qbs a2 he,Y.mono fun j=>by unfold up;split <;> first | omega | (subst_vars;omega),fun _ _=>rfl,fun t L j u hj hu=>?_⟩
    have ne:j ≠ i:=fun e=>by subst e;rw [a1] at hj;cases hj;rw [he] at hu;cases hu
    unfold dn;rw [if_neg ne];exact L j u hj hu
  | false =>
    have W:=Y.A.ok i v a1 he
    obtain ⟨r,S2,v2,bg2,es,st⟩:=TR.yr Y.T W he (fun g c hc=>Y.A.unt i v c a1 he g hc)
    have D:Dif 1 2 a (a + 1) (a + 2):=⟨by decide,by omega,by omega,by omega,by omega,by omega,by omega,by omega,by omega,by omega⟩
    obtain ⟨w',e2,A2,F2⟩:=yq Y.T W Y.rm ⟨Y.h1,Y.h2,a2,a3,a4⟩ D (by omega) (by omega) (by omega) es
    have rm:=Y.rm
    have sz:=TR.Vw (m:=50) (fun m p hm=>by have:=(Y.T.page m p hm).few;omega) es
    have lw:wl < w.length:=(List.getElem?_eq_some_iff.mp Y.hw).1
    have li:i < ws.length:=(List.getElem?_eq_some_iff.mp a1).1
    have kd:=TR.Uw Y.T W he es
    have zs:=TR.Qf0 Y.T W a1 he kd st.grow
    refine ⟨_,w',S2,bg2,ws.set i v2,e2,⟨st.tree,Y.A.step a1 he st,Y.K.step Y.T es,Y.D.step Y.T W a1 he es,by rw [st.room];exact Y.rm,by rw [List.length_set];exact Y.len,A2.h1,A2.h2,?_,w3,fun j c hj=>?_,fun j u hj hu=>?_,Y.dj,Nat.le_trans zs Y.cn⟩,fun j hj=>List.getElem?_set_ne (Ne.symm hj),fun t L=>L.step Y.A Y.T a1 he es st.grow⟩
    . rw [F2.2 wl lw (by omega) (by omega) (by omega) (by omega) (by omega)];exact Y.hw
    . by_cases e:j = i
      . subst e
        rw [hi] at hj;cases hj
        refine ⟨v2,List.getElem?_set_self li,A2.h3,A2.h4,A2.h5,a5,?_,?_⟩
        . unfold up;rw [if_pos rfl];omega
        . unfold up;rw [if_pos rfl];omega
      . obtain ⟨u,b1,b2,b3,b4,b5,b6,b7⟩:=Y.ob j c hj
        have l2:c + 2 < w.length:=(List.getElem?_eq_some_iff.mp b4).1
        have dd:=Y.dj i j a c (Ne.symm e) hi hj
        refine ⟨u,by rw [List.getElem?_set_ne (Ne.symm e)];exact b1,?_,?_,?_,b5,by unfold up;rw [if_neg e];exact b6,by unfold up;rw [if_neg e];exact b7⟩
        . rw [F2.2 c (by omega) (by omega) (by omega) (by omega) (by omega) (by omega)];exact b2
        . rw [F2.2 (c + 1) (by omega) (by omega) (by omega) (by omega) (by omega) (by omega)];exact b3
        . rw [F2.2 (c + 2) (by omega) (by omega) (by omega) (by omega) (by omega) (by omega)];exact b4
    . have ne:j ≠ i:=fun e=>by subst e;rw [hi] at hj;cases hj
      rw [List.getElem?_set_ne (Ne.symm ne)] at hu
      exact Y.no j u hj hu
theorem QcO (Y:Sys w wl S bg H ws b G) {i:Nat} (hi:i < H.length) (hd:∀ v,ws[i]? = some v -> v.ended = true) (d:TR.Deed):Sys ((w ++ [wkO 1 (w.length + 1) (w.length + 2) (TR.fresh d),.dic [],.lst []]).set wl (.lst ((H.map hD).set i (.ref w.length)))) wl S bg (H.set i (some w.length)) (ws.set i (TR.fresh d)) b (G + 1):=by
  have w3:=Y.wl3
  have lw:wl < w.length:=(List.getElem?_eq_some_iff.mp Y.hw).1
  have li:i < ws.length:=by rw [<- Y.len];exact hi
  have old:∀ j x,j ≠ wl -> w[j]? = some x -> ((w ++ [wkO 1 (w.length + 1) (w.length + 2) (TR.fresh d),.dic [],.lst []]).set wl (.lst ((H.map hD).set i (.ref w.length))))[j]? = some x:=fun j x hj h=>gs (Ne.symm hj) ((List.getElem?_append_left (List.getElem?_eq_some_iff.mp h).1).trans h)
  have cz:=TR.yg TR.zf ws i _ (TR.fresh d) (List.getElem?_eq_getElem li)
  have cn:=Y.cn
  have z1:∀ c:Bool,(if c = true then 1 else 0) <= 1:=fun c=>by cases c <;> simp
  have z2:=z1 (TR.zf (TR.fresh d))
  refine ⟨Y.T,Y.A.put rfl rfl rfl,Y.K,Y.D.put hd _,Y.rm,by simp [Y.len],old 1 _ (by omega) Y.h1,old 2 _ (by omega) Y.h2,?_,w3,fun j c hj=>?_,fun j u hj hu=>?_,fun j j' a c hne ha hb=>?_,by unfold TR.zc at cn ⊢;omega⟩
  . rw [Zn _ _ _ (by rw [List.getElem?_append_left lw,Y.hw];rfl),List.map_set];rfl
  . rcases TR.Q2 hj with ⟨rfl,e,_⟩ | ⟨ne,hj⟩
    . cases e
      refine ⟨TR.fresh d,List.getElem?_set_self li,gs (by omega) (by simp),gs (by omega) ?_,gs (by omega) ?_,lw,Nat.zero_le _,Nat.zero_le _⟩
      . rw [List.getElem?_append_right (by omega)];simp;rfl
      . rw [List.getElem?_append_right (by omega)];simp;rfl
    . obtain ⟨u,b1,b2,b3,b4,b5,b6,b7⟩:=Y.ob j c hj
      exact ⟨u,by rw [List.getElem?_set_ne (Ne.symm ne)];exact b1,old c _ (by omega) b2,old (c + 1) _ (by omega) b3,old (c + 2) _ (by omega) b4,b5,b6,b7⟩
  . rcases TR.Q2 hj with ⟨_,e,_⟩ | ⟨ne,hj⟩
    . cases e
    . rw [List.getElem?_set_ne (Ne.symm ne)] at hu
      exact Y.no j u hj hu
  . have small:∀ j b,H[j]? = some (some b) -> b + 2 < w.length:=fun j b hj=>by
      obtain ⟨u,_,_,_,b4,_⟩:=Y.ob j b hj
      exact (List.getElem?_eq_some_iff.mp b4).1
    rcases TR.Q2 ha with ⟨rfl,e,_⟩ | ⟨na,ha2⟩
    . cases e
      rcases TR.Q2 hb with ⟨rfl,e,_⟩ | ⟨nb,hb2⟩
      . exact absurd rfl hne
      . exact .inr (small _ _ hb2)
    . rcases TR.Q2 hb with ⟨rfl,e,_⟩ | ⟨nb,hb2⟩
      . cases e;exact .inl (small _ _ ha2)
      . exact Y.dj j j' a c hne ha2 hb2
theorem Gh {N:Nat} (Y:Sys w wl S bg H ws (fun _=>N) G) {i a:Nat} (hi:H[i]? = some (some a)) (hN:N + 5 < 900) (hG:G < 1000) (c:Int) (e0 e1 e6:Sl):∃ w' S' bg' ws' z6,UJ [e0,e1,.val (.ref 1),.val (.ref wl),.val (.int c),.val (.int (i:Int)),e6] w = some ((.nx,[e0,e1,.val (.ref 1),.val (.ref wl),.val (.int c),.val (.int (i:Int)),z6]),w') /\ Sys w' wl S' bg' H ws' (fun _=>N + 5) G:=by
  have p5:=Q5 (Jd c 10133 5 (by decide) (by decide) (by decide))
  obtain ⟨m,hm⟩:=yX (Xo c 10133 5 (by decide))
  have ml:=Yn c 10133 5 (by decide)
  rw [hm] at p5 ml
  have M:WP (Yx (fun d env=>do let env' <- gN 6 d env;uI env') (QW 0 (1 + m)) [e0,e1,.val (.ref 1),.val (.ref wl),.val (.int c),.val (.int (i:Int)),e6]) w fun q w'=>∃ S' bg' ws' z6,q = (.nx,[e0,e1,.val (.ref 1),.val (.ref wl),.val (.int c),.val (.int (i:Int)),z6]) /\ Sys w' wl S' bg' H ws' (fun _=>N + (1 + m)) G:=by
    refine Y4 (fun j env w'=>∃ S' bg' ws' z6,env = [e0,e1,.val (.ref 1),.val (.ref wl),.val (.int c),.val (.int (i:Int)),z6] /\ Sys w' wl S' bg' H ws' (fun _=>N + j) G) _ ⟨S,bg,ws,e6,rfl,Y⟩ (fun j d0 hd0 env w' zz=>?_) (fun env w' zz=>by obtain ⟨S',bg',ws',z6,e,Y'⟩:=zz;exact ⟨S',bg',ws',z6,by rw [e],by rw [Zk] at Y';exact Y'⟩)
    obtain ⟨S',bg',ws',z6,rfl,Y'⟩:=zz
    obtain ⟨hj,hd'⟩:=Xp hd0
    subst hd'
    obtain ⟨v,a1,a2,_⟩:=Y'.ob i a hi
    obtain ⟨x,w2,S2,bg2,ws2,es,Y2,_⟩:=GP Y' hi (by show N + j < 900;omega) hG
    refine WP.of (XD (QR (Qj (Qe rfl) (Qe rfl) (U8 (i:=i) Y'.hw (by rw [List.getElem?_map,hi];rfl))) a2 (jM ..) Xe rfl es)) ⟨S2,bg2,ws2,_,rfl,Y2.mono fun k=>?_⟩
    show (if k = i then N + j + 1 else N + j) <= N + (j + 1)
    split <;> omega
  obtain ⟨q,w',eM,S',bg',ws',z6,rfl,Y'⟩:=M
  exact ⟨w',S',bg',ws',z6,J4 (XN (m:=1 + m) (ZQ (Qj rfl (QS (Z0 (Qe rfl) rfl rfl) rfl (p5 _)) (by show some (DV.int (1 + (m:Int)),w) = _;rw [show (1 + (m:Int)) = ((1 + m:Nat):Int) by omega]))) (by omega)) eM,Y'.mono fun _=>by omega⟩
theorem QaQ {N:Nat} (Y:Sys w wl S bg H ws (fun _=>N) G) (hH:0 < H.length) (hH8:H.length <= 8) (hN:N + 5 < 900) (hG:G + 1 < 1000) (c:Int) (e0 e1 e5 e6:Sl):∃ w' S' bg' H' ws' z5 z6,Kc [e0,e1,.val (.ref 1),.val (.ref wl),.val (.int c),e5,e6] w = some ((.nx,[e0,e1,.val (.ref 1),.val (.ref wl),.val (.int c),z5,z6]),w') /\ Sys w' wl S' bg' H' ws' (fun _=>N + 5) (G + 1) /\ H'.length = H.length:=by
  have pk:=Q5 (Jd c 10111 H.length (by decide) (by decide) (by omega))
  obtain ⟨i,hi⟩:=yX (Xo c 10111 H.length (by omega))
  have hil:=Yn c 10111 H.length (by omega)
  rw [hi] at pk hil
  have hil':i < H.length:=by omega
  have ln:Jf XO (Qc (Qd 3) Qm) [e0,e1,.val (.ref 1),.val (.ref wl),.val (.int c),e5,e6] w = some (.int (H.length:Nat),w):=(zM (ZQ (Qe rfl)) (QaD Y.hw)).trans (by rw [List.length_map])
  have s1:QL 5 (Qt 3 Qu (Qc (Qd 4) (Qc (eC (.int 10111)) (Qc (Jf XO (Qc (Qd 3) Qm)) Qm)))) [e0,e1,.val (.ref 1),.val (.ref wl),.val (.int c),e5,e6] w = some ((.nx,[e0,e1,.val (.ref 1),.val (.ref wl),.val (.int c),.val (.int (i:Int)),e6]),w):=QX (QS (Z0 (Qe rfl) rfl ln) rfl (pk _))
  have wk:Qn ixG (Qd 3) (Qd 5) [e0,e1,.val (.ref 1),.val (.ref wl),.val (.int c),.val (.int (i:Int)),e6] w = some (hD H[i],w):=Qj (Qe rfl) (Qe rfl) (U8 (i:=i) Y.hw (by rw [List.getElem?_map,List.getElem?_eq_getElem hil'];rfl))
  obtain ⟨d,de,_⟩:=Qdp c w
  have mk:=VA (n:=1) (d:=d) (fa:=Qc (Qd 2) (Qc (Qt 1 X3 (Qc (Qd 4) Qm)) Qm)) (env:=[e0,e1,.val (.ref 1),.val (.ref wl),.val (.int c),.val (.int (i:Int)),e6]) (hp0:=w) (hp:=w) (ZZ (Qe rfl) (QS (ZQ (Qe rfl)) rfl de))
  have lw:wl < w.length:=(List.getElem?_eq_some_iff.mp Y.hw).1
  have pt:Yd (JS "Walk" 3 Zi (Qc (Qd 2) (Qc (Qt 1 X3 (Qc (Qd 4) Qm)) Qm))) (gSb (Qd 3) (Qd 5)) [e0,e1,.val (.ref 1),.val (.ref wl),.val (.int c),.val (.int (i:Int)),e6] w = some ((.nx,[e0,e1,.val (.ref 1),.val (.ref wl),.val (.int c),.val (.int (i:Int)),e6]),(w ++ [wkO 1 (w.length + 1) (w.length + 2) (TR.fresh d),.dic [],.lst []]).set wl (.lst ((H.map hD).set i (.ref w.length)))):=by
    refine yo mk ?_
    unfold gSb
    rw [Qg (Qe rfl),Qg (Qe rfl),Qg (GB (i:=i) ((List.getElem?_append_left lw).trans Y.hw) (by simpa using hil'))];rfl
  have made:(∀ v,ws[i]? = some v -> v.ended = true) -> ∃ w' S' bg' ws' z6,UJ [e0,e1,.val (.ref 1),.val (.ref wl),.val (.int c),.val (.int (i:Int)),e6] ((w ++ [wkO 1 (w.length + 1) (w.length + 2) (TR.fresh d),.dic [],.lst []]).set wl (.lst ((H.map hD).set i (.ref w.length)))) = some ((.nx,[e0,e1,.val (.ref 1),.val (.ref wl),.val (.int c),.val (.int (i:Int)),z6]),w') /\ Sys w' wl S' bg' (H.set i (some w.length)) ws' (fun _=>N + 5) (G + 1):=fun hd =>
    Gh (QcO Y hil' hd d) (List.getElem?_set_self hil') hN (by omega) c e0 e1 e6
  cases hx:H[i] with
  | none =>
    rw [hx] at wk
    have ha:H[i]? = some none:=by rw [List.getElem?_eq_getElem hil',hx]
    obtain ⟨w',S',bg',ws',z6,eL,Y'⟩:=made fun v hv=>Y.no i v ha hv
    exact ⟨w',S',bg',_,ws',_,z6,(Ql s1).trans ((Ql ((ZE (Qc5 (Zm (b:=true) (Qj wk rfl rfl)))).trans pt)).trans eL),Y',by simp⟩
  | some a =>
    rw [hx] at wk
    have ha:H[i]? = some (some a):=by rw [List.getElem?_eq_getElem hil',hx]
    obtain ⟨v,v1,v2,_⟩:=Y.ob i a ha
    have ov:=jv v2
    have t:eOr (eB (Qn isD (Qn ixG (Qd 3) (Qd 5)) (eC .non))) (eB (QD "Walk" "over" 1 ZY (Qn ixG (Qd 3) (Qd 5)) Qm)) [e0,e1,.val (.ref 1),.val (.ref wl),.val (.int c),.val (.int (i:Int)),e6] w = some (v.ended,w):=(K7 (Zm (b:=false) (Qj wk rfl rfl))).trans (Zm (QR wk v2 (jN ..) Xe rfl ov))
    cases he:v.ended with
    | true =>
      rw [he] at t
      obtain ⟨w',S',bg',ws',z6,eL,Y'⟩:=made fun u hu=>by rw [v1] at hu;cases hu;exact he
      exact ⟨w',S',bg',_,ws',_,z6,(Ql s1).trans ((Ql ((ZE t).trans pt)).trans eL),Y',by simp⟩
    | false =>
      rw [he] at t
      obtain ⟨w',S',bg',ws',z6,eL,Y'⟩:=Gh Y ha hN (by omega) c e0 e1 e6
      exact ⟨w',S',bg',H,ws',_,z6,(Ql s1).trans ((Ql ((Zc t).trans Zd)).trans eL),Y'.more (by omega),rfl⟩
end
theorem va {nxt:NX} {t:DV -> M Bool} {f:DV -> M DV} {p:DV -> Bool} {hp:Hs} (ds:List DV) (hn:∀ i,i <= ds.length -> nxt i hp = some (ds[i]?,hp)) (ht:∀ d ∈ ds,t d hp = some (p d,hp)) (hf:∀ d ∈ ds,f d hp = some (d,hp)) (hl:ds.length < 100000):ZL nxt t f 100000 0 hp = some (ds.filter p,hp):=by
  suffices h:∀ (m i n:Nat),m + i = ds.length -> m < n -> ZL nxt t f n i hp = some ((ds.drop i).filter p,hp) by simpa using h ds.length 0 100000 rfl hl
  intro m
  induction m with
  | zero =>
    intro i n e hn'
    obtain ⟨n,rfl⟩:∃ k,n = k + 1:=⟨n - 1,by omega⟩
    have:i = ds.length:=by omega
    subst this
    have e1:=hn ds.length (Nat.le_refl _)
    rw [show ds[ds.length]? = none by simp] at e1
    rw [ZL,Qg e1,List.drop_length];rfl
  | succ m ih =>
    intro i n e hn'
    obtain ⟨n,rfl⟩:∃ k,n = k + 1:=⟨n - 1,by omega⟩
    have hlt:i < ds.length:=by omega
    have e1:=hn i (by omega)
    rw [List.getElem?_eq_getElem hlt] at e1
    have hi:=ih (i + 1) n (by omega) (by omega)
    rw [ZL,Qg e1]
    simp only
    rw [Qg (ht ds[i] (List.getElem_mem hlt)),List.drop_eq_getElem_cons hlt]
    cases q:p ds[i] with
    | false=>rw [List.filter_cons_of_neg (by simp [q])];simpa using hi
    | true =>
      rw [List.filter_cons_of_pos q]
      simp only [if_true]
      rw [Qg (hf ds[i] (List.getElem_mem hlt)),Qg hi];rfl
section
variable {w:Hs} {wl:Nat} {S:TR.Sh} {bg:TR.Bg} {H:List (Option Nat)} {ws:List TR.Wk} {b:Nat -> Nat} {G:Nat}
def live (w:Hs):DV -> Bool
  | .ref a=>match w[a]? with
    | some (.ins _ fs)=>match List.lookup ("ended" : Str) fs with
      | some (.bl e)=>!e
      | _=>false
    | _=>false
  | _=>false
theorem Ki {n f q a:Nat} {v:TR.Wk} (h:w[a]? = some (wkO n f q v)):live w (.ref a) = !v.ended:=by
  show (match w[a]? with
    | some (.ins _ fs)=>(match List.lookup ("ended" : Str) fs with
      | some (.bl e)=>!e
      | _=>false)
    | _=>false) = _
  rw [h]
  show (match List.lookup ("ended" : Str) (wkF n f q (Jq v.deed) (.int v.aim) (.int v.goal) (oN v.place) (oN v.newp) (opt v.worth) (.bl v.ended)) with
      | some (.bl e)=>!e
      | _=>false) = _
  rw [YU]
theorem Qap (Y:Sys w wl S bg H ws b G):∃ L:List (Nat × Nat),(H.map hD).filter (live w) = L.map (fun p=>DV.ref p.2) /\ (L.map (·.1)).Nodup /\ (∀ p ∈ L,H[p.1]? = some (some p.2) /\ ∃ v,ws[p.1]? = some v /\ v.ended = false) /\ (∀ (i:Nat) (v:TR.Wk),ws[i]? = some v -> v.ended = false -> ∃ p ∈ L,p.1 = i):=by
  let f:Nat -> Option (Nat × Nat):=fun i=>match H[i]? with
    | some (some a)=>if live w (.ref a) = true then some (i,a) else none
    | _=>none
  have key:∀ (m:Nat),m <= H.length -> ((H.take m).map hD).filter (live w) = ((List.range m).filterMap f).map (fun p=>DV.ref p.2):=by
    intro m
    induction m with
    | zero=>intro _;rfl
    | succ m ih =>
      intro hm
      have hlt:m < H.length:=by omega
      rw [List.take_add_one,List.getElem?_eq_getElem hlt,List.map_append,List.filter_append,ih (by omega),List.range_succ,List.filterMap_append,List.map_append]
      congr 1
      show (List.filter (live w) [hD H[m]]) = _
      have fm:f m = (match (some H[m]:Option (Option Nat)) with
        | some (some a)=>if live w (.ref a) = true then some (m,a) else none
        | _=>none):=by show (match H[m]? with | some (some a)=>_ | _=>_) = _;rw [List.getElem?_eq_getElem hlt]
      generalize H[m] = o at fm ⊢
      cases o with
      | none =>
        have e:f m = none:=fm
        rw [List.filterMap_cons,e];rfl
      | some a =>
        show List.filter (live w) [DV.ref a] = _
        have e:f m = if live w (.ref a) = true then some (m,a) else none:=fm
        cases q:live w (.ref a) with
        | true =>
          rw [if_pos q] at e
          rw [List.filter_cons_of_pos q,List.filterMap_cons,e];rfl
        | false =>
          rw [if_neg (by simp [q])] at e
          rw [List.filter_cons_of_neg (by simp [q]),List.filterMap_cons,e];rfl
  have k0:=key H.length (Nat.le_refl _)
  rw [List.take_length] at k0
  have mem:∀ p ∈ (List.range H.length).filterMap f,H[p.1]? = some (some p.2) /\ live w (.ref p.2) = true /\ f p.1 = some p:=fun p hp=>by
    obtain ⟨i,_,hi⟩:=List.mem_filterMap.mp hp
    have hi':=hi
    simp only [f] at hi
    split at hi
    . rename_i a ha
      split at hi
      . rename_i hq
        cases hi
        exact ⟨ha,hq,hi'⟩
      . cases hi
    . cases hi
  refine ⟨(List.range H.length).filterMap f,k0,?_,fun p hp=>?_,fun i v hv he=>?_⟩
  . have fst:∀ l:List Nat,(∀ i ∈ l,∀ p,f i = some p -> p.1 = i) -> l.Nodup -> ((l.filterMap f).map (·.1)).Nodup:=fun l=>by
      induction l with
      | nil=>intro _ _;exact List.nodup_nil
      | cons i l ih =>
        intro h1 h2
        obtain ⟨n1,n2⟩:=List.nodup_cons.mp h2
        have ih':=ih (fun j hj=>h1 j (List.mem_cons_of_mem _ hj)) n2
        rw [List.filterMap_cons]
        cases q:f i with
        | none=>exact ih'
        | some p =>
          simp only [List.map_cons]
          refine List.nodup_cons.mpr ⟨fun hm=>n1 ?_,ih'⟩
          obtain ⟨x,hx,ex⟩:=List.mem_map.mp hm
          obtain ⟨j,hj,hfj⟩:=List.mem_filterMap.mp hx
          have:=h1 j (List.mem_cons_of_mem _ hj) x hfj
          rw [<- h1 i (by simp) p q,<- ex,this];exact hj
    refine fst _ (fun i _ p hp=>?_) List.nodup_range
    simp only [f] at hp
    split at hp
    . split at hp
      . cases hp;rfl
      . cases hp
    . cases hp
  . obtain ⟨m1,m2,_⟩:=mem p hp
    obtain ⟨v,v1,v2,_⟩:=Y.ob p.1 p.2 m1
    refine ⟨m1,v,v1,?_⟩
    rw [Ki v2] at m2
    simpa using m2
  . have hi:i < H.length:=by rw [Y.len];exact (List.getElem?_eq_some_iff.mp hv).1
    cases hx:H[i] with
    | none=>rw [Y.no i v (by rw [List.getElem?_eq_getElem hi,hx]) hv] at he;cases he
    | some a =>
      have ha:H[i]? = some (some a):=by rw [List.getElem?_eq_getElem hi,hx]
      obtain ⟨u,v1,v2,_⟩:=Y.ob i a ha
      rw [hv] at v1;cases v1
      refine ⟨(i,a),List.mem_filterMap.mpr ⟨i,List.mem_range.mpr hi,?_⟩,rfl⟩
      show (match H[i]? with | some (some a)=>if live w (.ref a) = true then some (i,a) else none | _=>none) = _
      rw [ha]
      show (if live w (.ref a) = true then some (i,a) else none) = _
      rw [if_pos (by rw [Ki v2,he];rfl)]
theorem upn {b:Nat -> Nat} (L:List Nat) (i:Nat) (j:Nat) (h:j ∉ L):(fun k=>if k ∈ L ++ [j] then b k + 1 else b k) i = up (fun k=>if k ∈ L then b k + 1 else b k) j i:=by
  unfold up
  by_cases e:i = j
  . subst e;simp [h]
  . simp [e]
theorem dnn {t:Nat -> Nat} (L:List Nat) (i:Nat) (j:Nat) (h:j ∉ L):(fun k=>if k ∈ L ++ [j] then t k - 1 else t k) i = dn (fun k=>if k ∈ L then t k - 1 else t k) j i:=by
  unfold dn
  by_cases e:i = j
  . subst e;simp [h]
  . simp [e]
theorem QcS (Y:Sys w wl S bg H ws b G) {t:Nat -> Nat} (Lm:TR.Lim S bg ws t) (hb:∀ i,b i < 900) (hG:G < 1000) (hH:H.length <= 8) {L:List (Nat × Nat)} (nd:(L.map (·.1)).Nodup) (hL:∀ p ∈ L,H[p.1]? = some (some p.2) /\ ∃ v,ws[p.1]? = some v /\ v.ended = false) (al:∀ (i:Nat) (v:TR.Wk),ws[i]? = some v -> v.ended = false -> ∃ p ∈ L,p.1 = i) (z2 z4:Sl) :
    ∃ w' S' bg' ws' z4',X6 [.val (.ref 1),.val (.ref wl),z2,.val (.lst (L.map fun p=>.ref p.2)),z4] w = some ((.nx,[.val (.ref 1),.val (.ref wl),z2,.val (.lst (L.map fun p=>.ref p.2)),z4']),w') /\ Sys w' wl S' bg' H ws' (fun i=>b i + 1) G /\ TR.Lim S' bg' ws' (fun i=>t i - 1):=by
  have hl:L.length <= 8:=by
    have:=TR.YA nd (m:=List.range H.length) fun x hx=>by
      obtain ⟨p,hp,rfl⟩:=List.mem_map.mp hx
      exact List.mem_range.mpr (List.getElem?_eq_some_iff.mp (hL p hp).1).1
    rw [List.length_map,List.length_range] at this
    omega
  have M:WP (jl (nxD (L.map fun p=>DV.ref p.2)) (fun d env=>do let env' <- gN 4 d env;Yb env') 100000 0 [.val (.ref 1),.val (.ref wl),z2,.val (.lst (L.map fun p=>.ref p.2)),z4]) w fun q w'=>∃ S' bg' ws' z4',q = (.nx,[.val (.ref 1),.val (.ref wl),z2,.val (.lst (L.map fun p=>.ref p.2)),z4']) /\ Sys w' wl S' bg' H ws' (fun k=>if k ∈ L.map (·.1) then b k + 1 else b k) G /\ TR.Lim S' bg' ws' (fun k=>if k ∈ L.map (·.1) then t k - 1 else t k) /\ (∀ i,i ∉ L.map (·.1) -> ws'[i]? = ws[i]?):=by
    refine yt _ (fun j env w'=>∃ S' bg' ws' z4',env = [.val (.ref 1),.val (.ref wl),z2,.val (.lst (L.map fun p=>.ref p.2)),z4'] /\ Sys w' wl S' bg' H ws' (fun k=>if k ∈ (L.map (·.1)).take j then b k + 1 else b k) G /\ TR.Lim S' bg' ws' (fun k=>if k ∈ (L.map (·.1)).take j then t k - 1 else t k) /\ (∀ i,i ∉ (L.map (·.1)).take j -> ws'[i]? = ws[i]?)) (by simp;omega) ⟨S,bg,ws,z4,rfl,by simpa using Y,by simpa using Lm,fun _ _=>rfl⟩ (fun j d hd env w' zz=>?_) (fun env w' zz=>by
      obtain ⟨S',bg',ws',z4',e,Y',L',o'⟩:=zz
      rw [List.take_of_length_le (by simp)] at Y' L' o'
      exact ⟨S',bg',ws',z4',by rw [e],Y',L',o'⟩)
    obtain ⟨S',bg',ws',z4',rfl,Y',L',o'⟩:=zz
    obtain ⟨p,hp,rfl⟩:∃ p,L[j]? = some p /\ d = .ref p.2:=by
      rw [List.getElem?_map] at hd
      obtain ⟨k,a,c⟩:=Option.map_eq_some_iff.mp hd
      exact ⟨k,a,c.symm⟩
    obtain ⟨q1,v,q2,q3⟩:=hL p (List.mem_of_getElem? hp)
    have hj:(L.map (·.1))[j]? = some p.1:=by rw [List.getElem?_map,hp];rfl
    have ni:p.1 ∉ (L.map (·.1)).take j:=fun hm=>by
      obtain ⟨i,hi⟩:=List.mem_iff_getElem?.mp hm
      have il:i < j:=by have:=(List.getElem?_eq_some_iff.mp hi).1;rw [List.length_take] at this;omega
      rw [List.getElem?_take_of_lt il] at hi
      have:=(List.getElem?_inj (List.getElem?_eq_some_iff.mp hi).1 nd).mp (hi.trans hj.symm)
      omega
    have tk:(L.map (·.1)).take (j + 1) = (L.map (·.1)).take j ++ [p.1]:=by rw [List.take_add_one,hj];rfl
    obtain ⟨u,u1,u2,_⟩:=Y'.ob p.1 p.2 q1
    obtain ⟨x,w2,S2,bg2,ws2,es,Y2,o2,L2⟩:=GP Y' q1 (by show (if p.1 ∈ (L.map (·.1)).take j then b p.1 + 1 else b p.1) < 900;rw [if_neg ni];exact hb _) hG
    refine WP.of (XD (QR (Qe rfl) u2 (jM ..) Xe rfl es)) ⟨S2,bg2,ws2,_,rfl,?_,?_,fun i hi=>?_⟩
    . refine Y2.mono fun i=>Nat.le_of_eq ?_
      rw [tk];exact (upn _ i _ ni).symm
    . have e:=L2 _ L'
      have f:dn (fun k=>if k ∈ (L.map (·.1)).take j then t k - 1 else t k) p.1 = (fun k=>if k ∈ (L.map (·.1)).take (j + 1) then t k - 1 else t k):=funext fun i=>by rw [tk];exact (dnn _ i _ ni).symm
      rw [f] at e;exact e
    . rw [tk] at hi
      have h1:i ∉ (L.map (·.1)).take j:=fun h=>hi (List.mem_append_left _ h)
      have h2:i ≠ p.1:=fun h=>hi (List.mem_append_right _ (by simp [h]))
      rw [o2 i h2,o' i h1]
  obtain ⟨q,w',eM,S',bg',ws',z4',rfl,Y',L',o'⟩:=M
  refine ⟨w',S',bg',ws',z4',zT (jO (hp1:=w) (Qe rfl)) eM,Y'.mono fun i=>?_,fun i v hv he=>?_⟩
  . show (if i ∈ L.map (·.1) then b i + 1 else b i) <= b i + 1
    split <;> omega
  . have hi:i ∈ L.map (·.1):=by
      rcases Classical.em (i ∈ L.map (·.1)) with h | h
      . exact h
      . rw [o' i h] at hv
        obtain ⟨p,hp,e⟩:=al i v hv he
        exact List.mem_map.mpr ⟨p,hp,e⟩
    have:=L' i v hv he
    simp only [if_pos hi] at this
    exact this
theorem Qdu {N:Nat} (Y:Sys w wl S bg H ws (fun _=>N) G) (hN:N + 2 * S.pg.length + 3 * H.length + 2 < 899) (hG:G < 1000) (hH:H.length <= 8) :
    ∃ w' S' bg',JH [.ref 1,.ref wl] w = some (.bl true,w') /\ TR.Tree S' bg' /\ TR.Fk S' /\ (∀ s,s < S'.pg.length -> s ≠ S'.top -> TR.Kd S' s) /\ S'.room <= 50 /\ S'.pg.length <= 2 * G /\ w'[1]? = some (.ins "Shelf" (shF S'.room 2 S'.top S'.rd S'.wr)) /\ w'[2]? = some (.lst (S'.pg.map pgD)):=by
  have pg:=Y.pages
  let T0:=2 * S.pg.length + 3 * H.length + 2
  have Lm:TR.Lim S bg ws (fun _=>T0):=by
    have:=TR.Lim.first Y.T Y.K (TR.Tree.levels Y.T) ws
    rw [<- Y.len] at this;exact this
  have m4:=Q5 (xf 4 (S.pg.length:Int) (by decide) (by decide))
  have rg:zo (Qc (Qn ZJ (Qn qw (eC (.int 4)) (QD "Shelf" "pages" 1 Zx (Qd 0) Qm)) (eC (.int 40))) Qm) [.val (.ref 1),.val (.ref wl),.un,.un,.un] w = some (QW 0 (4 * S.pg.length + 40),w):=XN (m:=4 * S.pg.length + 40) (ZQ (Qj (Qj rfl ((QR (Qe rfl) Y.h1 (XF ..) Xe rfl (jy Y.h1 Y.h2)).trans (by rw [List.length_map])) (m4 _)) rfl (by show some (DV.int _,w) = _;congr 3))) (by omega)
  have M:WP (Yx (fun d env=>do let env' <- gN 2 d env;Yc env') (QW 0 (4 * S.pg.length + 40)) [.val (.ref 1),.val (.ref wl),.un,.un,.un]) w fun q w'=>∃ S' bg' ws' b',q.1 = .rt (.bl true) /\ Sys w' wl S' bg' H ws' b' G /\ ∀ (i:Nat) (v:TR.Wk),ws'[i]? = some v -> v.ended = true:=by
    refine Y4 (fun k env w'=>∃ S' bg' ws' z2 z3 z4,env = [.val (.ref 1),.val (.ref wl),z2,z3,z4] /\ k <= T0 /\ Sys w' wl S' bg' H ws' (fun _=>N + k) G /\ TR.Lim S' bg' ws' (fun _=>T0 - k)) _ ⟨S,bg,ws,_,_,_,rfl,Nat.zero_le _,Y,Lm⟩ (fun k d0 hd0 env w' zz=>?_) (fun env w' zz=>by
      obtain ⟨S',bg',ws',z2,z3,z4,e,hk,_⟩:=zz
      rw [Zk] at hk
      have:T0 = 2 * S.pg.length + 3 * H.length + 2:=rfl
      omega)
    obtain ⟨S',bg',ws',z2,z3,z4,rfl,hk,Y',L'⟩:=zz
    obtain ⟨hj,hd'⟩:=Xp hd0
    subst hd'
    obtain ⟨L,g1,g2,g3,g4⟩:=Qap Y'
    have cm:Jj [.val (.ref 1),.val (.ref wl),.val (.int (k:Int)),z3,z4] w' = some (.lst (L.map fun p=>.ref p.2),w'):=by
      have cx:=va (nxt:=nxW wl) (hp:=w') (t:=fun d=>Yh (eB (Qn Gi (Qd 0) (eC .non))) (Xw (eB (QD "Walk" "over" 1 ZY (Qd 0) Qm))) (cE [] [.val (.ref 1),.val (.ref wl),.val (.int (k:Int)),z3,z4] d)) (f:=fun d=>Qd 0 (cE [] [.val (.ref 1),.val (.ref wl),.val (.int (k:Int)),z3,z4] d)) (p:=live w') (H.map hD) (fun i _=>QdL Y'.hw i) (fun d hd=>by
        obtain ⟨o,ho,rfl⟩:=List.mem_map.mp hd
        cases o with
        | none=>exact Qad (Zm (b:=false) (Qj (x:=.non) (Qe rfl) rfl rfl))
        | some a =>
          obtain ⟨i,hi⟩:=List.mem_iff_getElem?.mp ho
          obtain ⟨v,v1,v2,_⟩:=Y'.ob i a hi
          show _ = some (live w' (.ref a),w')
          rw [Ki v2]
          exact (Qae (Zm (b:=true) (Qj (x:=.ref a) (Qe rfl) rfl rfl))).trans (q8 (Zm (QR (Qe rfl) v2 (jN ..) Xe rfl (jv v2))))) (fun d _=>rfl) (by simp;omega)
      rw [g1] at cx
      unfold Jj Jg
      rw [Qg (QcV (Qe rfl) Y'.hw),Qg (show ZL _ _ _ lim 0 w' = _ from cx)];rfl
    have s1:QL 3 Jj [.val (.ref 1),.val (.ref wl),.val (.int (k:Int)),z3,z4] w' = some ((.nx,[.val (.ref 1),.val (.ref wl),.val (.int (k:Int)),.val (.lst (L.map fun p=>.ref p.2)),z4]),w'):=QX cm
    have tq:eB (Qn eqN (Qd 3) (qc Qm)) [.val (.ref 1),.val (.ref wl),.val (.int (k:Int)),.val (.lst (L.map fun p=>.ref p.2)),z4] w' = some ((L.map fun p=>DV.ref p.2).isEmpty,w'):=Zm (Qj (x:=.lst (L.map fun p=>.ref p.2)) (y:=.lst []) (Qe rfl) rfl rfl)
    cases L with
    | nil =>
      refine WP.of ((Ql s1).trans (Q3 ((ZE tq).trans (QO (d:=.bl true) rfl)))) ⟨S',bg',ws',_,rfl,Y',fun i v hv=>?_⟩
      cases he:v.ended with
      | true=>rfl
      | false=>obtain ⟨p,hp,_⟩:=g4 i v hv he;cases hp
    | cons p0 L1 =>
      obtain ⟨_,v0,v1,v2⟩:=g3 p0 (by simp)
      have ps:=L'.pos Y'.T Y'.K (Y'.A.ok _ _ v1 v2) v1 v2
      have e0:T0 = 2 * S.pg.length + 3 * H.length + 2:=rfl
      obtain ⟨w2,S2,bg2,ws2,z4',eT,Y2,L2⟩:=QcS Y' L' (fun i=>by show N + k < 900;omega) hG hH g2 g3 g4 (.val (.int (k:Int))) z4
      refine WP.of ((Ql s1).trans ((Ql ((Zc tq).trans Zd)).trans eT)) ⟨S2,bg2,ws2,_,_,_,rfl,by omega,?_,?_⟩
      . rw [show N + (k + 1) = N + k + 1 by omega];exact Y2
      . rw [show T0 - (k + 1) = T0 - k - 1 by omega];exact L2
  obtain ⟨⟨fl,env⟩,w',eM,S',bg',ws',b',hf,Y',al⟩:=M
  simp only at hf
  subst hf
  refine ⟨w',S',bg',QI (env:=env) (Q3 (J4 rg eM)),Y'.T,Y'.K,fun s h1 h2=>?_,Y'.rm,Y'.pages,Y'.h1,Y'.h2⟩
  rcases Y'.D s h1 h2 with h | ⟨i,v,a1,a2,_⟩
  . exact h
  . rw [al i v a1] at a2;cases a2
end
theorem QbL (ns:List Int) (k:Nat) (hl:ns.length <= 63):∃ x,Ju [.lst (ns.map .int),.int k] = pure (.int x):=by
  by_cases h:k < ns.length
  . have a:=Y6 (xs:=ns.map DV.int) (j:=k) (v:=.int ns[k]) (by simp [h])
    refine ⟨ns[k],?_⟩
    have h':(k:Int) < (ns.length:Int):=by omega
    simp [Ju,Yv,Q7,Qs,QL,QP,qr,sIf,ZH,yc,jX,ya,yb,Qn,Qd,eC,eB,asB,Yh,eOr,Xw,JR,xY,qm,eIf,xX,Qm,Qc,ZC,qc,Qt,Jf,QB,gN,Z1,Js,Z4,Jc,Jy,Jx,Jr,XC,qq,x9,Z3,J0,qN,ixD,asI,a,h']
  . have h':¬ (k:Int) < (ns.length:Int):=by omega
    exact ⟨0,by simp [Ju,Yv,Q7,Qs,QL,QP,qr,sIf,ZH,yc,jX,ya,yb,Qn,Qd,eC,eB,asB,Yh,eOr,Xw,JR,xY,qm,eIf,xX,Qm,Qc,ZC,qc,Qt,Jf,QB,gN,Z1,Js,Z4,Jc,Jy,Jx,Jr,XC,qq,x9,Z3,J0,qN,h']⟩
theorem Qaz (ns:List Int) (h:ns.length <= 63):∃ hp,KM [.lst (ns.map .int)] [] = some (.bl true,hp):=by
  obtain ⟨x0,c0⟩:=QbL ns 0 h
  have c0':=Q5 c0
  simp only [Int.natCast_zero] at c0'
  obtain ⟨S,bg,F,kvs,hp1,b1,I⟩:=QbJ x0
  have pl0:=TR.jA I.T I.K
  have cn0:=I.cnt
  have l2:2 < hp1.length:=(List.getElem?_eq_some_iff.mp I.h2).1
  obtain ⟨hp2,k1,k2,k3,k4⟩:=yC I.T I.D I.rm I.h1 I.h2 (by omega)
  have D2:=Qav I.D (S.rd + S.pg.length) S.wr
  obtain ⟨hp3,rd3,q1,q2,q3,q4⟩:=qk (S:={ S with rd:=S.rd + S.pg.length,wr:=S.wr }) (I.T.rd _ _) D2 I.rm k2 ((k3 2 l2 (by decide)).trans I.h2) (by show S.pg.length < 4000;omega)
  have p8:=Q5 (Jd x0 10103 8 (by decide) (by decide) (by decide))
  obtain ⟨m,hm⟩:=yX (Xo x0 10103 8 (by decide))
  have ml:=Yn x0 10103 8 (by decide)
  rw [hm] at p8 ml
  let H0:List (Option Nat):=List.replicate (1 + m) none
  have H0l:H0.length = 1 + m:=List.length_replicate ..
  let e3:En:=[.val (.lst (ns.map .int)),.val (.int x0),.val (.ref 1),.un,.un,.un,.un]
  have cn:UE e3 hp3 = some (.ref hp3.length,hp3 ++ [.lst (H0.map hD)]):=by
    have src:xOf (zo (Qc (Qn ZJ (eC (.int 1)) (Qt 3 Qu (Qc (Qd 1) (Qc (eC (.int 10103)) (Qc (eC (.int 8)) Qm))))) Qm)) e3 hp3 = some (nxD (QW 0 H0.length),hp3):=KK (XN (m:=H0.length) (ZQ (Qj rfl (QS (Z0 (Qe rfl) rfl rfl) rfl (p8 _)) (by show some (DV.int (1 + (m:Int)),hp3) = _;rw [H0l,show ((1 + m:Nat):Int) = 1 + (m:Int) by omega]))) (by omega))
    have cx:=qY (hp:=hp3) (t:=fun d=>VX (cE [] e3 d)) (f:=fun d=>eC .non (cE [] e3 d)) (g:=fun _=>.non) (QW 0 H0.length) (fun _ _=>rfl) (fun _ _=>rfl) (by rw [Zk];omega)
    have e:(QW 0 H0.length).map (fun _=>DV.non) = H0.map hD:=by
      rw [List.map_const',Zk]
      show _ = (List.replicate (1 + m) none).map hD
      rw [List.map_replicate,H0l];rfl
    rw [e] at cx
    unfold UE Jg
    rw [Qg src,Qg (show ZL _ _ _ lim 0 hp3 = _ from cx)];rfl
  have ap:∀ {j:Nat} {x:OV},hp3[j]? = some x -> (hp3 ++ [OV.lst (H0.map hD)])[j]? = some x:=fun {j x} hx=>(List.getElem?_append_left (List.getElem?_eq_some_iff.mp hx).1).trans hx
  have nn:∀ (i a:Nat),H0[i]? = some (some a) -> False:=fun i a hx=>by
    have:=List.mem_of_getElem? hx
    have:=List.eq_of_mem_replicate this
    cases this
  let d0:TR.Wk:=⟨.find 0,0,0,none,[],none,none,[],true⟩
  have dead:∀ (i:Nat) (v:TR.Wk),(List.replicate (1 + m) d0)[i]? = some v -> v.ended = true:=fun i v hv=>by rw [List.eq_of_mem_replicate (List.mem_of_getElem? hv)]
  have z0:TR.zc (List.replicate (1 + m) d0) = 0:=by
    unfold TR.zc
    rw [List.filter_eq_nil_iff.mpr fun v hv=>?_]
    . rfl
    . rw [List.eq_of_mem_replicate hv];decide
  let S3:TR.Sh:={ S with rd:=rd3,wr:=S.wr }
  have Y0:Sys (hp3 ++ [.lst (H0.map hD)]) hp3.length S3 bg H0 (List.replicate (1 + m) d0) (fun _=>0) 61:=by
    refine ⟨I.T.rd _ _,⟨fun i v hv he=>?_,fun i v c hv he=>?_,fun i j v u c _ hv _ he=>?_⟩,I.K,fun s a c=>.inl (I.D s a c),I.rm,by rw [H0l,List.length_replicate],ap q2,ap ((q3 2 (by omega) (by decide)).trans ((k3 2 l2 (by decide)).trans I.h2)),by simp,by omega,fun i a hx=>(nn i a hx).elim,fun i v _ hv=>dead i v hv,fun i j a c _ hx=>(nn i a hx).elim,?_⟩
    . rw [dead i v hv] at he;cases he
    . rw [dead i v hv] at he;cases he
    . rw [dead i v hv] at he;cases he
    . rw [z0];show TR.Jl S 0 + 0 <= 61;omega
  have hc:D.xV (ns.map DV.int) none (some 120) = ns.map .int:=by
    have q:D.xV (ns.map DV.int) none (some 120) = (ns.map DV.int).take 120:=K0 (ns.map DV.int) 120
    rw [q,List.take_of_length_le (by simp;omega)]
  let e4:Sl -> Sl -> Sl -> En:=fun z4 z5 z6=>[.val (.lst (ns.map .int)),.val (.int x0),.val (.ref 1),.val (.ref hp3.length),z4,z5,z6]
  have M:WP (jl (nxD (ns.map .int)) (fun d env=>gN 4 d env >>= fun env'=>Kc env') 100000 0 (e4 .un .un .un)) (hp3 ++ [.lst (H0.map hD)]) fun q w=>∃ S' bg' H' ws' z4 z5 z6,q = (.nx,e4 z4 z5 z6) /\ Sys w hp3.length S' bg' H' ws' (fun _=>315) 124 /\ H'.length = H0.length:=by
    refine yt _ (fun i env w=>∃ S' bg' H' ws' z4 z5 z6,env = e4 z4 z5 z6 /\ Sys w hp3.length S' bg' H' ws' (fun _=>5 * i) (61 + i) /\ H'.length = H0.length) (by simp;omega) ⟨_,_,_,_,_,_,_,rfl,Y0,rfl⟩ (fun i d hd env w zz=>?_) (fun env w zz=>?_)
    . obtain ⟨S',bg',H',ws',z4,z5,z6,rfl,Y,hl⟩:=zz
      have hi:i < 63:=by have:=(List.getElem?_eq_some_iff.mp hd).1;simp at this;omega
      obtain ⟨c,_,rfl⟩:=List.mem_map.mp (List.mem_of_getElem? hd)
      obtain ⟨w',S2,bg2,H2,ws2,y5,y6,e,Y2,l3⟩:=QaQ Y (by rw [hl,H0l];omega) (by rw [hl,H0l];omega) (by omega) (by omega) c (.val (.lst (ns.map .int))) (.val (.int x0)) z5 z6
      exact ⟨_,_,e,S2,bg2,H2,ws2,_,y5,y6,rfl,Y2,by rw [l3,hl]⟩
    . obtain ⟨S',bg',H',ws',z4,z5,z6,rfl,Y,hl⟩:=zz
      exact ⟨S',bg',H',ws',z4,z5,z6,rfl,(Y.mono fun _=>by simp;omega).more (by simp;omega),hl⟩
  obtain ⟨q,w,eM,S',bg',H',ws',z4,z5,z6,rfl,Y,hl⟩:=M
  have L:v8 (e4 .un .un .un) (hp3 ++ [.lst (H0.map hD)]) = some ((.nx,e4 z4 z5 z6),w):=by
    refine zT (ds:=ns.map .int) (hp1:=hp3 ++ [.lst (H0.map hD)]) ?_ eM
    have e1:eSl (Qd 0) ZM (ZN (eC (.int 120))) (e4 .un .un .un) = pure (.lst (ns.map .int)):=by
      simp [e4,eSl,ZM,ZN,slD,hc,Q7,Qs,QL,QP,qr,sIf,ZH,yc,jX,ya,yb,Qn,Qd,eC,eB,asB,Yh,eOr,Xw,JR,xY,qm,eIf,xX,Qm,Qc,ZC,qc,Qt,Jf,QB,gN,Z1,Js,Z4,Jc,Jy,Jx,Jr,XC,qq,x9,Z3,J0,asI]
    exact jO (Q5 e1 _)
  have pg:=Y.pages
  obtain ⟨w1,S1,bg1,f1,f2,f3,f4,f5,f6,f7,f8⟩:=Qdu Y (by rw [hl,H0l];omega) (by omega) (by rw [hl,H0l];omega)
  have m2:2 < w1.length:=(List.getElem?_eq_some_iff.mp f8).1
  obtain ⟨w2,r1,r2,r3,r4⟩:=yC f2 f4 f5 f7 f8 (by omega)
  obtain ⟨w3,rd4,t1,t2,t3,t4⟩:=qk (S:={ S1 with rd:=S1.rd + S1.pg.length,wr:=S1.wr }) (f2.rd _ _) (Qav f4 _ _) f5 r2 ((r3 2 m2 (by decide)).trans f8) (by show S1.pg.length < 4000;omega)
  have u1:QL 1 (Qt 2 Ju (Qc (Qd 0) (Qc (eC (.int 0)) Qm))) [.val (.lst (ns.map .int)),.un,.un,.un,.un,.un,.un] [] = some ((.nx,[.val (.lst (ns.map .int)),.val (.int x0),.un,.un,.un,.un,.un]),[]):=QX (QS (ZZ (Qe rfl) rfl) rfl (c0' _))
  have u2:QL 2 (Qt 2 Yj (Qc (Qd 1) (Qc J7 Qm))) [.val (.lst (ns.map .int)),.val (.int x0),.un,.un,.un,.un,.un] [] = some ((.nx,e3),hp1):=QX (QS (ZZ (Qe rfl) (v':=.ref 0) (hp2:=[.dic []]) rfl) rfl b1)
  have u3:sIf (eOr (Xw (eB (Qt 1 Zv (Qc (Qd 2) Qm)))) (Xw (eB (Qt 1 Zu (Qc (Qd 2) Qm))))) (QP (eC (.bl false))) ZH e3 hp1 = some ((.nx,e3),hp3):=(Zc ((K7 (q8 (b:=true) (Zm (QS (ZQ (Qe rfl)) rfl k1)))).trans (q8 (b:=true) (Zm (QS (ZQ (Qe rfl)) rfl q1))))).trans Zd
  have u5:QP (JR (Qt 2 JH (Qc (Qd 2) (Qc (Qd 3) Qm))) (JR (Qt 1 Zv (Qc (Qd 2) Qm)) (Qt 1 Zu (Qc (Qd 2) Qm)))) (e4 z4 z5 z6) w = some ((.rt (.bl true),e4 z4 z5 z6),w3):=QO ((yJ (QS (ZZ (Qe rfl) (Qe rfl)) rfl f1)).trans ((if_pos rfl).trans ((yJ (QS (ZQ (Qe rfl)) rfl r1)).trans ((if_pos rfl).trans (QS (ZQ (Qe rfl)) rfl t1)))))
  exact ⟨w3,QI ((Ql u1).trans ((Ql u2).trans ((Ql u3).trans ((Ql (QX cn)).trans ((Ql L).trans u5)))))⟩
theorem tc_EMPTY_LEAF {K:PySem.W.Frag} {a0 a1 a2:Addr} {d0 d1 d2:Option Addr} {n0 n1 n2:Nat} {s0 s1 s2:Array (Option Value)} {t1:Tok} (l0:K.lookup a0 = some ⟨.type "tuple", d0,.seq #[.int 0 t1,.ref a1,.ref a2,.none,.none] n0,s0⟩) (l2:K.lookup a2 = some ⟨.type "tuple", d2,.seq #[] n2,s2⟩) (l1:K.lookup a1 = some ⟨.type "tuple", d1,.seq #[] n1,s1⟩):KRep K (.tup [.int 0,.tup [],.tup [],.non,.non]) (.ref a0):=(vz (xs:=[.int 0,.ref a1,.ref a2,.non,.non]) l0 (Nat.le_of_ble_eq_true rfl) (.cons ⟨_,rfl⟩ (.cons rfl (.cons rfl (.cons rfl (.cons rfl .nil))))) (qM QdE (qM (vz (xs:=[]) l1 (Nat.le_of_ble_eq_true rfl) .nil Kb) (qM (vz (xs:=[]) l2 (Nat.le_of_ble_eq_true rfl) .nil Kb) (qM Qax (qM Qax Kb))))))
theorem law_mk {P:Program} {w:World} {K:PySem.W.Frag} {h:Heap} {mg:Str -> Option Value} {fa f:Addr} {oc kV dc pm cd ct:Value} {od an:Option Addr} {sl:Array (Option Value)} (X:K.In h) (G:h.Ns mainGlobals mg) (hfa:mg "law" = some (.ref fa)) (Z:Al K mg) (n:PySem.W.nsIn K mainGlobals "law" = some (some (.ref f))) (l:K.lookup f = some ⟨oc,od,.func (PySem.W.fnOf "law" "law" (JJ xJ) (ZD xJ) (Qp xJ) .none kV dc pm an cd ct),sl⟩) (c:PySem.W.codeIn K cd "law" = true) (k:PySem.W.keepIn K (.ref f) = true):∃ fd:FuncData,(∀ (s:Shared) (v:Value),BindsTo s fd ⟨[v],[]⟩ [("script", v)]) /\ ∀ base:Heap,K.In base -> base.Ns mainGlobals mg -> qC P w K mg base CX0 9 fa fd ["script"] (spD K 1 KM):=by
  cases hfa.symm.trans (PySem.W.mg_of X G n)
  exact ⟨PySem.W.fnOf "law" "law" (JJ xJ) (ZD xJ) (Qp xJ) .none kV dc pm an cd ct,fun s v=>.of_eq rfl,fun base _ _=>law_fn Z (U1 l c k)⟩
theorem walk {l:PySem.W.OpenLaw} {q:Program} {loose:List Str} {XP:(Str -> Option Value) -> Heap -> Prop} {YP:World -> Heap -> Prop} {d:DefRec} {K:Params -> PySem.W.Frag} (hn:l.most = some 63) (hdf:d.params.defaults = [])
    (hY:∀ (w:World) (h:Heap),YP w h -> (K w.params).In h)
    (F:∀ (w:World) (mg:Str -> Option Value) (fa:Addr) (h:Heap),(K w.params).In h -> h.Ns mainGlobals mg -> mg d.name = some (.ref fa) ->
      ∃ fd:FuncData,(∀ (s:Shared) (u:Value),BindsTo s fd ⟨[u],[]⟩ [("script", u)]) /\ ∀ base:Heap,(K w.params).In base -> base.Ns mainGlobals mg -> qC l.prog w (K w.params) mg base CX0 9 fa fd ["script"] (spD (K w.params) 1 KM)) :
    PySem.W.WalkO q loose XP YP l.row.toRowW d [] (fun f vs=>PySem.call f vs) :=
  L2.uU (n:=63) (k:=9) (x := "script") (CX:=fun _=>CX0) (sp:=fun w=>spD (K w.params) 1 KM) hn (by decide) hdf ⟨rfl,by decide,by decide⟩ hY F (fun w _ a ns hl _ hS=>QdF (Qaz ns hl) hS) fun _ _ _ _ _ z=>z
end K26
open PySem PySem.W PyProof.Rows
open D in
set_option maxRecDepth 100000 in
set_option maxHeartbeats 0 in
theorem PySem.Challenge.cw_sidelink_k26_whole_all_told_holds : PySem.Challenge.rw_sidelink_k26_whole_all_told.Holds := by
  w_on;o_law;k_head;(case hw=>w_witness2)
  k_fill
  refine K26.walk (l:=PySem.Challenge.rw_sidelink_k26_whole_all_told) rfl rfl (fun w h Y=>PySem.W.kIn_of Y) ?F
  case F =>
    intro w mg fa h KX G hmg
    have c0:UC _ "Shelf" := uc KX (by k_is) (by k_is) (by k_is) (by k_is) (by k_is)
    have c1:UC _ "Walk" := uc KX (by k_is) (by k_is) (by k_is) (by k_is) (by k_is)
    exact K26.law_mk KX G hmg (by constructor <;> first | exact PySem.W.mg_none_of KX G (by k_is) | exact uf KX G (by k_is) (by k_is) (by k_is) (by k_is) | exact ug KX G (by k_is) | exact ut KX G (by k_is) (K26.tc_EMPTY_LEAF (by k_is) (by k_is) (by k_is)) | exact uk KX c0 (by k_is) (by k_is) | exact um KX c0 (by k_is) (by k_is) (by k_is) (by k_is) (by k_is) (by k_is) | exact uk KX c1 (by k_is) (by k_is) | exact um KX c1 (by k_is) (by k_is) (by k_is) (by k_is) (by k_is) (by k_is) | exact ui KX G (by k_is) (by k_is) (by k_is) (by k_is) (by k_is) (by k_is) (by k_is) (by k_is)) (by k_is) (by k_is) (by k_is) (by k_is)

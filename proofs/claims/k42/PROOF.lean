import PyProof.Rows.All
import Wide.All
import OpenK.AllK
import Wide.FinOn
import Lean
import PyProof.EqAt
import PyProof.EqKinds
import PyProof.TupleCall
import PySem.Challenge.RW_sidelink_k42_moments_that_fit
local macro_rules|`(command|$d:definition)=>`(command|noncomputable $d:definition)
local macro_rules|`(command|$d:abbrev)=>`(command|noncomputable $d:abbrev)
noncomputable section
-- CHANGE: your row's module here,as the last of these rows
set_option Elab.async false
set_option linter.all false
set_option maxRecDepth 100000
namespace L2
open PySem PySem.Spec PyProof.Rows
abbrev Key:=Sum Int Str
def Yy:Key->Value->Bool
 | .inl k,v=>Value.isInt k v
 | .inr x,v=>Value.isStrOf x v
def QcI (w:World):Key->Int
 | .inl k=>hashInt k
 | .inr x=>hashStr w x
theorem QZ:∀ {k:Key} {v:Value},Yy k v=true->(∃ i t,k=Sum.inl i/\v=Value.int i t)∨(∃ x t,k=Sum.inr x/\v=Value.str x t)
  | .inl i,v,h=>by
    obtain ⟨t,e⟩:=Value.isInt_shape (k:=i) (v:=v) h
    exact .inl ⟨i,t,rfl,e⟩
  | .inr x,v,h=>by
    obtain ⟨t,e⟩:=Value.isStrOf_shape (x:=x) (v:=v) h
    exact .inr ⟨x,t,rfl,e⟩
theorem KJ (i:Int) (t:Tok):Yy (.inl i) (.int i t)=true:=by simp [Yy,Value.isInt]
theorem KK (x:Str) (t:Tok):Yy (.inr x) (.str x t)=true:=by simp [Yy,Value.isStrOf]
theorem QaI (a b:Int):decide ((Sum.inl a:Key)=Sum.inl b)=(a==b):=by
 by_cases e:a=b
 ·subst e;simp
 ·have h:¬ (Sum.inl a:Key)=Sum.inl b:=fun q=>e (Sum.inl.inj q)
  rw [decide_eq_false h]
  exact (beq_eq_false_iff_ne.mpr e).symm
theorem QaL (a b:Str):decide ((Sum.inr a:Key)=Sum.inr b)=decide (a=b):=by
 by_cases e:a=b
 ·subst e;simp
 ·have h:¬ (Sum.inr a:Key)=Sum.inr b:=fun q=>e (Sum.inr.inj q)
  rw [decide_eq_false h,decide_eq_false e]
theorem QaJ (a:Int) (b:Str):decide ((Sum.inl a:Key)=Sum.inr b)=false:=decide_eq_false (fun q=>nomatch q)
theorem QaK (a:Str) (b:Int):decide ((Sum.inr a:Key)=Sum.inl b)=false:=decide_eq_false (fun q=>nomatch q)
def QT (prog:Program) (w:World):PySem.KeyKind prog w Key where
 is:=Yy
 hash:=QcI w
 inj:=fun v a b ha hb=>by
  rcases QZ ha with ⟨i,t,rfl,rfl⟩ | ⟨x,t,rfl,rfl⟩
  ·rcases QZ hb with ⟨j,u,rfl,e⟩ | ⟨y,u,rfl,e⟩
   ·injection e with e1 _;rw [e1]
   ·exact nomatch e
  ·rcases QZ hb with ⟨j,u,rfl,e⟩ | ⟨y,u,rfl,e⟩
   ·exact nomatch e
   ·injection e with e1 _;rw [e1]
 byValue:=fun k v h=>by
  rcases QZ h with ⟨i,t,rfl,rfl⟩ | ⟨x,t,rfl,rfl⟩<;>rfl
 pyHash:=fun hv h=>by
  rcases QZ hv with ⟨i,t,rfl,rfl⟩ | ⟨x,t,rfl,rfl⟩
  ·exact wpAny_pyHash_int h
  ·exact wpAny_pyHash_str h
 eqBool:=fun hu hv h=>by
  rcases QZ hu with ⟨i,t,rfl,rfl⟩ | ⟨x,t,rfl,rfl⟩
  ·rcases QZ hv with ⟨j,u,rfl,rfl⟩ | ⟨y,u,rfl,rfl⟩
   ·rw [QaI] at h;exact wpAny_eqBool_int h
   ·rw [QaJ] at h;exact SeqAt.EqAt.int_str i t y u _ _ _ _ h
  ·rcases QZ hv with ⟨j,u,rfl,rfl⟩ | ⟨y,u,rfl,rfl⟩
   ·rw [QaK] at h;exact SeqAt.EqAt.str_int x t j u _ _ _ _ h
   ·rw [QaL] at h;exact wpAny_eqBool_str h
 «strs»:=fun k x t v h=>by
  rcases QZ h with ⟨i,u,rfl,e⟩ | ⟨y,u,rfl,e⟩
  ·exact nomatch e
  ·injection e with e1 _
   subst e1
   cases v<;>rfl
theorem yP (prog:Program) (w:World) (i:Int) (t:Tok):(QT prog w).is (.inl i) (.int i t)=true:=KJ i t
theorem yQ (prog:Program) (w:World) (x:Str) (t:Tok):(QT prog w).is (.inr x) (.str x t)=true:=KK x t
end L2
namespace L2
open PySem PySem.Spec PyProof.Rows
inductive V where
 | non | bl (b:Bool) | int (i:Int) | str (x:Str) | byt (b:Array UInt8) | flt (b:UInt64) | ref (a:Addr) | ty (n:String)
 deriving DecidableEq
def RelV:V->Value->Prop
 | .non,u=>u=Value.none
 | .bl b,u=>u=Value.bool b
 | .int i,u=>∃ t,u=Value.int i t
 | .str x,u=>∃ t,u=Value.str x t
 | .byt b,u=>∃ t,u=Value.bytes b t
 | .flt b,u=>∃ t,u=Value.float b t
 | .ref a,u=>u=Value.ref a
 | .ty n,u=>u=Value.type n
abbrev Vals:List V->List Value->Prop:=Paired RelV
theorem Vals.length {xs:List V} {us:List Value} (r:Vals xs us):xs.length=us.length:=Paired.length r
theorem Vals.get:∀ {xs:List V} {us:List Value} {i:Nat} {x:V},Vals xs us->xs[i]?=some x->∃ u,us[i]?=some u/\RelV x u
  | _,_,_,_,.nil,e=>by simp at e
  | _,_,0,_,.cons r _,e=>by simp at e;subst e;exact ⟨_,rfl,r⟩
  | _,_,i+1,x,.cons _ t,e=>by
    obtain ⟨u,h1,h2⟩:=Vals.get (i:=i) (x:=x) t (by simpa using e)
    exact ⟨u,by simpa using h1,h2⟩
theorem Vals.set {x:V} {u:Value} (r:RelV x u):∀ {xs:List V} {us:List Value} (i:Nat),Vals xs us->Vals (xs.set i x) (us.set i u)
 | _,_,_,.nil=>.nil
 | _,_,0,.cons _ t=>.cons r t
 | _,_,i+1,.cons q t=>.cons q (Vals.set r i t)
theorem Vals.append:∀ {xs ys:List V} {us ws:List Value},Vals xs us->Vals ys ws->Vals (xs++ys) (us++ws)
 | _,_,_,_,.nil,s=>s
 | _,_,_,_,.cons r t,s=>.cons r (Vals.append t s)
theorem Vals.take:∀ {xs:List V} {us:List Value} (n:Nat),Vals xs us->Vals (xs.take n) (us.take n)
 | _,_,0,_=>.nil
 | _,_,_+1,.nil=>.nil
 | _,_,n+1,.cons r t=>.cons r (Vals.take n t)
theorem Vals.drop:∀ {xs:List V} {us:List Value} (n:Nat),Vals xs us->Vals (xs.drop n) (us.drop n)
 | _,_,0,r=>r
 | _,_,_+1,.nil=>.nil
 | _,_,n+1,.cons _ t=>Vals.drop n t
def RelO:Option V->Option Value->Prop
 | some v,some u=>RelV v u
 | none,none=>True
 | _,_=>False
def KV {κ:Type}:List (κ×V)->List (κ×Value)->Prop:=Paired fun (p:κ×V) (q:κ×Value)=>p.1=q.1/\RelV p.2 q.2
def kV:Key->V
 | .inl i=>.int i
 | .inr x=>.str x
inductive HO where
  | lst (xs:List V)
  | tup (xs:List V)
  | dK (kvs:List (Key×V)) | dT (kvs:List (List Key×V))
  | set (S:Int->Bool) (n:Nat)
  | ins (C dx:Addr) (fs:List (Str×V))
  | own (x:Addr)
  | xd (fs:List (Str×V))
  | met (f x:Addr)
  | rng (lo hi:Int)
  | frz (o:Obj) (u:HO)
  | tbl (ps:Array Value)
  | ext (φ:Heap->Prop)
abbrev Hp:=Addr->Option HO
def upd (H:Hp) (a:Addr) (o:HO):Hp:=fun b=>if b=a then some o else H b
theorem QI {H:Hp} {a:Addr} {o:HO}:upd H a o a=some o:=by unfold upd;rw [if_pos rfl]
theorem QH {H:Hp} {a b:Addr} {o:HO} (h:b≠a):upd H a o b=H b:=by unfold upd;rw [if_neg h]
theorem QbY {H:Hp} {a b:Addr} {o u:HO} (h:H a=some o) (h':H b=some u) (d:o≠u):a≠b:=by
 intro e;subst e;rw [h] at h';exact d (Option.some.inj h')
theorem Zg {H:Hp} {a b:Addr} {o:HO} (h:H a=some o) (h':H b=none):a≠b:=by
 intro e;subst e;rw [h] at h';cases h'
section
variable (P:Program) (w:World)
def ObjOk (H:Hp) (h:Heap) (a:Addr):HO->Prop
 | .lst xs=>xs.length<=sizeLine/\∃ (its:List Value) (n:Nat),Vals xs its/\h.get? a=some { cls:=.type "list", data:=.seq its.toArray n }
 | .tup xs=>xs.length<=sizeLine/\∃ its:List Value,Vals xs its/\IsTup h a its.toArray
 | .dK kvs=>kvs.length<=sizeLine/\(a==sysModules)=false/\∃ vs,KV kvs vs/\h.DictOf (QT P w) a vs
 | .dT kvs=>kvs.length<=sizeLine/\(a==sysModules)=false/\∃ xs:List (List Key×Addr×Value),
   Paired (fun (p:List Key×V) (q:List Key×Addr×Value)=>p.1=q.1/\H q.2.1=some (.tup (p.1.map kV))/\RelV p.2 q.2.2) kvs xs /\
   ∃ o es ep,h.get? a=some o/\o.ExactDict/\o.data=.dict es ep/\es.toList=xs.map (entryOfKey (tupleKind (QT P w)))/\(xs.map (·.1)).Nodup
 | .set S n=>h.SetOf (intKind P w) a S n
 | .ins C dx fs=>H dx=some (.own a)/\fs.length<=1000/\dx≠a/\h.get? a=some (PySem.W.instObj C dx) /\
   ∃ mA,h.Ns1 dx mA/\(∀ f,RelO (fs.lookup f) (mA f))/\PySem.Within mA (fs.map (·.1))
 | .own _=>∃ o,h.get? a=some o
 | .xd fs=>∃ mA,h.Ns1 a mA/\∀ f,RelO (fs.lookup f) (mA f)
 | .rng lo hi=>∃ t u v,h.get? a=some { cls:=.type "range", data:=.fields #[.int lo t,.int hi u,.int 1 v] }
 | .frz o u=>h.get? a=some o/\ObjOk H h a u
 | .tbl ps=>h.get? a=some { cls:=.none,data:=.fields ps }
 | .met f x=>h.get? a=some (PySem.W.methodObj (.ref f) (.ref x))
 | .ext φ=>φ h/\(∃ o,h.get? a=some o)/\∀ h1 h2:Heap,φ h1->(∀ o,h1.get? a=some o->h2.get? a=some o)->φ h2
def HOk (H:Hp) (h:Heap):Prop:=∀ a o,H a=some o->ObjOk P w H h a o
end
section
variable {P:Program} {w:World} {H H':Hp} {h h':Heap} {a:Addr} {o:HO}
theorem ObjOk.lt (x:ObjOk P w H h a o):a < h.objs.size:=by
 cases o with
 | lst xs=>obtain ⟨_,_,_,_,e⟩:=x;exact Heap.lt_size e
 | tup xs=>obtain ⟨_,_,_,p⟩:=x;exact p.lt
 | dK kvs=>obtain ⟨_,_,_,_,o,_,_,e,_⟩:=x;exact Heap.lt_size e
 | dT kvs=>obtain ⟨_,_,_,_,o,_,_,e,_⟩:=x;exact Heap.lt_size e
 | set S n=>obtain ⟨o,_,_,_,e,_⟩:=x;exact Heap.lt_size e
 | ins C dx fs=>obtain ⟨_,_,_,e,_⟩:=x;exact Heap.lt_size e
 | own y=>obtain ⟨_,e⟩:=x;exact Heap.lt_size e
 | xd fs=>obtain ⟨_,⟨_,_,_,e,_⟩,_⟩:=x;exact Heap.lt_size e
 | rng lo hi=>obtain ⟨_,_,_,e⟩:=x;exact Heap.lt_size e
 | frz ob u=>obtain ⟨e,_⟩:=x;exact Heap.lt_size e
 | tbl ps=>exact Heap.lt_size (show h.get? a=some _ from x)
 | met f y=>exact Heap.lt_size (show h.get? a=some _ from x)
 | ext φ=>obtain ⟨_,⟨_,e⟩,_⟩:=x;exact Heap.lt_size e
theorem Paired.mapP {α β:Type} {F G:α->β->Prop}:∀ {l₁:List α} {l₂:List β},Paired F l₁ l₂->(∀ a b,F a b->G a b)->Paired G l₁ l₂
 | _,_,.nil,_=>.nil
 | _,_,.cons r t,f=>.cons (f _ _ r) (Paired.mapP t f)
theorem ObjOk.stay (x:ObjOk P w H h a o) (k:∀ b u,(b=a∨H b=some (.own a))->h.get? b=some u->h'.get? b=some u)
    (ho:∀ b,H b=some (.own a)->H' b=some (.own a)) (ht:∀ b xs,H b=some (.tup xs)->H' b=some (.tup xs)):ObjOk P w H' h' a o:=by
  induction o with
  | lst xs=>obtain ⟨z,its,n,r,e⟩:=x;exact ⟨z,its,n,r,k _ _ (.inl rfl) e⟩
  | tup xs=>obtain ⟨z,its,r,ob,e,c⟩:=x;exact ⟨z,its,r,ob,k _ _ (.inl rfl) e,c⟩
  | dK kvs=>obtain ⟨z,y,vs,r,ob,es,ep,e,c⟩:=x;exact ⟨z,y,vs,r,ob,es,ep,k _ _ (.inl rfl) e,c⟩
  | dT kvs =>
    obtain ⟨z,y,xs,r,ob,es,ep,e,c⟩:=x
    exact ⟨z,y,xs,Paired.mapP r fun p q z=>⟨z.1,ht _ _ z.2.1,z.2.2⟩,ob,es,ep,k _ _ (.inl rfl) e,c⟩
  | set S n=>obtain ⟨ob,es,ep,t,e,c⟩:=x;exact ⟨ob,es,ep,t,k _ _ (.inl rfl) e,c⟩
  | ins C dx fs =>
    obtain ⟨d,z,ne,e,mA,⟨od,es,ep,e2,c⟩,r⟩:=x
    exact ⟨ho _ d,z,ne,k _ _ (.inl rfl) e,mA,⟨od,es,ep,k _ _ (.inr d) e2,c⟩,r⟩
  | own y=>obtain ⟨ob,e⟩:=x;exact ⟨ob,k _ _ (.inl rfl) e⟩
  | xd fs=>obtain ⟨mA,⟨od,es,ep,e,c⟩,r⟩:=x;exact ⟨mA,⟨od,es,ep,k _ _ (.inl rfl) e,c⟩,r⟩
  | rng lo hi=>obtain ⟨t,u,v,e⟩:=x;exact ⟨t,u,v,k _ _ (.inl rfl) e⟩
  | frz ob u ih=>obtain ⟨e,q⟩:=x;exact ⟨k _ _ (.inl rfl) e,ih q⟩
  | tbl ps =>
    have e:h.get? a=some { cls:=.none,data:=.fields ps }:=x
    show h'.get? a=some { cls:=.none,data:=.fields ps }
    exact k a _ (.inl rfl) e
  | met f y =>
    have e:h.get? a=some (PySem.W.methodObj (.ref f) (.ref y)):=x
    show h'.get? a=some (PySem.W.methodObj (.ref f) (.ref y))
    exact k a _ (.inl rfl) e
  | ext φ=>obtain ⟨p,⟨o,e⟩,st⟩:=x;exact ⟨st _ _ p fun o q=>k _ _ (.inl rfl) q,⟨o,k _ _ (.inl rfl) e⟩,st⟩
theorem HOk.lt (x:HOk P w H h) (e:H a=some o):a < h.objs.size:=(x a o e).lt
theorem HOk.fresh (x:HOk P w H h) (e:h.objs.size<=a):H a=none:=by
 cases q:H a with
 | none=>rfl
 | some u=>exact absurd (Nat.lt_of_lt_of_le (x.lt q) e) (Nat.lt_irrefl _)
theorem HOk.kept (x:HOk P w H h) (k:∀ b u,h.get? b=some u->h'.get? b=some u):HOk P w H h':=fun a o e =>
 (x a o e).stay (fun b u _ q=>k b u q) (fun _ q=>q) fun _ _ q=>q
theorem HOk.laid (x:HOk P w H h) (k:∀ b u,h.get? b=some u->h'.get? b=some u) (hp:h.objs.size<=a) (new:ObjOk P w (upd H a o) h' a o):HOk P w (upd H a o) h':=fun b u e=>by
 have hn:=x.fresh hp
 by_cases hb:b=a
 ·subst hb;rw [QI] at e;cases e;exact new
 ·rw [QH hb] at e
  exact (x b u e).stay (fun c v _ q=>k c v q) (fun c q=>by rw [QH (Zg q hn)];exact q) fun c xs q=>by rw [QH (Zg q hn)];exact q
end
def Rd (H:Hp) (a:Addr) (u:HO):Prop:=H a=some u∨∃ o,H a=some (.frz o u)
theorem Rd.ok {P:Program} {w:World} {H:Hp} {h:Heap} {a:Addr} {u:HO} (r:Rd H a u) (x:HOk P w H h):ObjOk P w H h a u:=by
 rcases r with r | ⟨o,r⟩
 ·exact x a u r
 ·obtain ⟨_,q⟩:=x a _ r
  exact q
def Mut:Option HO->Prop
 | some (.lst _)=>True
 | some (.dK _)=>True
 | some (.dT _)=>True
 | some (.set _ _)=>True
 | some (.ins _ _ _)=>True
 | some (.ext _)=>True
 | _=>False
section
variable {P:Program} {w:World} {H:Hp} {h h':Heap} {x e:Addr} {o':HO}
theorem HOk.write (ok:HOk P w H h) (mu:Mut (H x)) (he:e=x∨H e=some (.own x)) (k:∀ b u,b≠e->h.get? b=some u->h'.get? b=some u) (heo:∃ u,h'.get? e=some u)
  (new:ObjOk P w (upd H x o') h' x o'):HOk P w (upd H x o') h':=fun b u q=>by
 have nown:∀ c y,H c=some (.own y)->c≠x:=fun c y r z=>by subst z;rw [r] at mu;exact mu
 have ntup:∀ c xs,H c=some (.tup xs)->c≠x:=fun c xs r z=>by subst z;rw [r] at mu;exact mu
 by_cases hb:b=x
 ·subst hb;rw [QI] at q;cases q;exact new
 ·rw [QH hb] at q
  by_cases hbe:b=e
  ·have q':H b=some (.own x):=by
    rcases he with z | z
    ·exact absurd (hbe.trans z) hb
    ·rw [hbe];exact z
   rw [q] at q';cases q'
   obtain ⟨v,hv⟩:=heo
   exact ⟨v,by rw [hbe];exact hv⟩
  ·refine (ok b u q).stay (fun c v hc r=>k c v ?_ r) (fun c r=>by rw [QH (nown c b r)];exact r) fun c xs r=>by rw [QH (ntup c xs r)];exact r
   rcases hc with rfl | hc
   ·exact hbe
   ·rintro rfl
    rcases he with z | z
    ·exact nown c b hc z
    ·rw [hc] at z;cases z;exact hb rfl
end
structure Un (fs ex:List Addr) (H H':Hp) (h h':Heap):Prop where
 keep:∀ b o,h.get? b=some o->H b=none->b∉fs->b∉ex->h'.get? b=some o
 slot:∀ b o,h.get? b=some o->H b=none->b∈fs->b∉ex->∃ sl,h'.get? b=some { o with slots:=sl }
 free:∀ b o,h.get? b=some o->H b=none->b∉ex->H' b=none
 there:∀ b o,h.get? b=some o->b∉ex->∃ o',h'.get? b=some o'
 tups:∀ b xs,H b=some (.tup xs)->H' b=some (.tup xs)
 frzs:∀ b o u,H b=some (.frz o u)->H' b=some (.frz o u)
 tbls:∀ b ps,H b=some (.tbl ps)->∃ more,H' b=some (.tbl (ps++more))
section
variable {fs fs' ex ex':List Addr} {H H1 H2:Hp} {h h1 h2 h':Heap} {a x e:Addr} {o:HO}
theorem Un.any (u:Un fs ex H H1 h h1) {b:Addr} {ob:Obj} (q:h.get? b=some ob) (n:H b=none) (hx:b∉ex):∃ sl,h1.get? b=some { ob with slots:=sl }:=by
 by_cases hb:b∈fs
 ·exact u.slot b ob q n hb hx
 ·exact ⟨ob.slots,u.keep b ob q n hb hx⟩
theorem Un.kept (k:∀ b u,h.get? b=some u->h'.get? b=some u):Un fs ex H H h h' :=
 ⟨fun b ob q _ _ _=>k b ob q,fun b ob q _ _ _=>⟨ob.slots,k b ob q⟩,fun _ _ _ n _=>n,fun b ob q _=>⟨ob,k b ob q⟩,fun _ _ q=>q,fun _ _ _ q=>q,fun _ ps q=>⟨#[],by rw [q];simp⟩⟩
theorem Un.refl:Un fs ex H H h h:=Un.kept fun _ _ q=>q
theorem Un.laid (k:∀ b u,h.get? b=some u->h'.get? b=some u) (hp:h.objs.size<=a) (hn:H a=none):Un fs ex H (upd H a o) h h' where
 keep:=fun b u q _ _ _=>k b u q
 slot:=fun b u q _ _ _=>⟨u.slots,k b u q⟩
 free:=fun b u q n _=>by rw [QH (Nat.ne_of_lt (Nat.lt_of_lt_of_le (Heap.lt_size q) hp))];exact n
 there:=fun b u q _=>⟨u,k b u q⟩
 tups:=fun b xs q=>by rw [QH (Zg q hn)];exact q
 frzs:=fun b u xs q=>by rw [QH (Zg q hn)];exact q
 tbls:=fun b ps q=>⟨#[],by rw [QH (Zg q hn),q];simp⟩
theorem Un.write (mu:Mut (H x)) (he:e=x∨H e=some (.own x)) (k:∀ b u,b≠e->h.get? b=some u->h'.get? b=some u) (heo:∃ u,h'.get? e=some u):Un fs ex H (upd H x o) h h':=by
 have hx:∀ b,H b=none->b≠x:=fun b n z=>by subst z;rw [n] at mu;exact mu
 have hb:∀ b,H b=none->b≠e:=fun b n z=>by
  subst z
  rcases he with r | r
  ·exact hx b n r
  ·rw [n] at r;cases r
 have hm:∀ b u,H b=some u->¬ Mut (some u)->b≠x:=fun b u q nm z=>by subst z;rw [q] at mu;exact nm mu
 refine ⟨fun b u q n _ _=>k b u (hb b n) q,fun b u q n _ _=>⟨u.slots,k b u (hb b n) q⟩,fun b u q n _=>by rw [QH (hx b n)];exact n,fun b u q _=>?_,
  fun b xs q=>by rw [QH (hm b _ q fun z=>z)];exact q,fun b u xs q=>by rw [QH (hm b _ q fun z=>z)];exact q,fun b ps q=>⟨#[],by rw [QH (hm b _ q fun z=>z),q];simp⟩⟩
 by_cases hbe:b=e
 ·subst hbe;exact heo
 ·exact ⟨u,k b u hbe q⟩
end
def trk (h:Heap) (H:Hp):List Addr:=(List.range h.objs.size).filter fun a=>(H a).isSome
def xE (h:Heap) (H:Hp):Heap:=PySem.W.hideAll h (trk h H)
theorem KE (h:Heap) (H:Hp):(xE h H).objs.size=h.objs.size:=PySem.W.hideAll_size _ _
theorem G8 {h:Heap} {H:Hp} {b:Addr} {o:Obj} (e:h.get? b=some o) (n:H b=none):(xE h H).get? b=some o :=
 PySem.W.hideAll_get _ e fun hm=>by
  have q:(H b).isSome=true:=(List.mem_filter.mp hm).2
  rw [n] at q;simp at q
theorem gD {h:Heap} {H:Hp} {b:Addr} {o:Obj} (e:(xE h H).get? b=some o):h.get? b=some o/\H b=none:=by
  have e':h.get? b=some o:=PySem.W.of_hideAll (trk h H) e
  refine ⟨e',?_⟩
  cases q:H b with
  | none=>rfl
  | some x =>
    have hm:b∈trk h H:=List.mem_filter.mpr ⟨List.mem_range.mpr (Heap.lt_size e'),by simp [q]⟩
    have z:(xE h H).get? b=none:=PySem.W.hideAll_none (trk h H) hm
    rw [z] at e;cases e
def jY (g h:Heap) (L:Addr):List (Addr×Obj):=(List.range h.objs.size).filterMap fun a=>if a=L∨(g.get? a).isSome=true then none else (h.get? a).map fun o=>(a,o)
theorem zy {g h:Heap} {L:Addr} {p:Addr×Obj} (hp:p∈jY g h L):p.1≠L/\g.get? p.1=none/\h.get? p.1=some p.2:=by
  obtain ⟨b,_,e⟩:=List.mem_filterMap.mp hp
  split at e
  . cases e
  . rename_i hn
    cases q:h.get? b with
    | none=>rw [q] at e;simp at e
    | some u =>
      rw [q] at e
      simp only [Option.map_some,Option.some.injEq] at e
      subst e
      refine ⟨fun z=>hn (.inl z),?_,q⟩
      show g.get? b=none
      cases r:g.get? b with
      | none=>rfl
      | some v=>exact (hn (.inr (by simp [r]))).elim
def rest (g h:Heap) (L d:Addr):List (Addr×Obj):=(jY g h L).filter fun p=>decide (p.1≠d)
theorem vA {g h:Heap} {L:Addr}:News g L h (jY g h L):=fun p hp=>let ⟨a,b,c⟩:=zy hp;⟨c,a,b⟩
end L2
namespace L2
open PySem PySem.Spec PyProof.Rows
structure Mod (K:PySem.W.Frag) (mg:Str->Option Value) (base:Heap):Prop where
 kin:K.In base
 glob:base.Ns mainGlobals mg
 blt:∃ mb,base.Ns builtinsNs mb/\∀ x:Str,x ≠ "__name__" -> mb x=bootBuiltins x
 nolimit:base.NoLimit
structure Cx where
 prog:Program
 w:World
 K:PySem.W.Frag
 mg:Str->Option Value
 base:Heap
 A:Around
 N:List Str
 s₀:Shared
 H₀:Hp
 env:Env
 outer:List Env
 stack:List Env
 ex:List Addr
 fn:Str->Bool
 calm:Bool
 pn:List (Addr×Obj)
 xe:Value->Shared->Prop
def frs (l:List Env):List Addr:=l.filterMap (·.frame)
abbrev Cx.fs (X:Cx):List Addr:=frs X.outer
def Vis (sc:Scope) (x:Str):Prop:=sc.names.lookup x=some .local∨sc.names.lookup x=some .cell∨sc.names.lookup x=some .free
def Loc (sc:Scope) (x:Str):Prop:=sc.names.lookup x=some .local∨sc.names.lookup x=some .cell
def QcC (env:Env) (h:Heap) (m:Str->Option Value) (x:Str) (u:Value):Prop :=
 (env.kindOf x=some .local/\m x=some u)∨((env.kindOf x=some .cell∨env.kindOf x=some .free)/\∃ c,env.cells.lookup x=some c/\h.IsCell c (some u))
structure Cx.Ok (X:Cx):Prop where
 mod:Mod X.K X.mg X.base
 kind:X.env.scope.kind=.function
 glob:X.env.globals=mainGlobals
 blt:X.env.builtins=builtinsNs
 above:X.s₀.heap.objs.size<=X.env.locals
 inj:∀ x y c,X.env.cells.lookup x=some c->X.env.cells.lookup y=some c->x=y
 has:∀ x,(X.env.kindOf x=some .cell∨X.env.kindOf x=some .free)->∃ c,X.env.cells.lookup x=some c
 cab:∀ x c,X.fn x=true->X.env.cells.lookup x=some c->X.s₀.heap.objs.size<=c
 hd:X.calm=true->X.A.handled=none
 frames:X.A.frames=some X.stack
 stk:X.stack=X.outer∨(X.stack=X.env::X.outer/\X.env.frame=some X.env.locals)
 exf:∀ b∈X.ex,b≠X.env.locals/\∀ x c,X.env.cells.lookup x=some c->c≠b
 bs:∀ b o,X.base.get? b=some o->X.s₀.heap.get? b=some o/\X.H₀ b=none
 bsz:X.base.objs.size<=X.s₀.heap.objs.size
 noex:∀ b o,X.base.get? b=some o->b∉X.ex
 exfs:∀ b∈X.ex,b∉X.fs
 funs:X.s₀.heap.FunFrames X.base X.outer
 frf:∀ b∈X.fs,X.H₀ b=none
structure Inv (X:Cx) (pins:List (Addr×Obj)) (σ:List (Option V)) (H:Hp) (s:Shared):Prop where
 ok:X.Ok
 os:s.os=X.s₀.os
 bare:AllBare s.gens
 base:Un X.fs X.ex X.H₀ H X.s₀.heap s.heap
 loc:∃ m,s.heap.Ns X.env.locals m/\∀ (i:Nat) (x:Str) (v:V),X.N[i]?=some x->σ[i]?=some (some v)->Vis X.env.scope x->∃ u,RelV v u/\QcC X.env s.heap m x u
 cell:∀ x c,X.env.cells.lookup x=some c->∃ v,s.heap.IsCell c v
 free:H X.env.locals=none
 freeC:∀ x c,X.env.cells.lookup x=some c->H c=none
 pin:∀ p∈X.pn++pins,s.heap.get? p.1=some p.2/\H p.1=none/\p.1≠X.env.locals/\p.1∉X.fs/\∀ v,p.2.data≠.cell v
 hok:HOk X.prog X.w H s.heap
 len:σ.length=X.N.length
section
variable {X:Cx} {pins:List (Addr×Obj)} {σ:List (Option V)} {H H':Hp} {s:Shared} {h':Heap}
theorem Cx.Ok.nofr (ok:X.Ok) {b:Addr} {o:Obj} (e:X.base.get? b=some o):b∉X.fs:=fun hb=>by
 have:=(ok.funs.mem hb).1
 rw [e] at this;cases this
theorem Inv.bs (I:Inv X pins σ H s):∀ b o,X.base.get? b=some o->s.heap.get? b=some o/\H b=none:=fun b o e =>
 ⟨I.base.keep b o (I.ok.bs b o e).1 (I.ok.bs b o e).2 (I.ok.nofr e) (I.ok.noex b o e),I.base.free b o (I.ok.bs b o e).1 (I.ok.bs b o e).2 (I.ok.noex b o e)⟩
theorem Inv.bk (I:Inv X pins σ H s):∀ b o,X.base.get? b=some o->s.heap.get? b=some o:=fun b o e=>(I.bs b o e).1
theorem Inv.mod (I:Inv X pins σ H s):Mod X.K X.mg X.base:=I.ok.mod
theorem Inv.kIn (I:Inv X pins σ H s):X.K.In s.heap:=I.ok.mod.kin.keeps I.bk
theorem Inv.fr (I:Inv X pins σ H s):∃ m,Fr X.base X.env.locals s.heap m :=
 let ⟨m,hn,_⟩:=I.loc
 ⟨m,hn,I.bk,Nat.le_trans I.ok.bsz I.ok.above⟩
theorem Inv.lt (I:Inv X pins σ H s):X.env.locals < s.heap.objs.size:=let ⟨_,hn,_⟩:=I.loc;hn.lt
theorem Inv.sz (I:Inv X pins σ H s):X.s₀.heap.objs.size<=s.heap.objs.size:=Nat.le_trans I.ok.above (Nat.le_of_lt I.lt)
theorem Inv.nofs (I:Inv X pins σ H s) {a:Addr} (h:s.heap.objs.size<=a):a∉X.fs:=fun hb=>by
 obtain ⟨_,o,ho,_⟩:=I.ok.funs.mem hb
 exact absurd (Nat.lt_of_lt_of_le (Heap.lt_size ho) (Nat.le_trans I.sz h)) (Nat.lt_irrefl _)
theorem Inv.cne (I:Inv X pins σ H s):∀ x c,X.env.cells.lookup x=some c->c≠X.env.locals:=fun x c e z=>by
 obtain ⟨v,o,ho,hd⟩:=I.cell x c e
 obtain ⟨m,⟨o',es,ep,ho',hd',_⟩,_⟩:=I.loc
 rw [z,ho'] at ho;cases ho;rw [hd'] at hd;cases hd
theorem Inv.funs (I:Inv X pins σ H s):s.heap.FunFrames X.base X.outer:=by
  have all:∀ (l:List Env),(∀ b∈frs l,b∈X.fs)->X.s₀.heap.FunFrames X.base l->s.heap.FunFrames X.base l:=by
    intro l
    induction l with
    | nil=>intro _ _;trivial
    | cons env r ih =>
      intro hs hl
      obtain ⟨hk,⟨L,o,hf,hn,ho,hd⟩,hr⟩:=hl
      have hL:L∈X.fs:=hs L (by unfold frs;rw [List.filterMap_cons,hf];exact List.mem_cons_self)
      obtain ⟨sl,e⟩:=I.base.slot L o ho (I.ok.frf L hL) hL fun z=>I.ok.exfs L z hL
      exact ⟨hk,⟨L,_,hf,hn,e,hd⟩,ih (fun b hb=>hs b (by unfold frs;rw [List.filterMap_cons,hf];exact List.mem_cons_of_mem _ hb)) hr⟩
  exact all X.outer (fun _ hb=>hb) I.ok.funs
theorem Inv.stack (I:Inv X pins σ H s):s.heap.FunFrames X.base X.stack:=by
 rcases I.ok.stk with e | ⟨e,hf⟩
 ·rw [e];exact I.funs
 ·rw [e]
  obtain ⟨m,hn,_⟩:=I.loc
  refine .cons (by rw [I.ok.kind];decide) hf hn ?_ I.funs
  exact Heap.get?_none_of_le (Nat.le_trans I.ok.bsz I.ok.above)
theorem Inv.stkSub (I:Inv X pins σ H s):∀ b∈frs X.stack,b∈X.env.locals::X.fs:=fun b hb=>by
 rcases I.ok.stk with e | ⟨e,hf⟩
 ·rw [e] at hb;exact List.mem_cons_of_mem _ hb
 ·rw [e] at hb
  unfold frs at hb
  rw [List.filterMap_cons,hf] at hb
  exact hb
theorem Inv.stkFree (I:Inv X pins σ H s):∀ b∈frs X.stack,H b=none:=fun b hb=>by
 rcases List.mem_cons.mp (I.stkSub b hb) with e | hb
 ·rw [e];exact I.free
 ·obtain ⟨_,o,ho,_⟩:=I.ok.funs.mem hb
  exact I.base.free b o ho (I.ok.frf b hb) fun z=>I.ok.exfs b z hb
theorem Inv.step {g':Array GenState} {t':Nat} {d':Drawn} {ch:List Addr} (I:Inv X pins σ H s)
  (hch:∀ b∈ch,(b∈X.ex∨X.s₀.heap.objs.size<=b)/\b≠X.env.locals/\(∀ x c,X.env.cells.lookup x=some c->c≠b)/\∀ p∈X.pn++pins,p.1≠b)
  (keep:∀ b o,b≠X.env.locals->b∉X.fs->b∉ch->s.heap.get? b=some o->H b=none->h'.get? b=some o)
  (slot:∀ b o,b≠X.env.locals->b∈X.fs->b∉ch->s.heap.get? b=some o->H b=none->∃ sl,h'.get? b=some { o with slots:=sl }) (free:∀ b o,b∉ch->s.heap.get? b=some o->H b=none->H' b=none)
  (there:∀ b o,b∉ch->s.heap.get? b=some o->∃ o',h'.get? b=some o')
  (tups:∀ b xs,H b=some (.tup xs)->H' b=some (.tup xs)) (frzs:∀ b o u,H b=some (.frz o u)->H' b=some (.frz o u)) (tbls:∀ b ps,H b=some (.tbl ps)->∃ more,H' b=some (.tbl (ps++more)))
  (ns:∀ m,s.heap.Ns X.env.locals m->h'.Ns X.env.locals m) (hok:HOk X.prog X.w H' h') (hg:AllBare g') :
  Inv X pins σ H' { s with heap:=h',gens:=g',drawn:=d',toks:=t' }:=by
 have neL:∀ b o,X.s₀.heap.get? b=some o->b≠X.env.locals:=fun b o e=>Nat.ne_of_lt (Nat.lt_of_lt_of_le (Heap.lt_size e) I.ok.above)
 have neC:∀ b o,X.s₀.heap.get? b=some o->b∉X.ex->b∉ch:=fun b o e hx hb=>by
  rcases (hch b hb).1 with z | z
  ·exact hx z
  ·exact absurd (Nat.lt_of_lt_of_le (Heap.lt_size e) z) (Nat.lt_irrefl _)
 have cellK:∀ x c,X.env.cells.lookup x=some c->∀ v,s.heap.IsCell c v->h'.IsCell c v:=fun x c e v ⟨o,ho,hd⟩=>by
  have nch:c∉ch:=fun z=>(hch c z).2.2.1 x c e rfl
  by_cases hc:c∈X.fs
  ·obtain ⟨sl,q⟩:=slot c o (I.cne x c e) hc nch ho (I.freeC x c e)
   exact ⟨_,q,hd⟩
  ·exact ⟨o,keep c o (I.cne x c e) hc nch ho (I.freeC x c e),hd⟩
 refine ⟨I.ok,I.os,hg,⟨fun b o e n hb hx=>?_,fun b o e n hb hx=>?_,fun b o e n hx=>?_,fun b o e hx=>?_,fun b xs e=>tups b xs (I.base.tups b xs e),fun b o xs e=>frzs b o xs (I.base.frzs b o xs e),fun b ps e=>?_⟩,?_,fun x c e=>?_,?_,fun x c e=>?_,fun p hp=>?_,hok,I.len⟩
 ·exact keep b o (neL b o e) hb (neC b o e hx) (I.base.keep b o e n hb hx) (I.base.free b o e n hx)
 ·obtain ⟨sl,e1⟩:=I.base.slot b o e n hb hx
  obtain ⟨sl',e2⟩:=slot b _ (neL b o e) hb (neC b o e hx) e1 (I.base.free b o e n hx)
  exact ⟨sl',e2⟩
 ·obtain ⟨o',e1⟩:=I.base.there b o e hx
  exact free b o' (neC b o e hx) e1 (I.base.free b o e n hx)
 ·obtain ⟨o',e1⟩:=I.base.there b o e hx
  exact there b o' (neC b o e hx) e1
 ·obtain ⟨m1,e1⟩:=I.base.tbls b ps e
  obtain ⟨m2,e2⟩:=tbls b _ e1
  exact ⟨m1++m2,by rw [e2,Array.append_assoc]⟩
 ·obtain ⟨m,hn,hl⟩:=I.loc
  refine ⟨m,ns m hn,fun i x v e1 e2 e3=>?_⟩
  obtain ⟨u,r,l⟩:=hl i x v e1 e2 e3
  refine ⟨u,r,?_⟩
  rcases l with l | ⟨k,c,e,z⟩
  ·exact .inl l
  ·exact .inr ⟨k,c,e,cellK x c e _ z⟩
 ·obtain ⟨v,z⟩:=I.cell x c e
  exact ⟨v,cellK x c e v z⟩
 ·obtain ⟨m,⟨o,_,_,ho,_⟩,_⟩:=I.loc
  exact free _ o (fun z=>(hch _ z).2.1 rfl) ho I.free
 ·obtain ⟨v,o,ho,hd⟩:=I.cell x c e
  exact free c o (fun z=>(hch c z).2.2.1 x c e rfl) ho (I.freeC x c e)
 ·obtain ⟨e,n,ne,nf,d⟩:=I.pin p hp
  have nch:p.1∉ch:=fun z=>(hch p.1 z).2.2.2 p hp rfl
  exact ⟨keep p.1 p.2 ne nf nch e n,free p.1 p.2 nch e n,ne,nf,d⟩
theorem Inv.un {t':Nat} (I:Inv X pins σ H s) (u:Un X.fs [] H H' s.heap h') (hok:HOk X.prog X.w H' h'):Inv X pins σ H' { s with heap:=h',toks:=t' }:=by
 obtain ⟨m,⟨o,es,ep,ho,r⟩,_⟩:=id I.loc
 obtain ⟨sl,hL⟩:=u.any ho I.free (by simp)
 exact I.step (g':=s.gens) (d':=s.drawn) (ch:=[]) (fun _ z=>nomatch z) (fun b o _ hb _ e n=>u.keep b o e n hb (by simp)) (fun b o _ hb _ e n=>u.slot b o e n hb (by simp)) (fun b o _ e n=>u.free b o e n (by simp)) (fun b o _ e=>u.there b o e (by simp)) u.tups u.frzs u.tbls (fun m' hm=>by
  obtain ⟨o',es',ep',ho',r'⟩:=hm
  rw [ho] at ho';cases ho'
  exact ⟨_,es',ep',hL,r'⟩) hok I.bare
theorem Inv.call {g':Array GenState} {t':Nat} {d':Drawn} {ch:List Addr} (I:Inv X pins σ H s) (u:Un (frs X.stack) ch H H' s.heap h') (hok:HOk X.prog X.w H' h') (hg:AllBare g')
  (hch:∀ b∈ch,(b∈X.ex∨X.s₀.heap.objs.size<=b)/\b≠X.env.locals/\(∀ x c,X.env.cells.lookup x=some c->c≠b)/\∀ p∈X.pn++pins,p.1≠b) :
  Inv X pins σ H' { s with heap:=h',gens:=g',drawn:=d',toks:=t' }:=by
 obtain ⟨m,⟨o,es,ep,ho,r⟩,_⟩:=id I.loc
 obtain ⟨sl,hL⟩:=u.any ho I.free fun z=>(hch _ z).2.1 rfl
 exact I.step (ch:=ch) hch (fun b o hL hb hc e n=>u.keep b o e n (fun z=>(List.mem_cons.mp (I.stkSub b z)).elim hL hb) hc) (fun b o _ _ hc e n=>u.any e n hc) (fun b o hc e n=>u.free b o e n hc) (fun b o hc e=>u.there b o e hc) u.tups u.frzs u.tbls (fun m' hm=>by
  obtain ⟨o',es',ep',ho',r'⟩:=hm
  rw [ho] at ho';cases ho'
  exact ⟨_,es',ep',hL,r'⟩) hok hg
theorem Inv.turned {t':Nat} {it:Addr} (I:Inv X pins σ H s) (k:∀ b o,b≠it->s.heap.get? b=some o->h'.get? b=some o) (hn:H it=none) (hL:it≠X.env.locals)
  (h1:it∈X.ex∨X.s₀.heap.objs.size<=it) (h2:∀ x c,X.env.cells.lookup x=some c->c≠it) (h3:∀ p∈X.pn++pins,p.1≠it):Inv X pins σ H { s with heap:=h',toks:=t' }:=by
 have nit:∀ b u,H b=some u->b≠it:=fun b u e z=>by rw [z,hn] at e;cases e
 refine I.step (g':=s.gens) (d':=s.drawn) (ch:=[it]) (fun b hb=>?_) (fun b o _ _ hc e _=>k b o (fun z=>hc (by simp [z])) e) (fun b o _ _ hc e _=>⟨o.slots,k b o (fun z=>hc (by simp [z])) e⟩) (fun _ _ _ _ n=>n)
  (fun b o hc e=>⟨o,k b o (fun z=>hc (by simp [z])) e⟩) (fun _ _ e=>e) (fun _ _ _ e=>e) (fun b ps e=>⟨#[],by rw [e];simp⟩) (fun m hm=>?_) (fun b u e=>?_) I.bare
 ·have e:b=it:=by simpa using hb
  subst e
  exact ⟨h1,hL,h2,h3⟩
 ·obtain ⟨o,es,ep,ho,r⟩:=hm
  exact ⟨o,es,ep,k _ o (Ne.symm hL) ho,r⟩
 ·refine (I.hok b u e).stay (fun c v hc q=>k c v ?_ q) (fun _ q=>q) fun _ _ q=>q
  rcases hc with z | z
  ·rw [z];exact nit b u e
  ·exact nit c _ z
theorem Inv.tok (I:Inv X pins σ H s) (t:Nat):Inv X pins σ H { s with toks:=t }:=I.un (h':=s.heap) (t':=t) Un.refl I.hok
theorem Inv.kept {t':Nat} (I:Inv X pins σ H s) (k:∀ b u,s.heap.get? b=some u->h'.get? b=some u):Inv X pins σ H { s with heap:=h',toks:=t' }:=I.un (Un.kept k) (I.hok.kept k)
theorem Inv.laid {a:Addr} {o:HO} {t':Nat} (I:Inv X pins σ H s) (k:∀ b u,s.heap.get? b=some u->h'.get? b=some u) (hp:s.heap.objs.size<=a) (new:ObjOk X.prog X.w (upd H a o) h' a o) :
  Inv X pins σ (upd H a o) { s with heap:=h',toks:=t' }:=I.un (Un.laid k hp (I.hok.fresh hp)) (I.hok.laid k hp new)
theorem Inv.write {x e:Addr} {o:HO} {t':Nat} (I:Inv X pins σ H s) (mu:Mut (H x)) (he:e=x∨H e=some (.own x)) (k:∀ b u,b≠e->s.heap.get? b=some u->h'.get? b=some u) (heo:∃ u,h'.get? e=some u)
  (new:ObjOk X.prog X.w (upd H x o) h' x o):Inv X pins σ (upd H x o) { s with heap:=h',toks:=t' }:=I.un (Un.write mu he k heo) (I.hok.write mu he k heo new)
theorem Inv.pins_of {pins':List (Addr×Obj)} (I:Inv X pins σ H s) (h:∀ p∈pins',s.heap.get? p.1=some p.2/\H p.1=none/\p.1≠X.env.locals/\p.1∉X.fs/\∀ v,p.2.data≠.cell v):Inv X pins' σ H s :=
 ⟨I.ok,I.os,I.bare,I.base,I.loc,I.cell,I.free,I.freeC,fun p hp=>(List.mem_append.mp hp).elim (fun z=>I.pin p (List.mem_append_left _ z)) (h p),I.hok,I.len⟩
theorem yT {N:List Str} (hN:N.Nodup) {i j:Nat} {x:Str} (a:N[i]?=some x) (b:N[j]?=some x):i=j:=by
 obtain ⟨h1,e1⟩:=List.getElem?_eq_some_iff.mp a
 obtain ⟨h2,e2⟩:=List.getElem?_eq_some_iff.mp b
 exact (List.getElem_inj hN).mp (e1.trans e2.symm)
theorem jQ {M:Model} {A:Around} {E:Value->Shared->Prop} {i:Nat} {x:Str} {v:V} {u:Value} {Q:Unit->Shared->Prop} (I:Inv X pins σ H s) (hN:X.N.Nodup) (hi:X.N[i]?=some x) (hx:Loc X.env.scope x) (r:RelV v u)
  (h:∀ s',Inv X pins (σ.set i (some v)) H s'->(∃ a,Heap.SameBut a s.heap s'.heap/\(a=X.env.locals∨X.env.cells.lookup x=some a))->Q () s') (hf:X.fn x=true∨X.env.scope.names.lookup x=some .local:=by first | exact .inl rfl | exact .inr rfl | assumption):wpAny M A (storeName X.env x u) Q E s:=by
 obtain ⟨m,hn,hl⟩:=id I.loc
 have hcls:(X.env.scope.kind==.class||(X.env.scope.kind==.module&&X.env.locals != X.env.globals))=false:=by rw [I.ok.kind];rfl
 have hiσ:i < σ.length:=by rw [I.len];exact (List.getElem?_eq_some_iff.mp hi).1
 have cne:=I.cne
 have tracked:∀ {a:Addr} {h':Heap},(∃ o,s.heap.get? a=some o/\H a=none)->Heap.SameBut a s.heap h'->HOk X.prog X.w H h':=fun {a h'} ha hs b ob e=>by
  obtain ⟨_,_,hfree⟩:=ha
  refine (I.hok b ob e).stay (fun c w' hc q=>(hs.2 c ?_).trans q) (fun _ q=>q) fun _ _ q=>q
  rintro rfl
  rcases hc with rfl | hc
  ·rw [hfree] at e;cases e
  ·rw [hfree] at hc;cases hc
 rcases hx with hk | hk
 ·refine wpAny_storeName_local hk hn (fun h' hn' hs=>?_) hcls
  obtain ⟨oL,_,_,hoL,_⟩:=id hn
  refine h _ ⟨I.ok,I.os,I.bare,⟨fun b o e n hb hx=>?_,fun b o e n hb hx=>?_,I.base.free,fun b o e hx=>?_,I.base.tups,I.base.frzs,I.base.tbls⟩,⟨_,hn',fun j y v' e1 e2 e3=>?_⟩,fun y c e=>?_,I.free,I.freeC,fun p hp=>?_,tracked ⟨oL,hoL,I.free⟩ hs,by simpa using I.len⟩ ⟨_,hs,.inl rfl⟩
  ·exact (hs.2 b (Nat.ne_of_lt (Nat.lt_of_lt_of_le (Heap.lt_size e) I.ok.above))).trans (I.base.keep b o e n hb hx)
  ·obtain ⟨sl,e1⟩:=I.base.slot b o e n hb hx
   exact ⟨sl,(hs.2 b (Nat.ne_of_lt (Nat.lt_of_lt_of_le (Heap.lt_size e) I.ok.above))).trans e1⟩
  ·obtain ⟨o',e1⟩:=I.base.there b o e hx
   exact ⟨o',(hs.2 b (Nat.ne_of_lt (Nat.lt_of_lt_of_le (Heap.lt_size e) I.ok.above))).trans e1⟩
  ·by_cases hj:j=i
   ·subst hj
    rw [hi] at e1;cases e1
    rw [List.getElem?_set_self hiσ] at e2
    cases e2
    exact ⟨u,r,.inl ⟨hk,by simp⟩⟩
   ·rw [List.getElem?_set_ne (Ne.symm hj)] at e2
    obtain ⟨u',r',q⟩:=hl j y v' e1 e2 e3
    refine ⟨u',r',?_⟩
    rcases q with ⟨k,e⟩ | ⟨k,c,e,z⟩
    ·refine .inl ⟨k,?_⟩
     have:y≠x:=fun e=>hj (yT hN e1 (e▸hi))
     simp [this,e]
    ·exact .inr ⟨k,c,e,z.sameBut hs (cne y c e)⟩
  ·obtain ⟨w',z⟩:=I.cell y c e
   exact ⟨w',z.sameBut hs (cne y c e)⟩
  ·obtain ⟨e,n,ne,nf,d⟩:=I.pin p hp
   exact ⟨(hs.2 p.1 ne).trans e,n,ne,nf,d⟩
 ·have hfn:X.fn x=true:=by
   rcases hf with z | z
   ·exact z
   ·rw [z] at hk;cases hk
  obtain ⟨c,hc⟩:=I.ok.has x (.inl hk)
  obtain ⟨w',z⟩:=I.cell x c hc
  refine wpAny_storeName_cell I.ok.kind hk hc z (fun h' hc' hs=>?_)
  obtain ⟨oc,hoc,hocd⟩:=id z
  refine h { s with heap:=h' } ⟨I.ok,I.os,I.bare,⟨fun b o e n hb hx=>?_,fun b o e n hb hx=>?_,I.base.free,fun b o e hx=>?_,I.base.tups,I.base.frzs,I.base.tbls⟩,⟨m,hn.sameBut hs (Ne.symm (cne x c hc)),fun j y v' e1 e2 e3=>?_⟩,fun y c' e=>?_,I.free,I.freeC,fun p hp=>?_,tracked ⟨oc,hoc,I.freeC x c hc⟩ hs,by simpa using I.len⟩ ⟨c,hs,.inr hc⟩
  ·exact (hs.2 b (Nat.ne_of_lt (Nat.lt_of_lt_of_le (Heap.lt_size e) (I.ok.cab x c hfn hc)))).trans (I.base.keep b o e n hb hx)
  ·obtain ⟨sl,e1⟩:=I.base.slot b o e n hb hx
   exact ⟨sl,(hs.2 b (Nat.ne_of_lt (Nat.lt_of_lt_of_le (Heap.lt_size e) (I.ok.cab x c hfn hc)))).trans e1⟩
  ·obtain ⟨o',e1⟩:=I.base.there b o e hx
   exact ⟨o',(hs.2 b (Nat.ne_of_lt (Nat.lt_of_lt_of_le (Heap.lt_size e) (I.ok.cab x c hfn hc)))).trans e1⟩
  ·by_cases hj:j=i
   ·subst hj
    rw [hi] at e1;cases e1
    rw [List.getElem?_set_self hiσ] at e2
    cases e2
    exact ⟨u,r,.inr ⟨.inl hk,c,hc,hc'⟩⟩
   ·rw [List.getElem?_set_ne (Ne.symm hj)] at e2
    obtain ⟨u',r',q⟩:=hl j y v' e1 e2 e3
    refine ⟨u',r',?_⟩
    rcases q with q | ⟨k,c',e,z'⟩
    ·exact .inl q
    ·refine .inr ⟨k,c',e,z'.sameBut hs ?_⟩
     rintro rfl
     exact hj (yT hN e1 (I.ok.inj _ _ _ e hc▸hi))
  ·by_cases hcc:c'=c
   ·subst hcc;exact ⟨_,hc'⟩
   ·obtain ⟨w2,z2⟩:=I.cell y c' e
    exact ⟨w2,z2.sameBut hs hcc⟩
  ·obtain ⟨e,n,ne,nf,d⟩:=I.pin p hp
   refine ⟨(hs.2 p.1 ?_).trans e,n,ne,nf,d⟩
   intro q
   rw [q,hoc] at e
   have q':oc=p.2:=Option.some.inj e
   exact d w' (by rw [<- q'];exact hocd)
theorem Vh {M:Model} {A:Around} {E:Value->Shared->Prop} {i:Nat} {x:Str} {v:V} {u:Value} {Q:Unit->Shared->Prop} (I:Inv X pins σ H s) (hN:X.N.Nodup) (hi:X.N[i]?=some x) (hx:Loc X.env.scope x) (r:RelV v u)
  (h:∀ s',Inv X pins (σ.set i (some v)) H s'->Q () s') (hf:X.fn x=true∨X.env.scope.names.lookup x=some .local:=by first | exact .inl rfl | exact .inr rfl | assumption):wpAny M A (storeName X.env x u) Q E s :=
 jQ I hN hi hx r (fun s' I' _=>h s' I') hf
theorem Inv.call' {s':Shared} {ch:List Addr} (I:Inv X pins σ H s) (ho:s'.os=s.os) (u:Un (frs X.stack) ch H H' s.heap s'.heap) (hok:HOk X.prog X.w H' s'.heap) (hg:AllBare s'.gens)
  (hch:∀ b∈ch,(b∈X.ex∨X.s₀.heap.objs.size<=b)/\b≠X.env.locals/\(∀ x c,X.env.cells.lookup x=some c->c≠b)/\∀ p∈X.pn++pins,p.1≠b):Inv X pins σ H' s':=by
 obtain ⟨h',g',d',t',o'⟩:=s'
 have e:o'=s.os:=ho
 subst e
 exact I.call (g':=g') (t':=t') (d':=d') u hok hg hch
end
abbrev XK:=Value->Option Addr->Hp->Prop
abbrev St:=List (Option V)
abbrev VK:=V->Hp->Prop
abbrev TE:=St->Hp->VK->Prop
abbrev TT:=St->Hp->(Bool->Hp->Prop)->Prop
abbrev TA:=St->Hp->(List V->Hp->Prop)->Prop
structure jb where
 nx:St->Hp->Prop
 rt:VK
 bk:St->Hp->Prop:=fun _ _=>False
 ct:St->Hp->Prop:=fun _ _=>False
abbrev TS:=jb->St->Hp->Prop
def EP (X:Cx) (pins:List (Addr×Obj)) (σ:St) (Q:VK) (u:Value) (s':Shared):Prop:=∃ v H',Inv X pins σ H' s'/\RelV v u/\Q v H'
def TP (X:Cx) (pins:List (Addr×Obj)) (σ:St) (Q:Bool->Hp->Prop) (b:Bool) (s':Shared):Prop:=∃ H',Inv X pins σ H' s'/\Q b H'
def AP (X:Cx) (pins:List (Addr×Obj)) (σ:St) (Q:List V->Hp->Prop) (us:List Value) (s':Shared):Prop:=∃ vs H',Inv X pins σ H' s'/\Vals vs us/\Q vs H'
def SP (X:Cx) (pins:List (Addr×Obj)) (D:jb) (f:Flow) (s':Shared):Prop :=
 match f with
 | .next=>∃ σ' H',Inv X pins σ' H' s'/\D.nx σ' H'
 | .brk=>∃ σ' H',Inv X pins σ' H' s'/\D.bk σ' H'
 | .cont=>∃ σ' H',Inv X pins σ' H' s'/\D.ct σ' H'
 | .ret u=>∃ v σ' H',Inv X pins σ' H' s'/\RelV v u/\D.rt v H'
def PE (X:Cx) (e:Expr) (t:TE):Prop :=
 ∀ (pins:List (Addr×Obj)) (s:Shared) (σ:St) (H:Hp) (Q:VK),Inv X pins σ H s->t σ H Q->wpAny (model X.prog X.w) X.A (eval e X.env) (EP X pins σ Q) X.xe s
def PT (X:Cx) (e:Expr) (t:TT):Prop :=
 ∀ (pins:List (Addr×Obj)) (s:Shared) (σ:St) (H:Hp) (Q:Bool->Hp->Prop),Inv X pins σ H s->t σ H Q->wpAny (model X.prog X.w) X.A (isTrue e X.env (eval e X.env)) (TP X pins σ Q) X.xe s
def PW (X:Cx) (e:Expr) (t:TT):Prop :=
 ∀ (whole:Sem Value) (pins:List (Addr×Obj)) (s:Shared) (σ:St) (H:Hp) (Q:Bool->Hp->Prop),Inv X pins σ H s->t σ H Q->wpAny (model X.prog X.w) X.A (isTrue e X.env whole) (TP X pins σ Q) X.xe s
def PA (X:Cx) (es:List Expr) (t:TA):Prop :=
 ∀ (pos:Pos) (pins:List (Addr×Obj)) (s:Shared) (σ:St) (H:Hp) (Q:List V->Hp->Prop),Inv X pins σ H s->t σ H Q->wpAny (model X.prog X.w) X.A (spliced (backTo pos (starEach es X.env))) (AP X pins σ Q) X.xe s
def PS (X:Cx) (st:Stmt) (t:TS):Prop :=
 ∀ (pins:List (Addr×Obj)) (s:Shared) (σ:St) (H:Hp) (D:jb),Inv X pins σ H s->t D σ H->wpAny (model X.prog X.w) X.A (exec st X.env) (SP X pins D) X.xe s
def PSs (X:Cx) (st:List Stmt) (t:TS):Prop :=
 ∀ (pins:List (Addr×Obj)) (s:Shared) (σ:St) (H:Hp) (D:jb),Inv X pins σ H s->t D σ H->wpAny (model X.prog X.w) X.A (execs st X.env) (SP X pins D) X.xe s
theorem thn {α:Type} {t:Sem α} {Q Q':α->Shared->Prop} {M:Model} {A:Around} {E:Value->Shared->Prop} {s:Shared} (h:wpAny M A t Q E s) (hQ:∀ a s,Q a s->Q' a s):wpAny M A t Q' E s:=wpAny_mono h hQ fun _ _ x=>x
end L2
namespace L2
open PySem PySem.Spec PyProof.Rows
section
variable {X:Cx}
theorem bin {a b:Expr} {ta tb:TE} (ha:PE X a ta) (hb:PE X b tb) {pins:List (Addr×Obj)} {s:Shared} {σ:St} {H:Hp} {R:V->V->Hp->Prop} (I:Inv X pins σ H s) (h:ta σ H fun x H1=>tb σ H1 fun y H2=>R x y H2)
  {α:Type} {Q:α->Shared->Prop} {f:Value->Value->Sem α}
  (hf:∀ v u s2 x y H2,Inv X pins σ H2 s2->RelV x v->RelV y u->R x y H2->wpAny (model X.prog X.w) X.A (f v u) Q X.xe s2) :
  wpAny (model X.prog X.w) X.A (eval a X.env) (fun v s₁=>wpAny (model X.prog X.w) X.A (eval b X.env) (fun u s₂=>wpAny (model X.prog X.w) X.A (f v u) Q X.xe s₂) X.xe s₁) X.xe s:=by
 refine thn (ha pins s σ H _ I h) fun v s1 ⟨x,H1,I1,r1,q1⟩=>?_
 refine thn (hb pins s1 σ H1 _ I1 q1) fun u s2 ⟨y,H2,I2,r2,q2⟩=>?_
 exact hf v u s2 x y H2 I2 r1 r2 q2
def Qc4 (i:Nat):TE:=fun σ H Q=>∃ v,σ[i]?=some (some v)/\Q v H
def tC (v:V):TE:=fun _ H Q=>Q v H
theorem vK {i:Nat} {x:Str} {pos:Pos} (hN:X.N[i]?=some x) (hv:Vis X.env.scope x) (hd:(x==("__debug__" : Str))=false:=by decide) (hcd:(x==("__classdict__" : Str))=false:=by decide):PE X (.Name x pos) (Qc4 i):=by
 intro pins s σ H Q I h
 obtain ⟨v,e,h⟩:=h
 obtain ⟨m,hn,hl⟩:=I.loc
 obtain ⟨u,r,l⟩:=hl i x v hN e hv
 have fin:EP X pins σ Q u s:=⟨v,H,I,r,h⟩
 rcases l with ⟨hk,hm⟩ | ⟨hk,c,hc,hcell⟩
 ·exact wpAny_Name (wpAny_loadName_local I.ok.kind hk hn hm fin) hd
 ·rcases hk with hk | hk
  ·exact wpAny_Name (wpAny_loadName_cell I.ok.kind hk hc hcell fin) hd
  ·exact wpAny_Name (wpAny_loadName_free I.ok.kind hk hc hcell fin hcd) hd
theorem Qa7 {i j pos}:PE X (.Constant (.int i) j pos) (tC (.int i)):=fun _ _ _ H _ I h=>wpAny_Constant_int ⟨.int i,H,I.tok _,⟨_,rfl⟩,h⟩
theorem Qcb {b j pos}:PE X (.Constant (.bool b) j pos) (tC (.bl b)):=fun _ _ _ H _ I h=>Constant_bool ⟨.bl b,H,I,rfl,h⟩
theorem Qa8 {j pos}:PE X (.Constant .none j pos) (tC .non):=fun _ _ _ H _ I h=>Constant_none ⟨.non,H,I,rfl,h⟩
theorem Qba {x j pos}:PE X (.Constant (.str x) j pos) (tC (.str x)):=fun _ _ _ H _ I h=>Calls.Constant_str ⟨.str x,H,I.tok _,⟨_,rfl⟩,h⟩
def Gl (X:Cx) (x:Str):Prop:=X.env.kindOf x=some .globalImplicit
theorem qE {E:Value->Shared->Prop} {pins:List (Addr×Obj)} {s:Shared} {σ:St} {H:Hp} {x:Str} {u:Value} {pos:Pos} {Q:Value->Shared->Prop} (I:Inv X pins σ H s) (hg:Gl X x) (hm:X.mg x=some u) (h:Q u s)
  (hd:(x==("__debug__" : Str))=false:=by decide):wpAny (model X.prog X.w) X.A (eval (.Name x pos) X.env) Q E s :=
 Calls.Name_function_global I.ok.kind hg (Calls.loadGlobal_global (by rw [I.ok.glob];exact I.mod.glob.keeps I.bk) hm h) hd
theorem Yd {E:Value->Shared->Prop} {pins:List (Addr×Obj)} {s:Shared} {σ:St} {H:Hp} {x:Str} {u:Value} {pos:Pos} {Q:Value->Shared->Prop} (I:Inv X pins σ H s) (hg:Gl X x) (hm:X.mg x=none) (hv:bootBuiltins x=some u) (h:Q u s)
  (hn:x ≠ "__name__" := by decide) (hd:(x==("__debug__" : Str))=false:=by decide):wpAny (model X.prog X.w) X.A (eval (.Name x pos) X.env) Q E s:=by
 obtain ⟨mb,h1,h2⟩:=I.mod.blt
 exact Calls.Name_function_global I.ok.kind hg (Calls.loadGlobal_builtin (by rw [I.ok.glob];exact I.mod.glob.keeps I.bk) hm (by rw [I.ok.blt];exact h1.keeps I.bk) ((h2 x hn).trans hv) h) hd
theorem gL {x:Str} {v:V} {u:Value} {pos:Pos} (hg:Gl X x) (hm:X.mg x=some u) (r:RelV v u) (hd:(x==("__debug__" : Str))=false:=by decide):PE X (.Name x pos) (tC v) :=
 fun _ _ _ H _ I h=>qE I hg hm ⟨v,H,I,r,h⟩ hd
theorem U4 {x:Str} {v:V} {u:Value} {pos:Pos} (hg:Gl X x) (hm:X.mg x=none) (hv:bootBuiltins x=some u) (r:RelV v u) (hn:x ≠ "__name__" := by decide) (hd:(x==("__debug__" : Str))=false:=by decide):PE X (.Name x pos) (tC v) :=
 fun _ _ _ H _ I h=>Yd I hg hm hv ⟨v,H,I,r,h⟩ hn hd
variable {a b:Expr} {ta tb:TE} {pos:Pos}
def PC (X:Cx) (op:CmpOp) (a b:Expr) (t:TE):Prop :=
  ∀ (pins : List (Addr × Obj)) (s : Shared) (σ : St) (H : Hp) (Q : VK), Inv X pins σ H s -> t σ H Q ->
    wpAny (model X.prog X.w) X.A (eval a X.env) (fun v s₁=>wpAny (model X.prog X.w) X.A (eval b X.env) (fun u s₂=>wpAny (model X.prog X.w) X.A (compareOp op v u) (EP X pins σ Q) X.xe s₂) X.xe s₁) X.xe s
theorem vB (b:Expr) {op:CmpOp} (h:op≠.In) (h2:op≠.NotIn):behindInMarks op b=false:=by
 have e1:(op==CmpOp.In)=false:=by cases op<;>first | rfl | exact absurd rfl h
 have e2:(op==CmpOp.NotIn)=false:=by cases op<;>first | rfl | exact absurd rfl h2
 cases b<;>simp [behindInMarks,e1,e2]
def tB (t:TE):TT:=fun σ H Q=>t σ H fun x H1=>∃ c,x=.bl c/\Q c H1
theorem QcN {op:CmpOp} {t:TE} (h:PC X op a b t) (h1:behindInMarks op b=false:=by first | exact vB _ (by decide) (by decide) | rfl):PT X (.Compare a [op] [b] pos) (tB t):=by
 intro pins s σ H Q I hw
 refine wpAny_isTrue_Compare1 (thn (h pins s σ H _ I hw) fun v s1 h1=>thn h1 fun u s2 h2=>thn h2 fun c s3 ⟨x,H1,I1,r1,q1⟩=>?_) h1
 obtain ⟨d,rfl,q⟩:=q1
 cases r1
 exact wpAny_truthy_bool ⟨H1,I1,q⟩
theorem Qbl {e:Expr} {t:TE} (h:PE X e t) (he:∀ whole,isTrue e X.env whole=(do let v <- whole;standAt e.pos;holding [v] (truthy v)):=by intro _;rfl):PT X e (tB t):=by
 intro pins s σ H Q I hw
 refine isTrue_plain (thn (h pins s σ H _ I hw) fun v s1 ⟨x,H1,I1,r1,q1⟩=>?_) (he _)
 obtain ⟨d,rfl,q⟩:=q1
 cases r1
 exact wpAny_truthy_bool ⟨H1,I1,q⟩
variable {tA tB':TT} {rest:List Expr}
def QcV (t u:TT):TT:=fun σ H Q=>t σ H fun c H1=>if c=true then u σ H1 Q else Q false H1
def tOr (t u:TT):TT:=fun σ H Q=>t σ H fun c H1=>if c=true then Q true H1 else u σ H1 Q
def Qc1 (t:TT):TT:=fun σ H Q=>t σ H fun c H1=>Q (!c) H1
theorem g9 (ha:PT X a tA):PW X (.BoolOp .And [a] pos) tA:=by
 intro wh pins s σ H Q I h
 refine isTrue_and (thn (ha pins s σ H Q I h) fun c s1 e=>?_)
 cases c with
 | true=>exact isTrue_and_nil e
 | false=>exact e
theorem Qbo (ha:PT X a tA):PW X (.BoolOp .Or [a] pos) tA:=by
 intro wh pins s σ H Q I h
 refine isTrue_or (thn (ha pins s σ H Q I h) fun c s1 e=>?_)
 cases c with
 | false=>exact isTrue_or_nil e
 | true=>exact e
theorem Qbn (ha:PT X a tA) (hb:PW X (.BoolOp .And (b::rest) pos) tB'):PW X (.BoolOp .And (a::b::rest) pos) (QcV tA tB'):=by
 intro wh pins s σ H Q I h
 refine isTrue_and (thn (ha pins s σ H _ I h) fun c s1 ⟨H1,I1,q1⟩=>?_)
 cases c with
 | true=>exact hb wh pins s1 σ H1 Q I1 q1
 | false=>exact ⟨H1,I1,q1⟩
theorem Qcj (ha:PT X a tA) (hb:PW X (.BoolOp .Or (b::rest) pos) tB'):PW X (.BoolOp .Or (a::b::rest) pos) (tOr tA tB'):=by
 intro wh pins s σ H Q I h
 refine isTrue_or (thn (ha pins s σ H _ I h) fun c s1 ⟨H1,I1,q1⟩=>?_)
 cases c with
 | true=>exact ⟨H1,I1,q1⟩
 | false=>exact hb wh pins s1 σ H1 Q I1 q1
theorem Qbk (ha:PT X a tA):PT X (.UnaryOp .Not a pos) (Qc1 tA):=by
 intro pins s σ H Q I h
 exact isTrue_not (ha pins s σ H (fun c H1=>Q (!c) H1) I h)
def Qcq (ta tb:TE):TE:=fun σ H Q=>ta σ H fun x H1=>∃ c,x=.bl c/\if c=true then tb σ H1 Q else Q (.bl false) H1
theorem Qa9 {op} {t:TE} (h:PE X a t):PE X (.BoolOp op [a] pos) t:=fun pins s σ H Q I hw=>BoolOp_one (h pins s σ H Q I hw)
theorem Qa4 (ha:PE X a ta) (hb:PE X (.BoolOp .And (b::rest) pos) tb):PE X (.BoolOp .And (a::b::rest) pos) (Qcq ta tb):=by
 intro pins s σ H Q I h
 refine BoolOp_and (thn (ha pins s σ H _ I h) fun v s1 ⟨x,H1,I1,r1,q1⟩=>?_)
 obtain ⟨c,rfl,q1⟩:=q1
 cases r1
 refine wpAny_truthy_bool ?_
 cases c with
 | true=>exact hb pins s1 σ H1 Q I1 q1
 | false=>exact ⟨.bl false,H1,I1,rfl,q1⟩
end
end L2
namespace L2
open PySem PySem.Spec PyProof.Rows
def SqL (K:PySem.W.Frag) (H:Hp) (a:Addr) (xs:List V):Prop :=
 Rd H a (.lst xs) ∨
  ∃ (o:Obj) (its:Array Value) (n:Nat),K.lookup a=some o/\o.cls=.type "list" /\ o.dict=none/\o.data=.seq its n/\its.size<=sizeLine/\Vals xs its.toList
def SqT (K:PySem.W.Frag) (H:Hp) (a:Addr) (xs:List V):Prop :=
 Rd H a (.tup xs) ∨
  ∃ (o:Obj) (its:Array Value) (n:Nat),K.lookup a=some o/\o.cls=.type "tuple" /\ o.data=.seq its n/\its.size<=sizeLine/\Vals xs its.toList
def QcD:Value->Option V
 | .none=>some .non
 | .bool b=>some (.bl b)
 | .int i _=>some (.int i)
 | .str x _=>some (.str x)
 | .bytes b _=>some (.byt b)
 | .float b _=>some (.flt b)
 | .ref a=>some (.ref a)
 | .type n=>some (.ty n)
 | _=>none
theorem RelV.abs {x:V} {u:Value} (r:RelV x u):QcD u=some x:=by
 cases x with
 | non=>cases r;rfl
 | bl _=>cases r;rfl
 | int _=>obtain ⟨t,rfl⟩:=r;rfl
 | str _=>obtain ⟨t,rfl⟩:=r;rfl
 | byt _=>obtain ⟨t,rfl⟩:=r;rfl
 | flt _=>obtain ⟨t,rfl⟩:=r;rfl
 | ref _=>cases r;rfl
 | ty _=>cases r;rfl
theorem RelV.inj {x y:V} {u:Value} (r:RelV x u) (q:RelV y u):x=y:=Option.some.inj (r.abs.symm.trans q.abs)
theorem Vals.inj:∀ {xs ys:List V} {us:List Value},Vals xs us->Vals ys us->xs=ys
 | _,_,_,.nil,.nil=>rfl
 | _,_,_,.cons r t,.cons r' t'=>by rw [r.inj r',Vals.inj t t']
section
variable {X:Cx} {pins:List (Addr×Obj)} {σ:St} {H:Hp} {s:Shared} {a:Addr} {xs ys:List V}
theorem SqL.of {K:PySem.W.Frag} (h:H a=some (.lst xs)):SqL K H a xs:=.inl (.inl h)
theorem SqT.of {K:PySem.W.Frag} (h:H a=some (.tup xs)):SqT K H a xs:=.inl (.inl h)
theorem Inv.list (I:Inv X pins σ H s) (h:SqL X.K H a xs):∃ its:List Value,Vals xs its/\PlainL s.heap a its.toArray/\xs.length<=sizeLine:=by
 rcases h with h | ⟨o,its,n,hk,hc,hd,hs,hz,r⟩
 ·obtain ⟨z,its,n,r,e⟩:=h.ok I.hok
  exact ⟨its,r,⟨_,n,e,rfl,rfl,rfl⟩,z⟩
 ·refine ⟨its.toList,r,⟨o,n,I.kIn a o hk,hc,hd,by simpa using hs⟩,?_⟩
  have e:=r.length
  simp only [Array.length_toList] at e
  omega
theorem Inv.tuple (I:Inv X pins σ H s) (h:SqT X.K H a xs):∃ its:List Value,Vals xs its/\IsTup s.heap a its.toArray/\xs.length<=sizeLine:=by
 rcases h with h | ⟨o,its,n,hk,hc,hs,hz,r⟩
 ·obtain ⟨z,its,r,p⟩:=h.ok I.hok
  exact ⟨its,r,p,z⟩
 ·refine ⟨its.toList,r,⟨o,I.kIn a o hk,hc,n,by simpa using hs⟩,?_⟩
  have e:=r.length
  simp only [Array.length_toList] at e
  omega
theorem Inv.list_inj (I:Inv X pins σ H s) (h:SqL X.K H a xs) (h':SqL X.K H a ys):xs=ys:=by
 obtain ⟨its,r,⟨o,n,e,_,_,d⟩,_⟩:=I.list h
 obtain ⟨its',r',⟨o',n',e',_,_,d'⟩,_⟩:=I.list h'
 rw [e] at e';cases e'
 rw [d] at d'
 injection d' with d1 _
 have:its=its':=by simpa using congrArg Array.toList d1
 subst this
 exact r.inj r'
end
abbrev Cx.wish (X:Cx) (E:Value->Shared->Prop):Cx:={ X with xe:=E }
abbrev Cx.nox (X:Cx):Cx:=X.wish fun _ _=>False
theorem Cx.Ok.wish {X:Cx} (ok:X.Ok) (E:Value->Shared->Prop):(X.wish E).Ok :=
 ⟨ok.mod,ok.kind,ok.glob,ok.blt,ok.above,ok.inj,ok.has,ok.cab,ok.hd,ok.frames,ok.stk,ok.exf,ok.bs,ok.bsz,ok.noex,ok.exfs,ok.funs,ok.frf⟩
theorem Cx.Ok.unwish {X:Cx} {E:Value->Shared->Prop} (ok:(X.wish E).Ok):X.Ok :=
 ⟨ok.mod,ok.kind,ok.glob,ok.blt,ok.above,ok.inj,ok.has,ok.cab,ok.hd,ok.frames,ok.stk,ok.exf,ok.bs,ok.bsz,ok.noex,ok.exfs,ok.funs,ok.frf⟩
section
variable {X:Cx} {pins:List (Addr×Obj)} {σ:St} {H:Hp} {s:Shared} {E:Value->Shared->Prop}
theorem Inv.wish (I:Inv X pins σ H s) (E:Value->Shared->Prop):Inv (X.wish E) pins σ H s:=⟨I.ok.wish E,I.os,I.bare,I.base,I.loc,I.cell,I.free,I.freeC,I.pin,I.hok,I.len⟩
theorem Inv.unwish (I:Inv (X.wish E) pins σ H s):Inv X pins σ H s:=⟨I.ok.unwish,I.os,I.bare,I.base,I.loc,I.cell,I.free,I.freeC,I.pin,I.hok,I.len⟩
theorem SP.unwish {D:jb} {f:Flow} {s':Shared} (h:SP (X.wish E) pins D f s'):SP X pins D f s':=by
 cases f with
 | next=>obtain ⟨σ',H',I,q⟩:=h;exact ⟨σ',H',I.unwish,q⟩
 | brk=>obtain ⟨σ',H',I,q⟩:=h;exact ⟨σ',H',I.unwish,q⟩
 | cont=>obtain ⟨σ',H',I,q⟩:=h;exact ⟨σ',H',I.unwish,q⟩
 | ret u=>obtain ⟨v,σ',H',I,r,q⟩:=h;exact ⟨v,σ',H',I.unwish,r,q⟩
theorem PSs.nox {st:List Stmt} {t:TS} (h:PSs X.nox st t):PSs X st t:=fun pins s σ H D I hw =>
 wpAny_mono (h pins s σ H D (I.wish _) hw) (fun _ _ q=>q.unwish) fun _ _ z=>False.elim z
end
section
variable {X:Cx} {st:Stmt} {rest:List Stmt} {t u:TS} {e:Expr} {te:TE} {pos:Pos}
def Qct:TS:=fun D σ H=>D.nx σ H
def Qcw (t u:TS):TS:=fun D σ H=>t { D with nx:=u D } σ H
theorem pss_nil:PSs X [] Qct:=fun _ _ σ H _ I h=>wpAny_execs_nil ⟨σ,H,I,h⟩
theorem vO (h1:PS X st t) (h2:PSs X rest u):PSs X (st::rest) (Qcw t u):=by
  intro pins s σ H D I h
  refine wpAny_execs_cons (thn (h1 pins s σ H { D with nx:=u D } I h) fun f s1 q=>?_)
  cases f with
  | next =>
    obtain ⟨σ',H',I',q⟩:=q
    exact h2 pins s1 σ' H' D I' q
  | ret v=>exact q
  | brk=>exact q
  | cont=>exact q
theorem gY (h1:PS X st t):PSs X [st] t:=by
 intro pins s σ H D I h
 refine wpAny_execs_cons (thn (h1 pins s σ H D I h) fun f s1 q=>?_)
 cases f with
 | next=>exact wpAny_execs_nil q
 | ret v=>exact q
 | brk=>exact q
 | cont=>exact q
theorem Inv.quiet {pins:List (Addr×Obj)} {σ:St} {H:Hp} {s:Shared} (I:Inv X pins σ H s):interactive X.env=false:=by simp [interactive,I.ok.kind]
def Qag (te:TE):TS:=fun D σ H=>te σ H fun _ H1=>D.nx σ H1
theorem Ka (he:PE X e te) (hs:swapsWith e none pos.line X.env=pure false:=by rfl):PS X (.Expr e pos) (Qag te):=by
 intro pins s σ H D I h
 exact wpAny_Expr_any (thn (he pins s σ H _ I h) fun v s1 ⟨x,H1,I1,r1,q1⟩=>⟨σ,H1,I1,q1⟩) I.quiet hs
def Qc2 (te:TE):TS:=fun D σ H=>te σ H D.rt
theorem Qbj (he:PE X e te):PS X (.Return (some e) pos) (Qc2 te):=by
 intro pins s σ H D I h
 exact wpAny_Return_some (thn (he pins s σ H _ I h) fun v s1 ⟨x,H1,I1,r1,q1⟩=>⟨x,σ,H1,I1,r1,q1⟩)
def QcZ (c:TT) (t u:TS):TS:=fun D σ H=>c σ H fun b H1=>if b=true then t D σ H1 else u D σ H1
theorem Qci {c:Expr} {a b:List Stmt} {tc:TT} (hc:PT X c tc) (ha:PSs X a t) (hb:PSs X b u):PS X (.If c a b pos) (QcZ tc t u):=by
 intro pins s σ H D I h
 refine wpAny_If (thn (hc pins s σ H _ I h) fun d s1 ⟨H1,I1,q1⟩=>?_)
 cases d with
 | true=>exact ha pins s1 σ H1 D I1 q1
 | false=>exact hb pins s1 σ H1 D I1 q1
end
abbrev TG:=V->St->Hp->(St->Hp->Prop)->Prop
def PG (X:Cx) (target:Expr) (t:TG):Prop :=
  ∀ (pins : List (Addr × Obj)) (s : Shared) (σ : St) (H : Hp) (v : V) (u : Value) (Q : St -> Hp -> Prop), Inv X pins σ H s -> RelV v u -> t v σ H Q ->
    wpAny (model X.prog X.w) X.A (assign target X.env u) (fun _ s'=>∃ σ' H',Inv X pins σ' H' s'/\Q σ' H') X.xe s
abbrev uE:=V->V->V->Hp->(Hp->Prop)->Prop
def uD (X:Cx) (t:uE):Prop :=
  ∀ (pins : List (Addr × Obj)) (s : Shared) (σ : St) (H : Hp) (o i v : V) (ov iv u : Value) (Q : Hp -> Prop), Inv X pins σ H s -> RelV o ov -> RelV i iv -> RelV v u -> t o i v H Q ->
    wpAny (model X.prog X.w) X.A (setItem ov iv u) (fun _ s'=>∃ H',Inv X pins σ H' s'/\Q H') X.xe s
section
variable {X:Cx} {pos:Pos}
def Uv (i:Nat):TG:=fun v σ H Q=>Q (σ.set i (some v)) H
theorem U5 {i:Nat} {x:Str} (hN:X.N.Nodup) (hi:X.N[i]?=some x) (hx:Loc X.env.scope x) (hf:X.fn x=true∨X.env.scope.names.lookup x=some .local:=by first | exact .inl rfl | exact .inr rfl | assumption):PG X (.Name x pos) (Uv i):=by
 intro pins s σ H v u Q I r h
 exact wpAny_assign_Name (Vh I hN hi hx r (fun s' I'=>⟨_,H,I',h⟩) hf)
def QcH (to ti:TE) (t:uE):TG:=fun v σ H Q=>to σ H fun o H1=>ti σ H1 fun i H2=>t o i v H2 fun H3=>Q σ H3
theorem Qbd {o i:Expr} {to ti:TE} {t:uE} (ho:PE X o to) (hi:PE X i ti) (hs:uD X t)
  (ha:∀ v,assign (.Subscript o i pos) X.env v=(do
   let ov <- holding [v] (eval o X.env)
   let iv <- holding [v,ov] (eval i X.env)
   standAt pos
   holding [v,ov,iv] (setItem ov iv v)
   release [v,ov,iv] []):=by intro _;rfl):PG X (.Subscript o i pos) (QcH to ti t):=by
 intro pins s σ H v u Q I r h
 rw [ha]
 refine wpAny_bind (wpAny_holding (thn (ho pins s σ H _ I h) fun ov s1 ⟨x,H1,I1,r1,q1⟩=>?_))
 refine wpAny_bind (wpAny_holding (thn (hi pins s1 σ H1 _ I1 q1) fun iv s2 ⟨y,H2,I2,r2,q2⟩=>?_))
 refine wpAny_bind (wpAny_standAt (wpAny_bind (wpAny_holding (thn (hs pins s2 σ H2 x y v ov iv u _ I2 r1 r2 r q2) fun _ s3 ⟨H3,I3,q3⟩=>?_))))
 exact wpAny_release ⟨σ,H3,I3,q3⟩
def kH (te:TE) (g:TG):TS:=fun D σ H=>te σ H fun x H1=>g x σ H1 D.nx
theorem Qbg {tg e:Expr} {te:TE} {g:TG} (he:PE X e te) (hg:PG X tg g) (hs:swapsWithSole [tg] e pos.line X.env=pure false:=by rfl) (hw:swappedStores [tg] e X.env=pure none:=by rfl)
  (h1:(assignEach [tg] X.env).map (·.2)=[assign tg X.env]:=by rfl):PS X (.Assign [tg] e pos) (kH te g):=by
 intro pins s σ H D I h
 refine wpAny_Assign_stores (thn (he pins s σ H _ I h) fun v s1 ⟨x,H1,I1,r1,q1⟩=>?_) hs hw
 rw [h1]
 exact thn (hg pins s1 σ H1 x v _ I1 r1 q1) fun _ s2 q=>q
theorem vN {i:Nat} {x:Str} {e:Expr} {te:TE} {pos':Pos} (hN:X.N.Nodup) (hi:X.N[i]?=some x) (hx:Loc X.env.scope x) (he:PE X e te) (hs:swapsWith e (some (.Name x pos')) pos.line X.env=pure false:=by rfl) (hf:X.fn x=true∨X.env.scope.names.lookup x=some .local:=by first | exact .inl rfl | exact .inr rfl | assumption) :
  PS X (.Assign [.Name x pos'] e pos) (kH te (Uv i)):=by
 intro pins s σ H D I h
 refine wpAny_Assign_Name (thn (he pins s σ H _ I h) fun v s1 ⟨y,H1,I1,r1,q1⟩=>?_) hs
 exact Vh I1 hN hi hx r1 (fun s2 I2=>⟨_,H1,I2,q1⟩) hf
end
section
variable {X:Cx} {pos:Pos}
end
structure It where
 go:Nat->Hp->Prop
 yld:Nat->Hp->V->Hp->Prop
 stop:Nat->Hp->Prop
def Vs (X:Cx) (pins:List (Addr×Obj)) (H:Hp) (b:Addr):Prop :=
 H b=none/\b≠X.env.locals/\b∉X.fs/\(b∈X.ex∨X.s₀.heap.objs.size<=b)/\(∀ x c,X.env.cells.lookup x=some c->c≠b)/\∀ p∈X.pn++pins,p.1≠b
theorem Inv.fpOk {X:Cx} {pins:List (Addr×Obj)} {σ:St} {H H':Hp} {s:Shared} {b:Addr} (I:Inv X pins σ H s) (hb:s.heap.objs.size<=b) (hn:H' b=none):Vs X pins H' b:=by
 refine ⟨hn,Nat.ne_of_gt (Nat.lt_of_lt_of_le I.lt hb),I.nofs hb,.inr (Nat.le_trans I.sz hb),fun x c e z=>?_,fun p hp z=>?_⟩
 ·obtain ⟨v,q⟩:=I.cell x c e
  exact absurd (Nat.lt_of_lt_of_le q.lt (by rw [z];exact hb)) (Nat.lt_irrefl _)
 ·exact absurd (Nat.lt_of_lt_of_le (Heap.lt_size (I.pin p hp).1) (by rw [z];exact hb)) (Nat.lt_irrefl _)
structure Qak (P:Program) (w:World) (K:PySem.W.Frag) (tg:Expr) (J:It) (fp:List Addr) (it:Addr) (tn:Nat->Heap->Prop):Prop where
 mem:it∈fp
 obj:∀ i h,tn i h->∀ b∈fp,∃ o,h.get? b=some o/\∀ v,o.data≠.cell v
 keep:∀ i h h',tn i h->(∀ b∈fp,∀ o,h.get? b=some o->h'.get? b=some o)->tn i h'
 item:∀ (X:Cx),X.prog=P->X.w=w->X.K=K->X.calm=true->∀ (i:Nat) (pins:List (Addr×Obj)) (s:Shared) (σ:St) (H:Hp) (E:Value->Shared->Prop),Inv X pins σ H s->(∀ b∈fp,Vs X pins H b)->tn i s.heap->J.go i H ->
  wpAny (model P w) X.A (pyNext (.ref it)) (fun r s1=>∃ u,r=some u /\
   wpAny (model P w) X.A (letOwnedTupleGo tg (.ref it) u) (fun _ s2=>∃ x H',Inv X pins σ H' s2/\RelV x u/\J.yld i H x H'/\tn (i+1) s2.heap/\∀ b∈fp,H' b=none) E s1) E s
 done:∀ (X:Cx),X.prog=P->X.w=w->X.K=K->X.calm=true->∀ (i:Nat) (pins:List (Addr×Obj)) (s:Shared) (σ:St) (H:Hp) (E:Value->Shared->Prop),Inv X pins σ H s->(∀ b∈fp,Vs X pins H b)->tn i s.heap->J.stop i H ->
  wpAny (model P w) X.A (pyNext (.ref it)) (fun r s1=>r=none/\Inv X pins σ H s1) E s
 self:∀ (A:Around) (i:Nat) (s:Shared) (Q:Value->Shared->Prop) (E:Value->Shared->Prop),tn i s.heap->Q (.ref it) s->wpAny (model P w) A (pyIter (.ref it)) Q E s
abbrev TI:=St->Hp->(It->Hp->Prop)->Prop
def PIE (X:Cx) (pins:List (Addr×Obj)) (σ:St) (tg:Expr) (R:It->Hp->Prop) (itv:Value) (s2:Shared):Prop :=
 ∃ (it:Addr) (fp:List Addr) (tn:Nat->Heap->Prop) (J:It) (H':Hp),itv=.ref it/\Inv X pins σ H' s2/\Qak X.prog X.w X.K tg J fp it tn/\tn 0 s2.heap/\(∀ b∈fp,Vs X pins H' b)/\R J H'
def PI (X:Cx) (tg iter:Expr) (wi:TI):Prop :=
  ∀ (pins : List (Addr × Obj)) (s : Shared) (σ : St) (H : Hp) (R : It -> Hp -> Prop), Inv X pins σ H s -> wi σ H R ->
    wpAny (model X.prog X.w) X.A (eval iter X.env) (fun v s1=>wpAny (model X.prog X.w) X.A (pyIter v) (PIE X pins σ tg R) X.xe s1) X.xe s
theorem kU {M:Model} {A:Around} {E:Value->Shared->Prop} {s:Shared} {tg:Expr} {it:Addr} {u:Value} {o:Obj} {n:String} {vs:Array Value} {Q:Unit->Shared->Prop} (ho:s.heap.get? it=some o) (hc:o.cls=.type n) (hd:o.data=.fields vs)
    (hn:["enumerate", "zip", "dict_itemiterator", "dict_reverseitemiterator", "odict_iterator", "itertools.zip_longest", "itertools.pairwise"].contains n=false) (hQ:Q () s):wpAny M A (letOwnedTupleGo tg (.ref it) u) Q E s:=by
  unfold letOwnedTupleGo
  cases tg<;>first
    | exact wpAny_pure hQ
    | (cases u<;>first
        | exact wpAny_pure hQ
        | (refine wpAny_bind (wpAny_load ho ?_)
           rw [hc,hd]
           show wpAny M A (if (["enumerate", "zip", "dict_itemiterator", "dict_reverseitemiterator", "odict_iterator", "itertools.zip_longest", "itertools.pairwise"].contains n&&vs[0]?==some (rawInt _))=true then _ else _) Q E s
           rw [if_neg (by intro h;rw [hn,Bool.false_and] at h;cases h)]
           exact wpAny_pure hQ))
def Itl (K:PySem.W.Frag) (a:Addr):It :=
 ⟨fun i H=>∃ xs x,SqL K H a xs/\xs[i]?=some x,fun i H x H'=>H'=H/\∀ xs,SqL K H a xs->xs[i]?=some x,fun i H=>∃ xs,SqL K H a xs/\xs.length<=i⟩
def Itr (lo:Int) (n:Nat):It:=⟨fun i _=>i < n,fun i H x H'=>H'=H/\x=.int (lo+i),fun i _=>n<=i⟩
theorem Gf {P:Program} {w:World} {K:PySem.W.Frag} {tg:Expr} (a it:Addr):Qak P w K tg (Itl K a) [it] it (fun i h=>h.IsListIter it a i) where
 mem:=by simp
 obj:=fun i h st b hb=>by
  have e:b=it:=by simpa using hb
  subst e
  obtain ⟨o,e,c,d⟩:=st
  exact ⟨o,e,fun v z=>by rw [d] at z;cases z⟩
 keep:=fun i h h' st k=>st.at fun o e=>k it (by simp) o e
 item:=by
  intro X hP hw hK hc i pins s σ H E I hf st hg
  subst hP hw hK
  obtain ⟨xs,x,hq,hx⟩:=hg
  obtain ⟨its,rv,p,hz⟩:=I.list hq
  obtain ⟨u,hu,ru⟩:=rv.get hx
  obtain ⟨f0,f1,f2,f3,f4,f5⟩:=hf it (by simp)
  refine wpAny_pyNext_list_item st p.isList (x:=u) (by simpa using hu) fun h' st' sb=>?_
  have I1:Inv X pins σ H { s with heap:=h' }:=I.turned (t':=s.toks) (fun b o hb e=>(sb.2 b hb).trans e) f0 f1 f3 f4 f5
  obtain ⟨o,e,c,d⟩:=id st'
  exact ⟨u,rfl,kU (s:={ s with heap:=h' }) e c d (by decide) ⟨x,H,I1,ru,⟨rfl,fun ys hy=>by rw [I.list_inj hy hq];exact hx⟩,st',fun b hb=>(hf b hb).1⟩⟩
 done:=by
  intro X hP hw hK hc i pins s σ H E I hf st hg
  subst hP hw hK
  obtain ⟨xs,hq,hx⟩:=hg
  obtain ⟨its,rv,p,hz⟩:=I.list hq
  obtain ⟨f0,f1,f2,f3,f4,f5⟩:=hf it (by simp)
  have hl:=rv.length
  exact wpAny_pyNext_list_end (I.ok.hd hc) st p.isList (by simp;omega) fun h' eb=>⟨rfl,I.turned (t':=s.toks) (fun b o hb e=>eb b o hb e) f0 f1 f3 f4 f5⟩
 self:=fun _ _ _ _ _ st h=>wpAny_pyIter_listiter st h
theorem Uc {P:Program} {w:World} {K:PySem.W.Frag} {tg:Expr} (it:Addr) (lo:Int) (n:Nat):Qak P w K tg (Itr lo n) [it] it (fun i h=>IsRangeIter h it (lo+(i:Nat) * 1) ((n:Int) - (i:Nat)) 1) where
 mem:=by simp
 obj:=fun i h st b hb=>by
  have e:b=it:=by simpa using hb
  subst e
  exact ⟨_,st,fun v z=>by
   have z':Data.fields _=Data.cell v:=z
   cases z'⟩
 keep:=fun i h h' st k=>k it (by simp) _ st
 item:=by
  intro X hP hw hK hc i pins s σ H E I hf st hg
  subst hP hw hK
  obtain ⟨f0,f1,f2,f3,f4,f5⟩:=hf it (by simp)
  have W:=Walks.range (prog:=X.prog) (w:=X.w) (I.ok.hd hc) it lo 1 n
  refine W.item i s _ _ hg st fun v h' tk hv st' kk=>?_
  obtain ⟨t,rfl⟩:=hv
  have I1:Inv X pins σ H { s with heap:=h',toks:=tk }:=I.turned (fun b o hb e=>kk b o (by simpa using hb) e) f0 f1 f3 f4 f5
  refine ⟨_,rfl,kU (s:={ s with heap:=h',toks:=tk }) (n := "range_iterator") st' rfl rfl (by decide) ⟨.int (lo+i),H,I1,⟨t,?_⟩,⟨rfl,rfl⟩,st',fun b hb=>(hf b hb).1⟩⟩
  rw [Int.mul_one]
 done:=by
  intro X hP hw hK hc i pins s σ H E I hf st hg
  subst hP hw hK
  obtain ⟨f0,f1,f2,f3,f4,f5⟩:=hf it (by simp)
  exact wpAny_pyNext_range_end (I.ok.hd hc) st (by have:n<=i:=hg;omega) fun h' eb=>⟨rfl,I.turned (t':=s.toks) (fun b o hb e=>eb b o hb e) f0 f1 f3 f4 f5⟩
 self:=fun _ _ _ _ _ st h=>wpAny_pyIter_rangeiter st h
end L2
namespace L2
open PySem PySem.Spec PyProof.Rows
section
variable {X:Cx} {tg:Expr}
def QbR (K:PySem.W.Frag) (tl:TE):TI:=fun σ H R=>tl σ H fun x H1=>∃ a,x=.ref a/\(∃ xs,SqL K H1 a xs)/\R (Itl K a) H1
theorem gO {l:Expr} {tl:TE} (hl:PE X l tl):PI X tg l (QbR X.K tl):=by
 intro pins s σ H R I h
 refine thn (hl pins s σ H _ I h) fun v s1 ⟨x,H1,I1,r1,q1⟩=>?_
 obtain ⟨a,e,⟨xs,hq⟩,q⟩:=q1
 subst e
 cases r1
 obtain ⟨its,rv,p,hz⟩:=I1.list hq
 refine wpAny_pyIter_list p.isList ?_
 refine ⟨s1.heap.objs.size,[s1.heap.objs.size],_,_,H1,rfl,I1.kept (t':=s1.toks) fun b o e=>Heap.get?_push_of_some _ e,Gf a _,⟨_,Heap.get?_push_size _ rfl,rfl,rfl⟩,fun b hb=>?_,q⟩
 have e:b=s1.heap.objs.size:=by simpa using hb
 subst e
 exact I1.fpOk (Nat.le_refl _) (I1.hok.fresh (Nat.le_refl _))
theorem vR {pins:List (Addr×Obj)} {σ:St} {H:Hp} {s:Shared} {R:It->Hp->Prop} {E:Value->Shared->Prop} {lo hi:Int} {t u v:Tok} {tk:Nat} (I:Inv X pins σ H s) (h1:-(2 ^ 62)<=lo) (h2:lo < 2 ^ 62) (h3:-(2 ^ 62)<=hi) (h4:hi < 2 ^ 62)
  (q:R (Itr lo (hi - lo).toNat) H):wpAny (model X.prog X.w) X.A (pyIter (.ref s.heap.objs.size)) (PIE X pins σ tg R) E { s with heap:=s.heap.push { cls:=.type "range", data:=.fields #[.int lo t,.int hi u,.int 1 v] },toks:=tk }:=by
 refine wpAny_pyIter_range (IsRange.new ..) (small_one h1 h2 h3 h4) ?_
 have I1:Inv X pins σ H { s with heap:=s.heap.push { cls:=.type "range", data:=.fields #[.int lo t,.int hi u,.int 1 v] },toks:=tk }:=I.kept fun b o e=>Heap.get?_push_of_some _ e
 refine ⟨(s.heap.push { cls:=.type "range", data:=.fields #[.int lo t,.int hi u,.int 1 v] }).objs.size,[(s.heap.push { cls:=.type "range", data:=.fields #[.int lo t,.int hi u,.int 1 v] }).objs.size],_,_,H,rfl,
  I1.kept (t':=tk) fun b o e=>Heap.get?_push_of_some _ e,Uc _ lo (hi - lo).toNat,?_,fun b hb=>?_,q⟩
 ·have e1:lo+((0:Nat):Int) * 1=lo:=by simp
  have e2:(((hi - lo).toNat:Nat):Int) - ((0:Nat):Int)=Builtin.Range.rangeSize lo hi 1:=by rw [rangeSize_one];split<;>omega
  show IsRangeIter _ _ (lo+((0:Nat):Int) * 1) ((((hi - lo).toNat:Nat):Int) - ((0:Nat):Int)) 1
  rw [e1,e2]
  exact Heap.get?_push_size _ rfl
 ·have e:b=(s.heap.push { cls:=.type "range", data:=.fields #[.int lo t,.int hi u,.int 1 v] }).objs.size:=by simpa using hb
  subst e
  exact I1.fpOk (Nat.le_refl _) (I1.hok.fresh (Nat.le_refl _))
def QbS (ta:TA):TI:=fun σ H R=>ta σ H fun vs H1=>∃ j:Int,vs=[.int j] /\ -(2 ^ 62)<=j/\j < 2 ^ 62/\R (Itr 0 j.toNat) H1
theorem K0 {a:Expr} {ta:TA} {p pos:Pos} (hg:Gl X "range") (hm:X.mg "range" = none) (ha:PA X [a] ta) (hs:starEach [a] X.env=[(false,eval a X.env)]:=by rfl):PI X tg (.Call (.Name "range" p) [a] [] pos) (QbS ta):=by
  intro pins s σ H R I h
  refine Call_ (Yd I hg hm boot_range (PyProof.Rows.callWith_type1 (thn (ha pos pins s σ H _ I h) fun us s1 ⟨vs,H1,I1,r1,q1⟩=>?_) hs rfl))
  obtain ⟨j,e,q1,q2,q⟩:=q1
  subst e
  cases r1 with
  | cons r rr =>
    cases rr
    obtain ⟨t,rfl⟩:=r
    exact call_range_1 (vR I1 (by omega) (by omega) q1 q2 (by simpa using q))
def QcY (wi:TI) (g:TG) (tb:TS):TS:=fun D σ H=>wi σ H fun J H1=>∃ W:Nat->Nat->St->Hp->Prop,(∃ m,W 0 m σ H1)/\∀ i m σ H,W i m σ H ->
 (J.stop i H/\D.nx σ H)∨(J.go i H/\∃ N:St->Hp->Prop,(∀ σ' H',N σ' H'->∃ m',m' < m/\W (i+1) m' σ' H')/\∀ x H',J.yld i H x H'->g x σ H' fun σ2 H2=>tb { D with nx:=N,ct:=N,bk:=D.nx } σ2 H2)
def zD (fp:List Addr) (h:Heap):List (Addr×Obj):=fp.filterMap fun b=>(h.get? b).map fun o=>(b,o)
theorem JW {fp:List Addr} {h:Heap} {b:Addr} {o:Obj} (hb:b∈fp) (e:h.get? b=some o):(b,o)∈zD fp h:=List.mem_filterMap.mpr ⟨b,hb,by rw [e];rfl⟩
theorem KS {fp:List Addr} {h:Heap} {p:Addr×Obj} (hp:p∈zD fp h):p.1∈fp/\h.get? p.1=some p.2:=by
  obtain ⟨b,hb,e⟩:=List.mem_filterMap.mp hp
  cases q:h.get? b with
  | none=>rw [q] at e;cases e
  | some o =>
    rw [q] at e
    have e':(b,o)=p:=Option.some.inj e
    subst e'
    exact ⟨hb,q⟩
theorem Inv.pinned {pins:List (Addr×Obj)} {σ:St} {H:Hp} {s:Shared} {fp:List Addr} (I:Inv X pins σ H s) (hf:∀ b∈fp,Vs X pins H b) (ho:∀ b∈fp,∃ o,s.heap.get? b=some o/\∀ v,o.data≠.cell v):Inv X (pins++zD fp s.heap) σ H s :=
 I.pins_of fun p hp=>(List.mem_append.mp hp).elim (fun z=>I.pin p (List.mem_append_right _ z)) fun z=>by
  obtain ⟨hb,e⟩:=KS z
  obtain ⟨f0,f1,f2,_⟩:=hf p.1 hb
  obtain ⟨o,e',d⟩:=ho p.1 hb
  rw [e] at e';cases e'
  exact ⟨e,f0,f1,f2,d⟩
theorem Inv.unpinned {pins pl:List (Addr×Obj)} {σ:St} {H:Hp} {s:Shared} (I:Inv X (pins++pl) σ H s):Inv X pins σ H s:=I.pins_of fun p hp=>I.pin p (List.mem_append_right _ (List.mem_append_left _ hp))
theorem Qbi {iter:Expr} {body:List Stmt} {wi:TI} {g:TG} {tb:TS} {pos:Pos} (hp:PassesOwn (model X.prog X.w) X.A X.env X.xe) (hc:X.calm=true) (hi:PI X tg iter wi) (hg:PG X tg g) (hb:PSs X body tb)
  (hs:∀ x,foldedSetIterable iter X.env x=pure x:=by intro _;rfl):PS X (.For tg iter body [] pos) (QcY wi g tb):=by
 intro pins s σ H D I h
 refine wpAny_For (thn (hi pins s σ H _ I h) fun v s1 h1=>thn h1 fun itv s2 h2=>?_) hs
 obtain ⟨it,fp,tn,J,H2,e,I2,T,st2,f2,W,⟨m0,w0⟩,turn⟩:=h2
 subst e
 have stat:∀ {H':Hp},(∀ b∈fp,H' b=none)->∀ b∈fp,Vs X pins H' b:=fun hn b hb=>⟨hn b hb,(f2 b hb).2⟩
 refine codeAny_forLoop_any (fun n s'=>∃ i σ' H',Inv X pins σ' H' s'/\tn i s'.heap/\(∀ b∈fp,H' b=none)/\W i n σ' H') ?_ m0 ⟨0,σ,H2,I2,st2,fun b hb=>(f2 b hb).1,w0⟩
 rintro n s3 ⟨i,σ3,H3,I3,st3,fr3,w3⟩
 rcases turn i n σ3 H3 w3 with ⟨stop,qn⟩ | ⟨go,N,hN,step⟩
 ·refine wpAny_passesOwn hp (thn (T.done X rfl rfl rfl hc i pins s3 σ3 H3 X.xe I3 (stat fr3) st3 stop) fun r s4 ⟨hr,I4⟩=>?_)
  subst hr
  exact wpAny_execs_nil ⟨σ3,H3,I4,qn⟩
 ·refine wpAny_passesOwn hp (thn (T.item X rfl rfl rfl hc i pins s3 σ3 H3 X.xe I3 (stat fr3) st3 go) fun r s4 ⟨u,hr,h4⟩=>?_)
  subst hr
  refine wpAny_passesOwn hp (thn h4 fun _ s5 ⟨x,H5,I5,r5,y5,st5,fr5⟩=>?_)
  have I5':=I5.pinned (stat fr5) (T.obj _ _ st5)
  refine wpAny_passesOwn hp (thn (hg _ s5 σ3 H5 x u _ I5' r5 (step x H5 y5)) fun _ s6 ⟨σ6,H6,I6,q6⟩=>?_)
  refine wpAny_passesOwn hp (thn (hb _ s6 σ6 H6 _ I6 q6) fun f s7 q7=>?_)
  have again:∀ {σ7:St} {H7:Hp},Inv X (pins++zD fp s5.heap) σ7 H7 s7->N σ7 H7->∃ m,m < n/\∃ i σ' H',Inv X pins σ' H' s7/\tn i s7.heap/\(∀ b∈fp,H' b=none)/\W i m σ' H':=fun {σ7 H7} I7 n7=>by
   obtain ⟨m',hm,w7⟩:=hN σ7 H7 n7
   refine ⟨m',hm,i+1,σ7,H7,I7.unpinned,T.keep _ _ _ st5 fun b hb o e=>(I7.pin (b,o) (List.mem_append_right _ (List.mem_append_right _ (JW hb e)))).1,fun b hb=>?_,w7⟩
   obtain ⟨o,e,d⟩:=T.obj _ _ st5 b hb
   exact (I7.pin (b,o) (List.mem_append_right _ (List.mem_append_right _ (JW hb e)))).2.1
  cases f with
  | next=>obtain ⟨σ7,H7,I7,n7⟩:=q7;exact again I7 n7
  | cont=>obtain ⟨σ7,H7,I7,n7⟩:=q7;exact again I7 n7
  | brk=>obtain ⟨σ7,H7,I7,q7⟩:=q7;exact ⟨σ7,H7,I7.unpinned,q7⟩
  | ret v=>obtain ⟨x7,σ7,H7,I7,r7,q7⟩:=q7;exact ⟨x7,σ7,H7,I7.unpinned,r7,q7⟩
end
end L2
namespace L2
open PySem PySem.Spec PyProof.Rows
abbrev R2:=V->V->Hp->VK->Prop
def OpR (X:Cx) (f:Value->Value->Sem Value) (r:R2):Prop :=
  ∀ (pins : List (Addr × Obj)) (s : Shared) (σ : St) (H : Hp) (x y : V) (v u : Value) (Q : VK), Inv X pins σ H s -> RelV x v -> RelV y u -> r x y H Q ->
    wpAny (model X.prog X.w) X.A (f v u) (EP X pins σ Q) X.xe s
def UnR (X:Cx) (f:Value->Sem Value) (r:V->Hp->VK->Prop):Prop :=
  ∀ (pins : List (Addr × Obj)) (s : Shared) (σ : St) (H : Hp) (x : V) (v : Value) (Q : VK), Inv X pins σ H s -> RelV x v -> r x H Q ->
    wpAny (model X.prog X.w) X.A (f v) (EP X pins σ Q) X.xe s
def Zy (X:Cx) (f:Value) (r:List V->Hp->VK->Prop):Prop :=
  ∀ (pins : List (Addr × Obj)) (s : Shared) (σ : St) (H : Hp) (xs : List V) (us : List Value) (Q : VK), Inv X pins σ H s -> Vals xs us -> r xs H Q ->
    wpAny (model X.prog X.w) X.A (call f us) (EP X pins σ Q) X.xe s
def tOp (r:R2) (ta tb:TE):TE:=fun σ H Q=>ta σ H fun x H1=>tb σ H1 fun y H2=>r x y H2 Q
def tUn (r:V->Hp->VK->Prop) (ta:TE):TE:=fun σ H Q=>ta σ H fun x H1=>r x H1 Q
def rI (C:Int->Int->Prop) (g:Int->Int->V):R2:=fun x y H Q=>∃ i j,x=.int i/\y=.int j/\C i j/\Q (g i j) H
def rI0 (g:Int->Int->V):R2:=fun x y H Q=>∃ i j,x=.int i/\y=.int j/\Q (g i j) H
def rU (g:Int->V):V->Hp->VK->Prop:=fun x H Q=>∃ i,x=.int i/\Q (g i) H
section
variable {X:Cx} {a b c:Expr} {ta tb tc:TE} {pos:Pos}
theorem Qam (ha:PE X a ta) (hb:PE X b tb) {pins:List (Addr×Obj)} {s:Shared} {σ:St} {H:Hp} {R:V->V->Hp->Prop} (I:Inv X pins σ H s)
  (h:ta σ H fun x H1=>tb σ H1 fun y H2=>R x y H2) {Q:Value->Shared->Prop} {f:Value->Value->Sem Value}
  (hf:∀ v u s2 x y H2,Inv X pins σ H2 s2->RelV x v->RelV y u->R x y H2->wpAny (model X.prog X.w) X.A (f v u) Q X.xe s2) :
  wpAny (model X.prog X.w) X.A (eval a X.env) (fun v s₁=>wpAny (model X.prog X.w) X.A (eval b X.env) (fun u s₂=>wpAny (model X.prog X.w) X.A (f v u) Q X.xe s₂) X.xe s₁) X.xe s:=by
 refine thn (ha pins s σ H _ I h) fun v s1 ⟨x,H1,I1,r1,q1⟩=>?_
 refine thn (hb pins s1 σ H1 _ I1 q1) fun u s2 ⟨y,H2,I2,r2,q2⟩=>?_
 exact hf v u s2 x y H2 I2 r1 r2 q2
theorem Qcc {op:Operator} {r:R2} (ho:OpR X (binaryOp op) r) (ha:PE X a ta) (hb:PE X b tb):PE X (.BinOp a op b pos) (tOp r ta tb):=by
 intro pins s σ H Q I h
 exact wpAny_BinOp (Qam ha hb I h fun v u s2 x y H2 I2 rx ry q=>ho pins s2 σ H2 x y v u Q I2 rx ry q)
theorem Qcd {op:UnaryOp} {r:V->Hp->VK->Prop} (ho:UnR X (unaryOp op) r) (ha:PE X a ta):PE X (.UnaryOp op a pos) (tUn r ta):=by
 intro pins s σ H Q I h
 exact UnaryOp_ (thn (ha pins s σ H _ I h) fun v s1 ⟨x,H1,I1,r1,q1⟩=>ho pins s1 σ H1 x v Q I1 r1 q1)
theorem opI {f:Value->Value->Sem Value} {C:Int->Int->Prop} {g:Int->Int->Int}
  (rule:∀ (i j:Int) (t u:Tok) (s:Shared) (Q:Value->Shared->Prop) (E:Value->Shared->Prop),C i j->Q (.int (g i j) s.toks) { s with toks:=s.toks+1 }->wpAny (model X.prog X.w) X.A (f (.int i t) (.int j u)) Q E s) :
  OpR X f (rI C fun i j=>.int (g i j)):=by
 intro pins s σ H x y v u Q I rx ry h
 obtain ⟨i,j,rfl,rfl,hc,q⟩:=h
 obtain ⟨t,rfl⟩:=rx
 obtain ⟨t',rfl⟩:=ry
 exact rule i j t t' s _ _ hc ⟨.int (g i j),H,I.tok _,⟨_,rfl⟩,q⟩
theorem Qb0 {f:Value->Value->Sem Value} {g:Int->Int->Int}
  (rule:∀ (i j:Int) (t u:Tok) (s:Shared) (Q:Value->Shared->Prop) (E:Value->Shared->Prop),Q (.int (g i j) s.toks) { s with toks:=s.toks+1 }->wpAny (model X.prog X.w) X.A (f (.int i t) (.int j u)) Q E s) :
  OpR X f (rI0 fun i j=>.int (g i j)):=by
 intro pins s σ H x y v u Q I rx ry h
 obtain ⟨i,j,rfl,rfl,q⟩:=h
 obtain ⟨t,rfl⟩:=rx
 obtain ⟨t',rfl⟩:=ry
 exact rule i j t t' s _ _ ⟨.int (g i j),H,I.tok _,⟨_,rfl⟩,q⟩
theorem QaW {f:Value->Value->Sem Value} {g:Int->Int->Bool}
  (rule:∀ (i j:Int) (t u:Tok) (s:Shared) (Q:Value->Shared->Prop) (E:Value->Shared->Prop),Q (.bool (g i j)) s->wpAny (model X.prog X.w) X.A (f (.int i t) (.int j u)) Q E s) :
  OpR X f (rI0 fun i j=>.bl (g i j)):=by
 intro pins s σ H x y v u Q I rx ry h
 obtain ⟨i,j,rfl,rfl,q⟩:=h
 obtain ⟨t,rfl⟩:=rx
 obtain ⟨t',rfl⟩:=ry
 exact rule i j t t' s _ _ ⟨.bl (g i j),H,I,rfl,q⟩
def QcA (i j:Int):Prop:=0<=j/\j<=1000000/\i.natAbs < 2 ^ 64
def CMul (i j:Int):Prop:=(-(2 ^ 64) < i/\i < 2 ^ 64)∨(-(2 ^ 64) < j/\j < 2 ^ 64)
theorem CMul.ok {i j:Int} (h:CMul i j):IntMulOk i j:=by
 rcases h with ⟨h1,h2⟩ | ⟨h1,h2⟩
 ·exact .of_left (intBits_le_64 h1 h2)
 ·exact .of_right (intBits_le_64 h1 h2)
theorem QaX:OpR X (binaryOp .Add) (rI0 fun i j=>.int (i+j)):=Qb0 fun _ _ _ _ _ _ _ q=>add_int q
theorem Qa2:OpR X (binaryOp .Sub) (rI0 fun i j=>.int (i - j)):=Qb0 fun _ _ _ _ _ _ _ q=>sub_int q
theorem Qa0:OpR X (binaryOp .Mult) (rI CMul fun i j=>.int (i * j)):=opI fun _ _ _ _ _ _ _ hc q=>mul_int q hc.ok
theorem QaZ:OpR X (binaryOp .Mod) (rI (fun _ j=>0 < j) fun i j=>.int (i % j)):=opI fun i j _ _ _ _ _ hc q=>by
 have h1:(0:Int) < j:=hc
 exact mod_int' (by omega) (by rw [Int.fmod_eq_emod_of_nonneg i (by omega)];exact q)
theorem Qa1:OpR X (binaryOp .Pow) (rI QcA fun i j=>.int (i ^ j.toNat)):=opI fun _ _ _ _ _ _ _ hc q=>pow_int_small hc.1 hc.2.1 hc.2.2 q
theorem unI {f:Value->Sem Value} {g:Int->Int}
  (rule:∀ (i:Int) (t:Tok) (s:Shared) (Q:Value->Shared->Prop) (E:Value->Shared->Prop),Q (.int (g i) s.toks) { s with toks:=s.toks+1 }->wpAny (model X.prog X.w) X.A (f (.int i t)) Q E s) :
  UnR X f (rU fun i=>.int (g i)):=by
 intro pins s σ H x v Q I rx h
 obtain ⟨i,rfl,q⟩:=h
 obtain ⟨t,rfl⟩:=rx
 exact rule i t s _ _ ⟨.int (g i),H,I.tok _,⟨_,rfl⟩,q⟩
theorem Qby:UnR X (unaryOp .USub) (rU fun i=>.int (-i)):=unI fun _ _ _ _ _ q=>neg_int q
end
section
variable {X:Cx} {a b c:Expr} {ta tb tc:TE} {pos:Pos}
theorem GY {pins:List (Addr×Obj)} {σ:St} {H:Hp} {s:Shared} {Q:VK} {k k':Bool} (I:Inv X pins σ H s) (q:Q (.bl k) H) (e:k=k'):EP X pins σ Q (.bool k') s:=by
 subst e
 exact ⟨.bl k,H,I,rfl,q⟩
theorem Qb3:OpR X (compareOp .Lt) (rI0 fun i j=>.bl (decide (i < j))):=QaW fun _ _ _ _ _ _ _ q=>lt_int q
theorem Qb2:OpR X (compareOp .LtE) (rI0 fun i j=>.bl (decide (i<=j))):=QaW fun _ _ _ _ _ _ _ q=>le_int q
theorem Qb1:OpR X (compareOp .Gt) (rI0 fun i j=>.bl (decide (j < i))):=QaW fun _ _ _ _ _ _ _ q=>gt_int q
theorem QaY:OpR X (compareOp .Is) (fun x y H Q=>y=.non/\Q (.bl (decide (x=.non))) H):=by
 intro pins s σ H x y v u Q I rx ry h
 obtain ⟨rfl,q⟩:=h
 cases ry
 refine is_none_gen (GY I q ?_)
 cases x<;>first
  | (cases rx;rfl)
  | (obtain ⟨t,rfl⟩:=rx;rfl)
theorem gF:OpR X (compareOp .IsNot) (fun x y H Q=>y=.non/\Q (.bl (!decide (x=.non))) H):=by
 intro pins s σ H x y v u Q I rx ry h
 obtain ⟨rfl,q⟩:=h
 cases ry
 refine isnot_none_gen (GY I q ?_)
 cases x<;>first
  | (cases rx;rfl)
  | (obtain ⟨t,rfl⟩:=rx;rfl)
theorem QJ (b:Expr) {op:CmpOp} (h:op≠.In:=by decide) (h2:op≠.NotIn:=by decide):behindInMarks op b=false:=by
 have e1:(op==CmpOp.In)=false:=by cases op<;>first | rfl | exact absurd rfl h
 have e2:(op==CmpOp.NotIn)=false:=by cases op<;>first | rfl | exact absurd rfl h2
 cases b<;>simp [behindInMarks,e1,e2]
theorem gJ {op:CmpOp} {r:R2} (ho:OpR X (compareOp op) r) (ha:PE X a ta) (hb:PE X b tb) (hm:behindInMarks op b=false):PE X (.Compare a [op] [b] pos) (tOp r ta tb):=by
 intro pins s σ H Q I h
 exact wpAny_Compare1 (Qam ha hb I h fun v u s2 x y H2 I2 rx ry q=>ho pins s2 σ H2 x y v u Q I2 rx ry q) hm
def Qah (t:TE):TT:=fun σ H Q=>t σ H fun x H'=>∃ k,x=.bl k/\Q k H'
theorem gZ {op:CmpOp} {r:R2} (ho:OpR X (compareOp op) r) (ha:PE X a ta) (hb:PE X b tb) (hm:behindInMarks op b=false):PT X (.Compare a [op] [b] pos) (Qah (tOp r ta tb)):=by
 intro pins s σ H Q I h
 refine wpAny_isTrue_Compare1 (thn (ha pins s σ H _ I h) fun v s1 ⟨x,H1,I1,r1,q1⟩=>thn (hb pins s1 σ H1 _ I1 q1) fun u s2 ⟨y,H2,I2,r2,q2⟩ =>
  thn (ho pins s2 σ H2 x y v u _ I2 r1 r2 q2) fun c s3 ⟨z,H3,I3,r3,k,e,q3⟩=>?_) hm
 subst e
 cases r3
 exact wpAny_truthy_bool ⟨H3,I3,q3⟩
def uj (r r':R2) (ta tb tc:TE):TE:=fun σ H Q=>ta σ H fun x H1=>tb σ H1 fun y H2=>r x y H2 fun z H3=>∃ k,z=.bl k /\
 (if k=true then tc σ H3 fun w' H4=>r' y w' H4 Q else Q (.bl false) H3)
theorem vP {op op':CmpOp} {r r':R2} (ho:OpR X (compareOp op) r) (ho':OpR X (compareOp op') r') (ha:PE X a ta) (hb:PE X b tb) (hc:PE X c tc)
    (hm:lastMarks [op,op'] [b,c]=false:=by with_unfolding_all rfl):PT X (.Compare a [op,op'] [b,c] pos) (Qah (uj r r' ta tb tc)):=by
  intro pins s σ H Q I h
  refine isTrue_chain (thn (ha pins s σ H _ I h) fun v s1 ⟨x,H1,I1,r1,q1⟩=>test_link (thn (hb pins s1 σ H1 _ I1 q1) fun u s2 ⟨y,H2,I2,r2,q2⟩ =>
    thn (ho pins s2 σ H2 x y v u _ I2 r1 r2 q2) fun d s3 ⟨z,H3,I3,r3,k,e,q3⟩=>?_)) hm
  subst e
  cases r3
  refine wpAny_truthy_bool ?_
  cases k with
  | false =>
    obtain ⟨k',e',q'⟩:=q3
    cases e'
    exact ite_ff ⟨H3,I3,q'⟩
  | true =>
    refine ite_tt (test_last (thn (hc pins s3 σ H3 _ I3 q3) fun w' s4 ⟨z',H4,I4,r4,q4⟩=>thn (ho' pins s4 σ H4 y z' u w' _ I4 r2 r4 q4) fun d' s5 ⟨z2,H5,I5,r5,k2,e2,q5⟩=>?_))
    subst e2
    cases r5
    exact wpAny_truthy_bool ⟨H5,I5,q5⟩
theorem xL:(sizeLine:Nat) < 2 ^ 63:=by rw [sizeLine_eq];decide
theorem YR {x:V} {us:List Value} (r:Vals [x] us):∃ u,us=[u]/\RelV x u:=by
 cases r with
 | cons r1 r2=>cases r2;exact ⟨_,rfl,r1⟩
theorem Vo {x y:V} {us:List Value} (r:Vals [x,y] us):∃ u w',us=[u,w']/\RelV x u/\RelV y w':=by
  cases r with
  | cons r1 r2 =>
    cases r2 with
    | cons r3 r4=>cases r4;exact ⟨_,_,rfl,r1,r3⟩
theorem Ku (hc:X.calm=true):Zy X (.builtin "min") (fun xs H Q=>∃ i j,xs=[.int i,.int j]/\Q (.int (if j < i then j else i)) H):=by
 intro pins s σ H xs us Q I r h
 obtain ⟨i,j,rfl,q⟩:=h
 obtain ⟨u,w',rfl,⟨t,rfl⟩,⟨t',rfl⟩⟩:=Vo r
 refine min_two_ints (I.ok.hd hc) fun h' tk k=>⟨_,H,I.kept k,?_,q⟩
 by_cases hj:j < i
 ·rw [if_pos hj,if_pos hj];exact ⟨_,rfl⟩
 ·rw [if_neg hj,if_neg hj];exact ⟨_,rfl⟩
end
end L2
namespace L2
open PySem PySem.Spec PyProof.Rows
structure ObjM (h:Heap) (x dx C:Addr) (mA:Str->Option Value):Prop where
 obj:h.get? x=some (PySem.W.instObj C dx)
 ns:h.Ns1 dx mA
 ne:dx≠x
theorem KN {h:Heap} {dx:Addr} {mA:Str->Option Value} (n:h.Ns1 dx mA):∃ od,h.get? dx=some od/\∀ name,PySem.W.lookIn name od=some (mA name):=by
 obtain ⟨o,es,ep,ho,hd,hk,_,hm⟩:=n
 refine ⟨o,ho,fun name=>?_⟩
 have e:=hm name
 unfold nsFind findBy at e
 rw [<- Array.find?_toList] at e
 unfold PySem.W.lookIn
 rw [hd]
 dsimp only
 split
 ·rename_i y q
  rw [q] at e
  exact congrArg some e
 ·rename_i q
  rw [q] at e
  have a:es.toList.any (·.refKey)=false:=by
   rw [List.any_eq_false]
   intro y hy
   obtain ⟨z,t,hkey⟩:=hk y (Array.mem_toList_iff.mp hy)
   simp [DictEntry.refKey,hkey]
  have a':¬ es.toList.any (·.refKey)=true:=by rw [a];exact Bool.false_ne_true
  rw [if_neg a']
  exact congrArg some e
theorem ObjM.look {h:Heap} {x dx C:Addr} {mA:Str->Option Value} (I:ObjM h x dx C mA):∃ od,PySem.W.InstAt h x (PySem.W.instObj C dx) C (some od)/\∀ name,PySem.W.lookIn name od=some (mA name) :=
 let ⟨od,ho,hl⟩:=KN I.ns
 ⟨od,⟨I.obj,rfl,rfl,ho⟩,hl⟩
section
variable {prog:Program} {w:World} {A:Around} {E:Value->Shared->Prop} {s:Shared} {K:PySem.W.Frag} {x dx C f:Addr} {mA:Str->Option Value} {name:Str} {v:Value}
theorem ga {expr:Bool} {Q:Value->Shared->Prop} (X:K.In s.heap) (I:ObjM s.heap x dx C mA) (hg:PySem.W.plainGet K C name=true) (hh:PySem.W.hasDictIn K C=true)
  (ha:PySem.W.findIn K (.ref C) name=some none) (hv:mA name=some v) (hv':PySem.W.handedIn v=true) (h:Q v { s with toks:=s.toks+1 }) :
  wpAny (model prog w) A (getAttr (.ref x) name expr) Q E s:=by
 obtain ⟨od,J,hl⟩:=I.look
 exact PySem.W.get_value X J (PySem.W.plainGet_of hg).1 (PySem.W.findObj_own hh ha rfl (by rw [hl,hv])) hv' h
theorem G4 {pl:Sem Bool} {Q:Value×List Value->Shared->Prop} (X:K.In s.heap) (I:ObjM s.heap x dx C mA) (hg:PySem.W.plainGet K C name=true)
  (hf:PySem.W.findIn K (.ref C) name=some (some (.ref f))) (ht:PySem.W.isFn K (.ref f)=true) (hv:mA name=none) (h:Q (.ref f,[.ref x]) s) :
  wpAny (model prog w) A (getMethod (.ref x) name pl) Q E s:=by
 obtain ⟨od,J,hl⟩:=I.look
 exact PySem.W.method_fn X J (PySem.W.plainGet_of hg).1 (PySem.W.plainGet_of hg).2 hf (beq_iff_eq.mp ht) (by show (PySem.W.lookIn name od).map (·.isSome)=some false;rw [hl,hv];rfl) h
theorem kB {ns:List Str} {Q:Unit->Shared->Prop} (X:K.In s.heap) (I:ObjM s.heap x dx C mA)
  (hs:PySem.W.findIn K (.ref C) "__setattr__" = some (some (.builtin "object.__setattr__"))) (hp:PySem.W.plainOver K C=true) (ht:PySem.W.takerIn K C name=some none) (hh:PySem.W.hasDictIn K C=true)
  (hw:PySem.Within mA ns) (hsz:ns.length<=sizeLine)
  (h:∀ h',ObjM h' x dx C (fun y=>if y=name then some v else mA y)->Heap.SameBut dx s.heap h'->Q () { s with heap:=h',toks:=s.toks+2 }) :
  wpAny (model prog w) A (setAttr (.ref x) name v) Q E s:=by
 obtain ⟨od,J,hl⟩:=I.look
 refine PySem.W.set_plain X J hs (PySem.W.osa_open (s:={ s with toks:=s.toks+1 }) (r:=none) X J hp ht fun b=>?_)
 obtain ⟨cd,hc,hd'⟩:=PySem.W.any_some hh
 have hx:s.heap.get? x=some ⟨.ref C,some dx,.plain,#[]⟩:=I.obj
 refine wpAny_bind (wpAny_pure (wpAny_bind (wpAny_bind (wpAny_loadPart hx (wpAny_bind (PySem.W.Looks.here (s:={ s with toks:=s.toks+1 }) (PySem.W.looks_clsIn X hc) ?_))))))
 rw [hd']
 refine wpAny_pure (a:=some dx) (wpAny_bind (wpAny_pure (wpAny_bind ?_)))
 refine wpAny_nsSet1 (s:={ s with toks:=s.toks+1 }) I.ns fun h' hn2 hs2=>?_
 obtain ⟨oD,esD,epD,hoD,hdD,hcD⟩:=hn2.count (PySem.Within.cons name v hw)
 refine wpAny_bind (wpAny_lookBehind hoD (by rw [hdD];exact pastItsLine_dict (Nat.le_trans hcD (by rw [List.length_cons];omega))) ?_)
 exact wpAny_pure (h _ ⟨(hs2.2 _ (Ne.symm I.ne)).trans I.obj,hn2,I.ne⟩ hs2)
theorem vr {R:Result->Shared->Prop} {vs:List Value} {kw:List (Str×Value)} (X:K.In s.heap) (hm:PySem.W.makesIn K C=true)
  (hi:PySem.W.findIn K (.ref C) "__init__" = some (some (.ref f))) (hf:PySem.W.typeIn K (.ref f)=some (.type "function"))
  (h:codeAny (model prog w) (A.under (.builtin "type.__call__" ⟨.ref C::vs,kw⟩)) (.call (.ref f) ⟨.ref (s.heap.objs.size+1)::vs,kw⟩) (PySem.W.InitBack (s.heap.objs.size+1) R)
   { s with heap:=(s.heap.push PySem.W.emptyDict).push (PySem.W.instObj C s.heap.objs.size) }) :
  codeAny (model prog w) A (.call (.ref C) ⟨vs,kw⟩) R s:=by
 obtain ⟨hh,g,d,t,os⟩:=s
 exact PySem.W.make_core (PySem.W.makes_of X hm) (PySem.W.looks_findIn X hi) (fun self=>PySem.W.bind_fn X self hf) (.inl rfl) h
end
def JF (f:Str) (v:V):List (Str×V)->List (Str×V)
 | []=>[(f,v)]
 | (g,x)::r=>if g=f then (g,v)::r else (g,x)::JF f v r
theorem ql (f g:Str) (v:V):∀ fs:List (Str×V),(JF f v fs).lookup g=if g=f then some v else fs.lookup g
  | []=>by
    show List.lookup g [(f,v)]=_
    by_cases h:g=f
    . have hb:(g==f)=true:=beq_iff_eq.mpr h
      simp only [List.lookup,hb,if_pos h]
    . have hb:(g==f)=false:=beq_eq_false_iff_ne.mpr h
      simp only [List.lookup,hb,if_neg h]
  | (k,x)::r=>by
    have ih:=ql f g v r
    rw [show JF f v ((k,x)::r)=(if k=f then (k,v)::r else (k,x)::JF f v r) from rfl]
    by_cases hk:k=f
    . rw [if_pos hk]
      by_cases h:g=k
      . have hb:(g==k)=true:=beq_iff_eq.mpr h
        simp only [List.lookup,hb,if_pos (h.trans hk)]
      . have hb:(g==k)=false:=beq_eq_false_iff_ne.mpr h
        simp only [List.lookup,hb,if_neg (fun e:g=f=>h (e.trans hk.symm))]
    . rw [if_neg hk]
      by_cases h:g=k
      . have hb:(g==k)=true:=beq_iff_eq.mpr h
        simp only [List.lookup,hb,if_neg (fun e:g=f=>hk (h.symm.trans e))]
      . have hb:(g==k)=false:=beq_eq_false_iff_ne.mpr h
        simp only [List.lookup,hb]
        exact ih
theorem Y4 (f:Str) (v:V):∀ fs:List (Str×V),f∈(JF f v fs).map (·.1)/\∀ g,g∈fs.map (·.1)->g∈(JF f v fs).map (·.1)
  | []=>⟨by simp [JF],fun g h=>by simp at h⟩
  | (k,x)::r=>by
    obtain ⟨i1,i2⟩:=Y4 f v r
    rw [show JF f v ((k,x)::r)=(if k=f then (k,v)::r else (k,x)::JF f v r) from rfl]
    by_cases hk:k=f
    . rw [if_pos hk]
      subst hk
      exact ⟨by simp,fun g h=>by simpa using h⟩
    . rw [if_neg hk]
      refine ⟨?_,fun g h=>?_⟩
      . rw [List.map_cons]
        exact List.mem_cons_of_mem _ i1
      . rw [List.map_cons] at h ⊢
        rcases List.mem_cons.mp h with e | e
        . exact List.mem_cons.mpr (.inl e)
        . exact List.mem_cons_of_mem _ (i2 g e)
theorem qk (f:Str) (v:V):∀ fs:List (Str×V),(JF f v fs).length<=fs.length+1
  | []=>by simp [JF]
  | (k,x)::r=>by
    have ih:=qk f v r
    rw [show JF f v ((k,x)::r)=(if k=f then (k,v)::r else (k,x)::JF f v r) from rfl]
    by_cases hk:k=f
    . rw [if_pos hk,List.length_cons,List.length_cons];omega
    . rw [if_neg hk,List.length_cons,List.length_cons];omega
theorem RelO.some_of {v:V} {o:Option Value} (r:RelO (some v) o):∃ u,o=some u/\RelV v u:=by
 cases o with
 | none=>exact (show False from r).elim
 | some u=>exact ⟨u,rfl,r⟩
theorem RelO.none_of {o:Option Value} (r:RelO none o):o=none:=by
 cases o with
 | none=>rfl
 | some u=>exact (show False from r).elim
theorem KD {v:V} {u:Value} (r:RelV v u):PySem.W.handedIn u=true:=by
 cases v with
 | non=>cases (show u=Value.none from r);rfl
 | bl b=>cases (show u=Value.bool b from r);rfl
 | int i=>obtain ⟨t,e⟩:=(show ∃ t,u=Value.int i t from r);cases e;rfl
 | str x=>obtain ⟨t,e⟩:=(show ∃ t,u=Value.str x t from r);cases e;rfl
 | byt b=>obtain ⟨t,e⟩:=(show ∃ t,u=Value.bytes b t from r);cases e;rfl
 | flt b=>obtain ⟨t,e⟩:=(show ∃ t,u=Value.float b t from r);cases e;rfl
 | ref a=>cases (show u=Value.ref a from r);rfl
 | ty n=>cases (show u=Value.type n from r);rfl
section
variable {P:Program} {w:World} {H H':Hp} {h h':Heap} {a C dx:Addr} {fs fs':List (Str×V)}
theorem xG (hok:HOk P w H h) (e:H a=some (.ins C dx fs)):∃ mA,ObjM h a dx C mA/\(∀ f,RelO (fs.lookup f) (mA f))/\PySem.Within mA (fs.map (·.1))/\fs.length<=1000/\H dx=some (.own a):=by
 obtain ⟨d,z,ne,ob,mA,n,r,q⟩:=(show ObjOk P w H h a (.ins C dx fs) from hok a _ e)
 exact ⟨mA,⟨ob,n,ne⟩,r,q,z,d⟩
end
structure Cls (K:PySem.W.Frag) (C:Addr):Prop where
 pg:PySem.W.plainGet K C Str.empty=true
 hd:PySem.W.hasDictIn K C=true
 po:PySem.W.plainOver K C=true
 sa:PySem.W.findIn K (.ref C) "__setattr__" = some (some (.builtin "object.__setattr__"))
theorem Cls.get {K:PySem.W.Frag} {C:Addr} (c:Cls K C) (f:Str):PySem.W.plainGet K C f=true:=c.pg
def NoAttr (K:PySem.W.Frag) (C:Addr) (f:Str):Prop:=PySem.W.findIn K (.ref C) f=some none
theorem NoAttr.taker {K:PySem.W.Frag} {C:Addr} {f:Str} (n:NoAttr K C f):PySem.W.takerIn K C f=some none:=by
 unfold PySem.W.takerIn
 rw [show PySem.W.findIn K (.ref C) f=some none from n]
 rfl
structure Vt (K:PySem.W.Frag) (C:Addr) (m:Str) (f:Addr):Prop where
 at_:PySem.W.findIn K (.ref C) m=some (some (.ref f))
 fn:PySem.W.isFn K (.ref f)=true
 kp:PySem.W.keepIn K (.ref f)=true
section
variable {X:Cx} {pins:List (Addr×Obj)} {σ:St} {H:Hp} {s:Shared} {a C dx:Addr} {fs:List (Str×V)} {f:Str} {v:V} {A:Around} {E:Value->Shared->Prop}
theorem VM {b:Bool} {Q:Value->Shared->Prop} (I:Inv X pins σ H s) (e:H a=some (.ins C dx fs)) (c:Cls X.K C) (n:NoAttr X.K C f) (l:fs.lookup f=some v)
  (h:∀ u s',Inv X pins σ H s'->RelV v u->Q u s'):wpAny (model X.prog X.w) A (getAttr (.ref a) f b) Q E s:=by
 obtain ⟨mA,O,r,_,_,_⟩:=xG I.hok e
 obtain ⟨u,hu,ru⟩:=RelO.some_of (v:=v) (o:=mA f) (by rw [<- l];exact r f)
 exact ga I.kIn O (c.get f) c.hd n hu (KD ru) (h u _ (I.tok _) ru)
theorem X9 {m:Str} {g:Addr} {pl:Sem Bool} {Q:Value×List Value->Shared->Prop} (I:Inv X pins σ H s) (e:H a=some (.ins C dx fs)) (c:Cls X.K C) (k:Vt X.K C m g) (l:fs.lookup m=none)
  (h:Q (.ref g,[.ref a]) s):wpAny (model X.prog X.w) A (getMethod (.ref a) m pl) Q E s:=by
 obtain ⟨mA,O,r,_,_,_⟩:=xG I.hok e
 have hn:mA m=none:=RelO.none_of (by rw [<- l];exact r m)
 exact G4 I.kIn O (c.get m) k.at_ k.fn hn h
theorem V6 {y:V} {u:Value} {Q:Unit->Shared->Prop} (I:Inv X pins σ H s) (e:H a=some (.ins C dx fs)) (c:Cls X.K C) (n:NoAttr X.K C f) (hl:fs.length < 1000) (ry:RelV y u)
  (h:∀ s',Inv X pins σ (upd H a (.ins C dx (JF f y fs))) s'->Q () s'):wpAny (model X.prog X.w) A (setAttr (.ref a) f u) Q E s:=by
 obtain ⟨mA,O,r,wi,_,ho⟩:=xG I.hok e
 have hz:(fs.map (·.1)).length<=sizeLine:=by rw [List.length_map,sizeLine_eq];omega
 refine kB I.kIn O c.sa c.po n.taker c.hd wi hz fun h' O' sb=>h _ ?_
 have hd:∃ o,h'.get? dx=some o:=let ⟨o,_,_,e',_⟩:=O'.ns;⟨o,e'⟩
 refine I.write (x:=a) (e:=dx) (by rw [e];exact True.intro) (.inr ho) (fun b q hb z=>(sb.2 b hb).trans z) hd ?_
 refine ⟨by rw [QH O.ne];exact ho,?_,O.ne,O'.obj,_,O'.ns,fun g=>?_,fun g hg=>?_⟩
 ·have:=qk f y fs;omega
 ·show RelO ((JF f y fs).lookup g) (if g=f then some u else mA g)
  rw [ql]
  by_cases q:g=f
  ·rw [if_pos q,if_pos q];exact ry
  ·rw [if_neg q,if_neg q];exact r g
 ·by_cases q:g=f
  ·rw [q];exact (Y4 f y fs).1
  ·refine (Y4 f y fs).2 g (wi g fun z=>hg ?_)
   show (if g=f then some u else mA g)=none
   rw [if_neg q];exact z
theorem Inv.made (I:Inv X pins σ H s):Inv X pins σ (upd (upd H s.heap.objs.size (.own (s.heap.objs.size+1))) (s.heap.objs.size+1) (.ins C s.heap.objs.size []))
  { s with heap:=(s.heap.push PySem.W.emptyDict).push (PySem.W.instObj C s.heap.objs.size) }:=by
 have e1:(s.heap.push PySem.W.emptyDict).get? s.heap.objs.size=some PySem.W.emptyDict:=Heap.get?_push_size s.heap rfl
 have e2:((s.heap.push PySem.W.emptyDict).push (PySem.W.instObj C s.heap.objs.size)).get? (s.heap.objs.size+1)=some (PySem.W.instObj C s.heap.objs.size):=by
  have:=Heap.get?_push_size (s.heap.push PySem.W.emptyDict) (o:=PySem.W.instObj C s.heap.objs.size) rfl
  rwa [Heap.size_push] at this
 have e3:(s.heap.push PySem.W.emptyDict).Ns s.heap.objs.size (fun _=>none):=⟨PySem.W.emptyDict,#[],_,e1,rfl,(fun e he=>absurd he (by simp)),fun _=>rfl⟩
 have I1:=I.laid (a:=s.heap.objs.size) (o:=.own (s.heap.objs.size+1)) (h':=s.heap.push PySem.W.emptyDict) (t':=s.toks) (fun b u q=>Heap.get?_push_of_some _ q) (Nat.le_refl _) ⟨_,e1⟩
 refine I1.laid (a:=s.heap.objs.size+1) (o:=.ins C s.heap.objs.size []) (t':=s.toks) (fun b u q=>Heap.get?_push_of_some _ q) (Nat.le_of_eq (Heap.size_push _ _)) ?_
 have ne:s.heap.objs.size≠s.heap.objs.size+1:=Nat.ne_of_lt (Nat.lt_succ_self _)
 refine ⟨by rw [QH ne,QI],Nat.zero_le _,ne,e2,fun _=>none,(Heap.Ns1.of_empty e3).at fun o q=>Heap.get?_push_of_some _ q,fun _=>True.intro,fun y hy=>absurd rfl hy⟩
theorem uI {prog:Program} {w:World} {env:Env} {e:Expr} {f:Str} {pos:Pos} {s:Shared} {Q:Value->Shared->Prop} (hb:attributeBase e f env (eval e env)=eval e env)
  (h:wpAny (model prog w) A (eval e env) (fun o s₁=>wpAny (model prog w) A (getAttr o f true) Q E s₁) E s):wpAny (model prog w) A (eval (.Attribute e f pos) env) Q E s :=
 Attribute_any_ h (by rw [arm_eval_Attribute,hb])
end
def QcX (K:PySem.W.Frag) (ta:TE) (f:Str):TE:=fun σ H Q=>ta σ H fun x H1=>∃ a C dx fs v,x=.ref a/\H1 a=some (.ins C dx fs)/\Cls K C/\NoAttr K C f/\fs.lookup f=some v/\Q v H1
def QcU (K:PySem.W.Frag) (ta tv:TE) (f:Str):TS:=fun D σ H=>tv σ H fun y H1=>ta σ H1 fun x H2=>∃ a C dx fs,x=.ref a/\H2 a=some (.ins C dx fs)/\Cls K C/\NoAttr K C f/\fs.length < 1000 /\
 D.nx σ (upd H2 a (.ins C dx (JF f y fs)))
section
variable {X:Cx} {o e value:Expr} {f:Str} {pos pos' tpos:Pos} {ta tv:TE}
theorem Qa6 (he:PE X e ta) (hb:attributeBase e f X.env (eval e X.env)=eval e X.env):PE X (.Attribute e f pos) (QcX X.K ta f):=by
 intro pins s σ H Q I h
 refine uI hb (thn (he pins s σ H _ I h) fun u s1 ⟨x,H1,I1,rx,a,C,dx,fs,v,ex,ea,c,n,l,q⟩=>?_)
 subst ex
 obtain rfl:u=Value.ref a:=rx
 exact VM I1 ea c n l fun u' s2 I2 ru=>⟨v,H1,I2,ru,q⟩
theorem Qbh (ha:PE X o ta) (hv:PE X value tv) (hs:swapsWith value (some (.Attribute o f pos')) pos.line X.env=pure false):PS X (.Assign [.Attribute o f pos'] value pos) (QcU X.K ta tv f):=by
 intro pins s σ H D I h
 refine plainObj_wpAny_Assign_Attribute (thn (hv pins s σ H _ I h) fun u s1 ⟨y,H1,I1,ry,q⟩=>thn (ha pins s1 σ H1 _ I1 q) fun ov s2 ⟨x,H2,I2,rx,a,C,dx,fs,ex,ea,c,n,l,q2⟩=>?_) hs
 subst ex
 obtain rfl:ov=Value.ref a:=rx
 exact V6 I2 ea c n l ry fun s3 I3=>⟨σ,_,I3,q2⟩
theorem k5 {pl:Sem Bool} {m:Str} {apos:Pos} {args:List Expr} {pins:List (Addr×Obj)} {s:Shared} {σ:St} {H:Hp} {Q:Value->Shared->Prop} {te:TE} (he:PE X e te) (I:Inv X pins σ H s)
  (h:te σ H fun x H1=>∃ a C dx fs g,x=.ref a/\H1 a=some (.ins C dx fs)/\Cls X.K C/\Vt X.K C m g/\fs.lookup m=none /\
   ∀ s1,Inv X pins σ H1 s1->wpAny (model X.prog X.w) X.A (callWith pos (.ref g) [.ref a] (backTo pos (starEach args X.env)) (backToKw pos (keywordEach [] X.env))) Q X.xe s1)
  (ht:eval (.Call (.Attribute e m apos) args [] pos) X.env=(do
   let ov <- eval e X.env
   standAt apos.atName
   let (f,first) <- holding [ov] (getMethod ov m pl)
   callWith pos f first (backTo pos (starEach args X.env)) (backToKw pos (keywordEach [] X.env)))) :
  wpAny (model X.prog X.w) X.A (eval (.Call (.Attribute e m apos) args [] pos) X.env) Q X.xe s:=by
 refine PySem.W.methodCall_KW (pl:=pl) (thn (he pins s σ H _ I h) fun u s1 ⟨x,H1,I1,rx,a,C,dx,fs,g,ex,ea,c,k,l,q⟩=>?_) ht
 subst ex
 obtain rfl:u=Value.ref a:=rx
 exact X9 I1 ea c k l (q s1 I1)
end
section
variable {X:Cx} {pins:List (Addr×Obj)} {σ:St} {H:Hp} {s:Shared} {A:Around} {E:Value->Shared->Prop} {Q:Value->Shared->Prop} {c:Value} {b:Bool}
end
end L2
namespace L2
open PySem PySem.Spec PyProof.Rows
structure Room (k:Nat) (A:Around):Prop where
 hd:A.handled=none
 dp:A.depth+3 * k+5 < recursionLimit
 un:A.units+16 * k+200 < cLine
theorem Room.mono {j k:Nat} {A:Around} (r:Room k A) (h:j<=k):Room j A:=⟨r.hd,by have:=r.dp;omega,by have:=r.un;omega⟩
theorem Room.deeper {k:Nat} {A:Around} (r:Room (k+1) A) (env:Env):Room k (A.deeper env) :=
 ⟨r.hd,by have:=r.dp;show A.depth+1+3 * k+5 < _;omega,by have:=r.un;show A.units+3+16 * k+200 < _;omega⟩
theorem VO {A:Around} {C:Addr} {us:List Value} {kw:List (Str×Value)}:(A.under (.builtin "type.__call__" ⟨.ref C::us,kw⟩)).depth=A.depth+1:=by
 first | rfl | simp [Around.under,Code.weight,Code.isCreation,Code.isGuard,Code.isCaller,Code.frames,Code.isFrame,guardIds]
theorem VP {A:Around} {C:Addr} {us:List Value} {kw:List (Str×Value)}:(A.under (.builtin "type.__call__" ⟨.ref C::us,kw⟩)).units=A.units+1:=by
 first | rfl | simp [Around.under,Code.cUnits,Code.frames,Code.isFrame]
theorem Room.make {k:Nat} {A:Around} (r:Room (k+1) A) (C:Addr) (us:List Value) (kw:List (Str×Value)):Room k (A.under (.builtin "type.__call__" ⟨.ref C::us,kw⟩)) :=
 ⟨r.hd,by have:=r.dp;rw [VO];omega,by have:=r.un;rw [VP];omega⟩
theorem Room.depth {k:Nat} {A:Around} (r:Room k A):A.depth < recursionLimit:=by have:=r.dp;omega
theorem Room.units {k:Nat} {A:Around} (r:Room k A):A.units+64 < cLine:=by have:=r.un;omega
def Qcu:TA:=fun _ H Q=>Q [] H
def Qcs (ta:TE) (tr:TA):TA:=fun σ H Q=>ta σ H fun x H1=>tr σ H1 fun xs H2=>Q (x::xs) H2
section
variable {X:Cx} {e:Expr} {es:List Expr} {te:TE} {t:TA} {pos:Pos}
theorem pa_nil:PA X [] Qcu:=fun _ _ _ _ H Q I h=>Calls.spliced_nil ⟨[],H,I,.nil,h⟩
theorem XN (ha:PE X e te) (hr:PA X es t) (hs:starEach (e::es) X.env=(false,eval e X.env)::starEach es X.env:=by rfl):PA X (e::es) (Qcs te t):=by
 intro pos pins s σ H Q I h
 rw [hs]
 show wpAny _ _ (spliced ((false,eval e X.env)::backTo pos (starEach es X.env))) _ _ s
 refine Calls.spliced_cons (thn (ha pins s σ H _ I h) fun u s1 ⟨x,H1,I1,r1,q1⟩=>?_)
 exact thn (hr pos pins s1 σ H1 _ I1 q1) fun us s2 ⟨xs,H2,I2,r2,q2⟩=>⟨x::xs,H2,I2,.cons r1 r2,q2⟩
def Qc3 (t:TA):TE:=fun σ H Q=>t σ H fun xs H1=>xs.length<=sizeLine/\∀ p,H1 p=none->Q (.ref p) (upd H1 p (.tup xs))
def Qc0 (t:TA):TE:=fun σ H Q=>t σ H fun xs H1=>xs.length<=sizeLine/\∀ p,H1 p=none->Q (.ref p) (upd H1 p (.lst xs))
theorem Qbc {x1} (h:PA X es t):PE X (.Tuple es x1 pos) (Qc3 t):=by
 intro pins s σ H Q I hq
 refine wpAny_Tuple_spliced (thn (h pos pins s σ H _ I hq) fun us s1 ⟨xs,H1,I1,r,z,q⟩=>⟨by rw [<- r.length];exact z,?_⟩)
 have hf:H1 s1.heap.objs.size=none:=I1.hok.fresh (Nat.le_refl _)
 refine ⟨.ref s1.heap.objs.size,upd H1 s1.heap.objs.size (.tup xs),I1.laid (t':=s1.toks) (fun b u e=>Heap.get?_push_of_some _ e) (Nat.le_refl _) ?_,rfl,q _ hf⟩
 exact ⟨z,us,r,⟨_,Heap.get?_push_size _ rfl,rfl,_,rfl⟩⟩
theorem VW (h:PA X es t):PE X (.List es pos) (Qc0 t):=by
 intro pins s σ H Q I hq
 refine wpAny_List_spliced (thn (h pos pins s σ H _ I hq) fun us s1 ⟨xs,H1,I1,r,z,q⟩=>⟨by rw [<- r.length];exact z,?_⟩)
 have hf:H1 s1.heap.objs.size=none:=I1.hok.fresh (Nat.le_refl _)
 refine ⟨.ref s1.heap.objs.size,upd H1 s1.heap.objs.size (.lst xs),I1.laid (t':=s1.toks) (fun b u e=>Heap.get?_push_of_some _ e) (Nat.le_refl _) ?_,rfl,q _ hf⟩
 exact ⟨z,us,0,r,Heap.get?_push_size _ rfl⟩
end
abbrev Sp:=List V->Hp->VK->XK->Prop
abbrev CXT:=List Env->Hp->Shared->XK->Value->Shared->Prop
structure Env0 (P:Program) (w:World) (K:PySem.W.Frag) (mg:Str->Option Value) (base:Heap) (A:Around) (outer:List Env) (s:Shared) (H:Hp):Prop where
 frames:A.frames=some outer
 mod:Mod K mg base
 bs:∀ b o,base.get? b=some o->s.heap.get? b=some o/\H b=none
 bsz:base.objs.size<=s.heap.objs.size
 funs:s.heap.FunFrames base outer
 frf:∀ b∈frs outer,H b=none
 hok:HOk P w H s.heap
 bare:AllBare s.gens
def CE (outer:List Env) (P:Program) (w:World) (H:Hp) (s:Shared) (Q:VK) (u:Value) (s':Shared):Prop :=
 ∃ v H',s'.os=s.os/\AllBare s'.gens/\Un (frs outer) [] H H' s.heap s'.heap/\HOk P w H' s'.heap/\RelV v u/\Q v H'
def CR (CX:CXT) (outer:List Env) (P:Program) (w:World) (H:Hp) (s:Shared) (Q:VK) (E:XK) (r:Result) (s':Shared):Prop :=
 match r with
 | .ok (.ret u)=>CE outer P w H s Q u s'
 | .ok _=>False
 | .error e=>CX outer H s E e s'
structure Xc (P:Program) (w:World) (K:PySem.W.Frag) (mg:Str->Option Value) (base:Heap) (CX:CXT) (k:Nat) (f:Addr) (fd:FuncData) (ps:List Str) (sp:Sp):Prop where
 len:∀ vs H Q E,sp vs H Q E->vs.length=ps.length
 run:∀ (A:Around) (outer:List Env) (s:Shared) (H:Hp) (args:Args) (us:List Value) (vs:List V) (Q:VK) (E:XK),Room k A->Env0 P w K mg base A outer s H->BindsTo s fd args (ps.zip us)->Vals vs us->sp vs H Q E ->
  codeAny (model P w) A (.call (.ref f) args) (CR CX outer P w H s Q E) s
theorem Env0.make {P:Program} {w:World} {K:PySem.W.Frag} {mg:Str->Option Value} {base:Heap} {A:Around} {outer:List Env} {s:Shared} {H:Hp} (e:Env0 P w K mg base A outer s H) (C:Addr) (us:List Value) (kw:List (Str×Value)) :
  Env0 P w K mg base (A.under (.builtin "type.__call__" ⟨.ref C::us,kw⟩)) outer s H:=⟨by first | exact e.frames | (simpa [Around.under,Code.envs,Code.isFrame,pushEnvs] using e.frames),e.mod,e.bs,e.bsz,e.funs,e.frf,e.hok,e.bare⟩
section
variable {X:Cx} {pins:List (Addr×Obj)} {σ:St} {H:Hp} {s s':Shared}
theorem Inv.env0 (I:Inv X pins σ H s):Env0 X.prog X.w X.K X.mg X.base X.A X.stack s H :=
 ⟨I.ok.frames,I.ok.mod,I.bs,Nat.le_trans I.ok.bsz I.sz,I.stack,I.stkFree,I.hok,I.bare⟩
theorem Inv.after {Q:VK} {u:Value} (I:Inv X pins σ H s) (h:CE X.stack X.prog X.w H s Q u s'):EP X pins σ Q u s':=by
 obtain ⟨v,H',os,bare,un,hok,r,q⟩:=h
 obtain ⟨hh,g,d,t,os'⟩:=s'
 obtain rfl:os'=s.os:=os
 exact ⟨v,H',I.call (h':=hh) (g':=g) (d':=d) (t':=t) (ch:=[]) un hok bare (fun b z=>absurd z (by simp)),r,q⟩
end
def Qcr (sp:Sp) (dvs:List V) (E:XK) (t:TA):TE:=fun σ H Q=>t σ H fun vs H1=>sp (vs++dvs) H1 Q E
def ul (C:Addr) (m:Str) (sp:Sp) (dvs:List V) (E:XK) (ta:TE) (t:TA):TE:=fun σ H Q=>ta σ H fun x H1=>∃ a dx fs,x=.ref a/\H1 a=some (.ins C dx fs)/\fs.lookup m=none /\
 t σ H1 fun vs H2=>sp (x::(vs++dvs)) H2 Q E
def Binds (K:PySem.W.Frag) (fd:FuncData) (ps:List Str) (ds:List Value):Prop :=
 ∀ (s:Shared) (us:List Value),K.In s.heap->(us++ds).length=ps.length->BindsTo s fd ⟨us,[]⟩ (ps.zip (us++ds))
theorem Binds.all {K:PySem.W.Frag} {fd:FuncData} {ps:List Str} (h:∀ us:List Value,us.length=ps.length->bindArgs fd ⟨us,[]⟩=pure (ps.zip us)):Binds K fd ps []:=fun s us _ hl=>by
 rw [List.append_nil] at hl ⊢
 exact .of_eq (h us hl)
def Jw (CX:CXT) (X:Cx) (E:XK):Prop:=∀ (pins:List (Addr×Obj)) (σ:St) (H:Hp) (s:Shared) (e:Value) (s':Shared),Inv X pins σ H s->CX X.stack H s E e s'->X.xe e s'
section
variable {X:Cx} {CX:CXT} {k:Nat} {f C:Addr} {fd:FuncData} {ps:List Str} {sp:Sp} {dvs:List V} {ds:List Value} {E:XK} {x m:Str} {p pos apos:Pos} {e o:Expr} {es:List Expr} {ta:TE} {t:TA}
theorem V3 {pins:List (Addr×Obj)} {σ:St} {H:Hp} {s:Shared} {Q:VK} {us:List Value} {vs:List V} (F:Xc X.prog X.w X.K X.mg X.base CX k f fd ps sp) (hr:Room k X.A) (hb:Binds X.K fd ps ds) (hd:Vals dvs ds) (hx:Jw CX X E)
    (I:Inv X pins σ H s) (r:Vals vs us) (h:sp (vs++dvs) H Q E):wpAny (model X.prog X.w) X.A (call (.ref f) us) (EP X pins σ Q) X.xe s:=by
  have r2:Vals (vs++dvs) (us++ds):=r.append hd
  have hl:(us++ds).length=ps.length:=by rw [<- r2.length];exact F.len _ _ _ _ h
  refine wpAny_call (codeAny_mono (F.run X.A X.stack s H ⟨us,[]⟩ (us++ds) (vs++dvs) Q E hr I.env0 (hb s us I.kIn hl) r2 h) fun r s' hq=>?_)
  cases r with
  | error e=>exact hx pins σ H s e s' I hq
  | ok fl =>
    cases fl with
    | ret u=>exact I.after hq
    | next=>exact False.elim hq
    | brk=>exact False.elim hq
    | cont=>exact False.elim hq
theorem gH (F:Xc X.prog X.w X.K X.mg X.base CX k f fd ps sp) (hr:Room k X.A) (hg:Gl X x) (hm:X.mg x=some (.ref f)) (hk:PySem.W.keepIn X.K (.ref f)=true) (hb:Binds X.K fd ps ds) (hd:Vals dvs ds) (hx:Jw CX X E)
  (ha:PA X (e::es) t) (hdb:(x==("__debug__" : Str))=false:=by decide) (he:starEach (e::es) X.env=(false,eval e X.env)::starEach es X.env:=by rfl) (hpl:(backTo pos (starEach es X.env)).any (·.1)=false:=by rfl) :
  PE X (.Call (.Name x p) (e::es) [] pos) (Qcr sp dvs E t):=by
 intro pins s σ H Q I h
 refine wpAny_Call_Name_kw (qE I hg hm ?_ hdb)
 refine PySem.W.callWith_K (h₀:=X.base) I.ok.mod.kin hk (thn (ha pos pins s σ H _ I h) fun us s1 ⟨vs,H1,I1,r,q⟩=>⟨I1.kIn,?_⟩) he hpl
 exact V3 F hr hb hd hx I1 r q
theorem gM {pl:Sem Bool} (he:PE X o ta) (c:Cls X.K C) (hm:Vt X.K C m f) (F:Xc X.prog X.w X.K X.mg X.base CX k f fd ps sp) (hr:Room k X.A) (hb:Binds X.K fd ps ds) (hd:Vals dvs ds) (hx:Jw CX X E) (ha:PA X (e::es) t)
  (hst:starEach (e::es) X.env=(false,eval e X.env)::starEach es X.env:=by rfl) (hpl:(backTo pos (starEach es X.env)).any (·.1)=false:=by rfl)
  (ht:eval (.Call (.Attribute o m apos) (e::es) [] pos) X.env=(do
   let ov <- eval o X.env
   standAt apos.atName
   let (f,first) <- holding [ov] (getMethod ov m pl)
   callWith pos f first (backTo pos (starEach (e::es) X.env)) (backToKw pos (keywordEach [] X.env))):=by rfl) :
  PE X (.Call (.Attribute o m apos) (e::es) [] pos) (ul C m sp dvs E ta t):=by
 intro pins s σ H Q I h
 refine PySem.W.methodCall_KW (pl:=pl) (thn (he pins s σ H _ I h) fun u s1 ⟨x,H1,I1,rx,a,dx,fs,ex,ea,l,q⟩=>?_) ht
 subst ex
 obtain rfl:u=Value.ref a:=rx
 refine X9 I1 ea c hm l ?_
 refine PySem.W.callWith_K (first:=[.ref a]) (h₀:=X.base) I.ok.mod.kin hm.kp (thn (ha pos pins s1 σ H1 _ I1 q) fun us s2 ⟨vs,H2,I2,r,q2⟩=>⟨I2.kIn,?_⟩) hst hpl
 exact V3 (us:=.ref a::us) (vs:=.ref a::vs) F hr hb hd hx I2 (.cons rfl r) q2
theorem vH {pl:Sem Bool} (he:PE X o ta) (c:Cls X.K C) (hm:Vt X.K C m f) (F:Xc X.prog X.w X.K X.mg X.base CX k f fd ps sp) (hr:Room k X.A) (hb:Binds X.K fd ps ds) (hd:Vals dvs ds) (hx:Jw CX X E)
  (ht:eval (.Call (.Attribute o m apos) [] [] pos) X.env=(do
   let ov <- eval o X.env
   standAt apos.atName
   let (f,first) <- holding [ov] (getMethod ov m pl)
   callWith pos f first (backTo pos (starEach [] X.env)) (backToKw pos (keywordEach [] X.env))):=by rfl) :
  PE X (.Call (.Attribute o m apos) [] [] pos) (ul C m sp dvs E ta Qcu):=by
 intro pins s σ H Q I h
 refine PySem.W.methodCall_KW (pl:=pl) (thn (he pins s σ H _ I h) fun u s1 ⟨x,H1,I1,rx,a,dx,fs,ex,ea,l,q⟩=>?_) ht
 subst ex
 obtain rfl:u=Value.ref a:=rx
 refine X9 I1 ea c hm l ?_
 exact PySem.W.callWith_K0 (first:=[.ref a]) I1.kIn hm.kp (V3 (us:=[.ref a]) (vs:=[.ref a]) F hr hb hd hx I1 (.cons rfl .nil) q)
structure Mk (K:PySem.W.Frag) (C f:Addr):Prop where
 makes:PySem.W.makesIn K C=true
 init:PySem.W.findIn K (.ref C) "__init__" = some (some (.ref f))
 fn:PySem.W.isFn K (.ref f)=true
 kp:PySem.W.keepIn K (.ref C)=true
end
section
variable {X:Cx} {CX:CXT} {k:Nat} {f C:Addr} {fd:FuncData} {ps ks:List Str} {sp:Sp} {E:XK} {x m:Str} {p pos apos kpos:Pos} {e o:Expr} {es:List Expr} {kws:List Keyword} {te ta:TE} {t tk:TA} {nm:Option Str}
variable {g:List Value->List Value->List Value} {gV:List V->List V->List V}
end
structure QC (N P:List Str) (sc:Scope):Prop where
 kind:sc.kind=.function
 co:sc.isCoroutine=false
 gen:sc.isGenerator=false
 nd:N.Nodup
 pre:N.take P.length=P
 par:∀ x∈P,sc.names.lookup x=some .local∨sc.names.lookup x=some .cell
 nofree:∀ y∈sc.names,y.2≠.free
theorem jq {kindOf:Str->Option NameKind} {x:Str}:∀ {binds:List (Str×Value)} {m:Str->Option Value},(∀ v,(x,v)∉binds)->bindL kindOf binds m x=m x
  | [],_,_=>rfl
  | (n,v)::r,m,h=>by
    unfold bindL
    rw [jq fun w hw=>h w (List.mem_cons_of_mem _ hw)]
    split
    . have:x≠n:=by rintro rfl;exact h v List.mem_cons_self
      simp [this]
    . rfl
theorem jo {kindOf:Str->Option NameKind} {x:Str}:∀ {binds:List (Str×Value)} {m:Str->Option Value},(∀ v,(x,v)∉binds)->bindC kindOf binds m x=m x
  | [],_,_=>rfl
  | (n,v)::r,m,h=>by
    unfold bindC
    rw [jo fun w hw=>h w (List.mem_cons_of_mem _ hw)]
    split
    . rfl
    . have:x≠n:=by rintro rfl;exact h v List.mem_cons_self
      simp [this]
theorem jp {kindOf:Str->Option NameKind} {x:Str} {v:Value}:∀ {P:List Str} {vs:List Value} {i:Nat} {m:Str->Option Value},P.Nodup->P[i]?=some x->vs[i]?=some v->kindOf x=some .local ->
    bindL kindOf (P.zip vs) m x=some v
  | [],_,_,_,_,h,_,_=>by simp at h
  | _::_,[],_,_,_,_,h,_=>by simp at h
  | p::P,w::vs,0,m,nd,h1,h2,hk=>by
    simp at h1 h2;subst h1;subst h2
    show bindL kindOf ((p,w)::P.zip vs) m p=_
    unfold bindL
    rw [jq fun v hv=>(List.nodup_cons.mp nd).1 (List.of_mem_zip hv).1,if_pos hk]
    simp
  | p::P,w::vs,i+1,m,nd,h1,h2,hk=>by
    show bindL kindOf ((p,w)::P.zip vs) m x=_
    unfold bindL
    exact jp (i:=i) (List.nodup_cons.mp nd).2 (by simpa using h1) (by simpa using h2) hk
theorem jn {kindOf:Str->Option NameKind} {x:Str} {v:Value}:∀ {P:List Str} {vs:List Value} {i:Nat} {m:Str->Option Value},P.Nodup->P[i]?=some x->vs[i]?=some v->kindOf x≠some .local ->
    bindC kindOf (P.zip vs) m x=some v
  | [],_,_,_,_,h,_,_=>by simp at h
  | _::_,[],_,_,_,_,h,_=>by simp at h
  | p::P,w::vs,0,m,nd,h1,h2,hk=>by
    simp at h1 h2;subst h1;subst h2
    show bindC kindOf ((p,w)::P.zip vs) m p=_
    unfold bindC
    rw [jo fun v hv=>(List.nodup_cons.mp nd).1 (List.of_mem_zip hv).1,if_neg hk]
    simp
  | p::P,w::vs,i+1,m,nd,h1,h2,hk=>by
    show bindC kindOf ((p,w)::P.zip vs) m x=_
    unfold bindC
    exact jn (i:=i) (List.nodup_cons.mp nd).2 (by simpa using h1) (by simpa using h2) hk
def Xx (N:List Str) (vs:List V):St:=vs.map some++List.replicate (N.length - vs.length) none
def qv (CX:CXT) (P:Program) (w:World) (K:PySem.W.Frag) (mg:Str->Option Value) (base:Heap) (N:List Str) (qual:Str) (scope:Scope) (f:Addr) (cd:Value) (A:Around) (outer:List Env) (s:Shared) (H:Hp) (E:XK):Cx where
 prog:=P
 w:=w
 K:=K
 mg:=mg
 base:=base
 A:=A.deeper (envOfC qual scope s.heap.objs.size f cd)
 N:=N
 s₀:=s
 H₀:=H
 env:=envOfC qual scope s.heap.objs.size f cd
 outer:=outer
 stack:=envOfC qual scope s.heap.objs.size f cd::outer
 ex:=[]
 calm:=true
 fn:=fun _=>true
 pn:=[]
 xe:=fun e s'=>wpAny (model P w) (A.deeper (envOfC qual scope s.heap.objs.size f cd)) (leaving (envOfC qual scope s.heap.objs.size f cd) e) (fun _ s''=>CX outer H s E e s'') (fun e' s''=>CX outer H s E e' s'') s'
theorem yt {sc:Scope} {n:Nat} {x:Str} (h:sc.names.lookup x=some .cell):∃ c,(cellsFrom n sc.names []).lookup x=some c:=by
 have q:=PySem.W.cellsFrom_some sc.names n [] (.inl h)
 exact Option.isSome_iff_exists.mp q
theorem KG {CX:CXT} {P:Program} {w:World} {K:PySem.W.Frag} {mg:Str->Option Value} {base:Heap} {N ps:List Str} {qual:Str} {scope:Scope} {f:Addr} {cd:Value} {A:Around} {outer:List Env} {s s1:Shared} {H:Hp} {E:XK} {us:List Value} {vs:List V}
  (S:QC N ps scope) (hd:A.handled=none) (e0:Env0 P w K mg base A outer s H) (hl:vs.length=ps.length) (r:Vals vs us)
  (x:InCallC s s.heap.objs.size (bindL (envOfC qual scope s.heap.objs.size f cd).kindOf (ps.zip us) fun _=>none) (cellsFrom (s.heap.objs.size+1) scope.names []) (bindC (envOfC qual scope s.heap.objs.size f cd).kindOf (ps.zip us) fun _=>none) s1) :
  Inv (qv CX P w K mg base N qual scope f cd A outer s H E) [] (Xx N vs) H s1:=by
 have hpl:ps.length<=N.length:=by have:=congrArg List.length S.pre;rw [List.length_take] at this;omega
 obtain ⟨h1,tk,rfl,hk⟩:=x.done
 have noA:∀ b:Addr,b∉(qv CX P w K mg base N qual scope f cd A outer s H E).ex:=fun b z=>absurd (show b∈([]:List Addr) from z) (by simp)
 refine ⟨⟨e0.mod,S.kind,rfl,rfl,Nat.le_refl _,fun y z c h1 h2=>?_,fun y hy=>?_,fun y c _ h=>?_,fun _=>hd,Around.frames_deeper e0.frames,.inr ⟨rfl,rfl⟩,fun b z=>absurd z (noA b),e0.bs,e0.bsz,fun b _ _=>noA b,fun b z=>absurd z (noA b),e0.funs,e0.frf⟩,
  rfl,e0.bare,Un.kept hk,⟨_,x.toInCall.ns,fun i y v h1 h2 h3=>?_⟩,fun y c h=>⟨_,x.cell y c h⟩,e0.hok.fresh (Nat.le_refl _),fun y c h=>?_,fun p hp=>absurd (show p∈([]:List (Addr×Obj)) from hp) (by simp),e0.hok.kept hk,?_⟩
 ·exact name_of_addr x.apart (PySem.mem_of_lookup h1) (PySem.mem_of_lookup h2)
 ·have hy:scope.names.lookup y=some .cell∨scope.names.lookup y=some .free:=hy
  rcases hy with hy | hy
  ·exact yt hy
  ·exact absurd rfl (S.nofree _ (PySem.mem_of_lookup hy))
 ·exact Nat.le_of_lt (x.above y c (PySem.mem_of_lookup h))
 ·have hi:i < vs.length:=by
   unfold Xx at h2
   by_cases hi:i < vs.length
   ·exact hi
   ·rw [List.getElem?_append_right (by simpa using hi)] at h2
    rw [List.getElem?_replicate] at h2
    split at h2<;>cases h2
  have ha:vs[i]?=some v:=by
   unfold Xx at h2
   rw [List.getElem?_append_left (by simpa using hi),List.getElem?_map] at h2
   cases e:vs[i]? with
   | none=>rw [e] at h2;cases h2
   | some a=>rw [e] at h2;cases h2;rfl
  obtain ⟨u,hu,rv⟩:=r.get ha
  have hp:ps[i]?=some y:=by
   rw [<- S.pre,List.getElem?_take_of_lt (by omega)];exact h1
  have ndP:ps.Nodup:=by rw [<- S.pre];exact S.nd.sublist (List.take_sublist _ _)
  refine ⟨u,rv,?_⟩
  rcases S.par y (List.mem_of_getElem? hp) with k | k
  ·exact .inl ⟨k,jp ndP hp hu k⟩
  ·obtain ⟨c,e⟩:=yt (n:=s.heap.objs.size+1) k
   refine .inr ⟨.inl k,c,e,?_⟩
   have q:=x.cell y c e
   rw [jn ndP hp hu (by show scope.names.lookup y≠_;rw [k];decide)] at q
   exact q
 ·exact e0.hok.fresh (Nat.le_of_lt (x.above y c (PySem.mem_of_lookup h)))
 ·unfold Xx
  show _=N.length
  rw [List.length_append,List.length_map,List.length_replicate]
  omega
theorem QbM {CX:CXT} {P:Program} {w:World} {K:PySem.W.Frag} {mg:Str->Option Value} {base:Heap} {k:Nat} {f:Addr} {name qual:Str} {params:Arguments} {body:List Stmt} {scope:Scope} {dV kV doc pm cdv ct oc:Value} {an od:Option Addr}
    {osl:Array (Option Value)} {N ps:List Str} {sp:Sp} (lk:K.lookup f=some ⟨oc,od,.func (PySem.W.fnOf name qual params body scope dV kV doc pm an cdv ct),osl⟩) (hcd:PySem.W.codeIn K cdv qual=true) (S:QC N ps scope)
    (len:∀ vs H Q E,sp vs H Q E->vs.length=ps.length)
    (hbody:∀ (A:Around) (outer:List Env) (s:Shared) (H:Hp) (vs:List V) (Q:VK) (E:XK),Room k (A.deeper (envOfC qual scope s.heap.objs.size f cdv))->sp vs H Q E ->
      ∃ t,PSs (qv CX P w K mg base N qual scope f cdv A outer s H E) body t/\t { nx:=fun _ H'=>Q .non H',rt:=Q } (Xx N vs) H) :
    Xc P w K mg base CX (k+1) f (PySem.W.fnOf name qual params body scope dV kV doc pm an cdv ct) ps sp:=by
  refine ⟨len,fun A outer s H args us vs Q E hr e0 hb r hsp=>?_⟩
  have hl:=len _ _ _ _ hsp
  have KX:K.In s.heap:=e0.mod.kin.keeps fun b o e=>(e0.bs b o e).1
  have lim:s.heap.NoLimit:=e0.mod.nolimit.keeps fun b o e=>(e0.bs b o e).1
  have hkind:∀ y∈ps.zip us,scope.names.lookup y.1=some .local∨(scope.names.lookup y.1=some .cell/\((cellsFrom (s.heap.objs.size+1) scope.names []).lookup y.1).isSome=true):=fun ⟨n,v⟩ hy=>by
    rcases S.par n (List.of_mem_zip hy).1 with q | q
    . exact .inl q
    . exact .inr ⟨q,PySem.W.cellsFrom_some _ _ _ (.inl q)⟩
  refine codeAny_call_function hr.depth (KX _ _ lk) rfl S.co S.gen rfl (PySem.W.codeRec_of KX hcd) (hb _ _ _ _ ?_)
  refine wpAny_newFunctionEnv_cells S.kind hkind fun env he s1 x=>?_
  subst he
  refine ⟨lim.keeps x.toInCall.keep,codeAny_func ?_⟩
  obtain ⟨t,ht,hq⟩:=hbody A outer s H vs Q E (hr.deeper _) hsp
  have I:Inv (qv CX P w K mg base N qual scope f cdv A outer s H E) [] (Xx N vs) H s1:=KG S hr.hd e0 hl r x
  refine wpAny_mono (ht [] s1 (Xx N vs) H _ I hq) (fun fl s' hs=>?_) fun e s' hs=>hs
  have fin:∀ {σ':St} {H':Hp} {v:V} {u:Value},Inv (qv CX P w K mg base N qual scope f cdv A outer s H E) [] σ' H' s'->RelV v u->Q v H'->CE outer P w H s Q u s' :=
    fun {σ' H' v u} J rv q=>⟨v,H',J.os,J.bare,J.base,J.hok,rv,q⟩
  cases fl with
  | ret u =>
    obtain ⟨v,σ',H',J,rv,q⟩:=hs
    exact fin J rv q
  | next =>
    obtain ⟨σ',H',J,q⟩:=hs
    exact fin (v:=V.non) (u:=Value.none) J rfl q
  | brk =>
    obtain ⟨_,_,_,q⟩:=hs
    exact False.elim q
  | cont =>
    obtain ⟨_,_,_,q⟩:=hs
    exact False.elim q
end L2
namespace L2
open PySem PySem.Spec PyProof.Rows
section
variable {X:Cx} {x:Str} {p pos:Pos} {e:Expr} {es:List Expr} {t:TA} {id T:String} {r:List V->Hp->VK->Prop}
def tCB (r:List V->Hp->VK->Prop) (t:TA):TE:=fun σ H Q=>t σ H fun vs H1=>r vs H1 Q
theorem zC (hc:Zy X (.builtin id) r) (hg:Gl X x) (hm:X.mg x=none) (hv:bootBuiltins x=some (.builtin id)) (ha:PA X (e::es) t) (hn:x ≠ "__name__" := by decide) (hdb:(x==("__debug__" : Str))=false:=by decide)
  (he:starEach (e::es) X.env=(false,eval e X.env)::starEach es X.env:=by rfl) (hpl:(backTo pos (starEach es X.env)).any (·.1)=false:=by rfl):PE X (.Call (.Name x p) (e::es) [] pos) (tCB r t):=by
 intro pins s σ H Q I h
 refine wpAny_Call_Name_kw (Yd I hg hm hv ?_ hn hdb)
 exact PyProof.Rows.callWith_builtin1 (thn (ha pos pins s σ H _ I h) fun us s1 ⟨vs,H1,I1,r1,q1⟩=>hc pins s1 σ H1 vs us Q I1 r1 q1) he hpl
theorem KY (hc:Zy X (.type T) r) (hg:Gl X x) (hm:X.mg x=none) (hv:bootBuiltins x=some (.type T)) (ha:PA X (e::es) t) (hn:x ≠ "__name__" := by decide) (hdb:(x==("__debug__" : Str))=false:=by decide)
  (he:starEach (e::es) X.env=(false,eval e X.env)::starEach es X.env:=by rfl) (hpl:(backTo pos (starEach es X.env)).any (·.1)=false:=by rfl):PE X (.Call (.Name x p) (e::es) [] pos) (tCB r t):=by
 intro pins s σ H Q I h
 refine wpAny_Call_Name_kw (Yd I hg hm hv ?_ hn hdb)
 exact PyProof.Rows.callWith_type1 (thn (ha pos pins s σ H _ I h) fun us s1 ⟨vs,H1,I1,r1,q1⟩=>hc pins s1 σ H1 vs us Q I1 r1 q1) he hpl
end
end L2
namespace HT
open PySem PyProof.Rows
section
open PySem.SeqAt
open PySem.AutoSeq1 (wpAny_loadPart')
open PySem.MeetsSeq PySem.MeetsSeq2 PySem.MeetsSeq3
end
section
variable {prog:Program} {w:World} {A:Around} {E:Value->Shared->Prop} {s:Shared}
theorem cat_tup {t b:Addr} {vs ws:List Value} {Q:Value->Shared->Prop} (ht:IsTup s.heap t vs.toArray) (hb:IsTup s.heap b ws.toArray) (hv:vs≠[])
  (h1:ws=[]->Q (.ref t) s) (h2:ws≠[]->Q (.ref s.heap.objs.size) { s with heap:=s.heap.push { cls:=.type "tuple", data:=.seq (vs++ws).toArray } })
  (hsz:vs.length+ws.length<=sizeLine):wpAny (model prog w) A (binaryOp .Add (.ref t) (.ref b)) Q E s:=by
 obtain ⟨⟨cls,dd,data,sl⟩,ho,hc,n,hd⟩:=id ht
 obtain ⟨⟨cls2,dd2,data2,sl2⟩,ho2,hc2,n2,hd2⟩:=id hb
 simp only at hc hd hc2 hd2
 subst hc hd hc2 hd2
 have e:vs.toArray++ws.toArray=(vs++ws).toArray:=by simp
 by_cases hw:ws=[]
 ·exact concat_meets ⟨_,ho,rfl⟩ ⟨_,ho2,rfl⟩ noFill_tuple_add seq_tuple_add PySem.F.slot_tuple_add PySem.F.entry_tuple_add (PySem.F.args_tuple_add_2 _ _)
   (tuple_addW1 t b vs.toArray ws.toArray n n2 dd dd2 sl sl2 (by simpa using hv) (by simp [hw])) ⟨ho,ho2,h1 hw⟩
 ·refine concat_meets ⟨_,ho,rfl⟩ ⟨_,ho2,rfl⟩ noFill_tuple_add seq_tuple_add PySem.F.slot_tuple_add PySem.F.entry_tuple_add (PySem.F.args_tuple_add_2 _ _)
   (tuple_addW2 t b vs.toArray ws.toArray n n2 dd dd2 sl sl2 (by simpa using hv) (by simpa using hw) (by rw [List.size_toArray,List.size_toArray];exact hsz)) ⟨ho,ho2,?_⟩
  rw [e]
  exact h2 hw
def sIx (n d:Nat):Option Int->Nat
 | none=>d
 | some v=>if v < 0 then (v+(n:Int)).toNat else min v.toNat n
theorem sIx_nat (n d k:Nat):sIx n d (some (k:Int))=min k n:=by
 show (if (k:Int) < 0 then ((k:Int)+(n:Int)).toNat else min (k:Int).toNat n)=min k n
 rw [if_neg (by omega),Int.toNat_natCast]
theorem Qbr (n d:Nat) (hd:d<=n) (o:Option Int):sIx n d o<=n:=by
  cases o with
  | none=>exact hd
  | some v =>
    show (if v < 0 then (v+(n:Int)).toNat else min v.toNat n)<=n
    by_cases hv:v < 0
    . rw [if_pos hv];omega
    . rw [if_neg hv];exact Nat.min_le_right _ _
theorem Um (v:Int) (n d:Nat):(if v < 0 then max (v+(n:Int)) 0 else min v (n:Int))=((sIx n d (some v):Nat):Int):=by
 show (if v < 0 then max (v+(n:Int)) 0 else min v (n:Int))=(((if v < 0 then (v+(n:Int)).toNat else min v.toNat n):Nat):Int)
 by_cases hv:v < 0
 ·simp only [if_pos hv];omega
 ·simp only [if_neg hv];omega
theorem Vu (lo hi:Option Int) (n:Nat):Builtin.Slice.sliceAdjust lo hi 1 (n:Int)=(((sIx n 0 lo:Nat):Int),((sIx n n hi:Nat):Int)):=by
 have h1:¬ ((1:Int) < 0):=by omega
 unfold Builtin.Slice.sliceAdjust
 simp only [h1,if_false]
 refine Prod.ext ?_ ?_
 ·cases lo with
  | none=>rfl
  | some v=>exact Um v n 0
 ·cases hi with
  | none=>rfl
  | some v=>exact Um v n n
theorem V0 (i j:Nat):Builtin.Slice.slicePlaces (i:Int) (j:Int) 1=j - i:=by
 unfold Builtin.Slice.slicePlaces
 have h1:(1:Int) > 0:=by omega
 simp only [h1,if_true,Int.ediv_one]
 split<;>omega
theorem zU {v:Value} {o:Option Int} {Q:Option Int->Shared->Prop} (p:IsPart v o) (h:Q o s):wpAny (model prog w) A (Builtin.Slice.slicePartIndex v) Q E s:=by
 cases p with
 | none=>exact slicePart_none h
 | int i t=>exact slicePart_int h
theorem sliceApplied_gen {sl:Addr} {vl vu:Value} {lo hi:Option Int} {n:Nat} {Q:Int×Int×Nat->Shared->Prop} (hs:s.heap.IsSliceOf sl vl vu .none) (pl:IsPart vl lo) (pu:IsPart vu hi)
  (h:Q (((sIx n 0 lo:Nat):Int),1,sIx n n hi - sIx n 0 lo) s):wpAny (model prog w) A (Builtin.Slice.sliceApplied (.ref sl) (pure (n:Int))) Q E s:=by
 obtain ⟨os,hos,hcs,hds⟩:=id hs
 unfold Builtin.Slice.sliceApplied Builtin.Slice.sliceFields
 refine wpAny_bind (wpAny_bind (wpAny_field hos hds (x:=vl) rfl (wpAny_bind (wpAny_field hos hds (x:=vu) rfl (wpAny_bind (wpAny_field hos hds (x:=.none) rfl (wpAny_pure ?_)))))))
 refine wpAny_bind (slicePart_none ?_)
 show wpAny _ _ (if ((1:Int)==0)=true then _ else _) _ _ s
 rw [if_neg (by decide)]
 refine wpAny_bind (zU pl (wpAny_bind (zU pu (wpAny_bind (wpAny_pure ?_)))))
 show wpAny _ _ (match Builtin.Slice.sliceAdjust lo hi 1 (n:Int) with | (lo,hi)=>pure (lo,(1:Int),Builtin.Slice.slicePlaces lo hi 1)) _ _ s
 rw [Vu lo hi n]
 show wpAny _ _ (pure (((sIx n 0 lo:Nat):Int),(1:Int),Builtin.Slice.slicePlaces ((sIx n 0 lo:Nat):Int) ((sIx n n hi:Nat):Int) 1)) _ _ s
 rw [V0]
 exact wpAny_pure h
theorem vL (xs:Array Value) (i k:Nat):((List.range k).filterMap fun (m:Nat)=>xs[((i:Int)+(m:Int) * 1).toNat]?).toArray=((xs.toList.drop i).take k).toArray:=by
 have e:(fun (m:Nat)=>xs[((i:Int)+(m:Int) * 1).toNat]?)=fun m=>xs[i+m]?:=by
  funext m
  have:((i:Int)+(m:Int) * 1).toNat=i+m:=by omega
  rw [this]
 rw [e]
 have:=pick_run xs i k
 rw [List.filterMap_map] at this
 have e2:((fun x=>xs[x]?)∘fun x=>i+x)=fun m=>xs[i+m]?:=rfl
 rw [e2] at this
 rw [this]
theorem getItem_tuple_cut {t sl:Addr} {items:Array Value} {vl vu:Value} {lo hi:Option Int} {Q:Value->Shared->Prop} (ht:IsTup s.heap t items) (hs:s.heap.IsSliceOf sl vl vu .none) (pl:IsPart vl lo) (pu:IsPart vu hi)
  (hw:¬ (sIx items.size 0 lo=0/\sIx items.size items.size hi=items.size))
  (h:Q (.ref s.heap.objs.size) { s with heap:=s.heap.push { cls:=.type "tuple", data:=.seq ((items.toList.drop (sIx items.size 0 lo)).take (sIx items.size items.size hi - sIx items.size 0 lo)).toArray } })
  (hsz:items.size<=sizeLine):wpAny (model prog w) A (getItem (.ref t) (.ref sl)) Q E s:=by
 have htake:sizeOk (.seq ((items.toList.drop (sIx items.size 0 lo)).take (sIx items.size items.size hi - sIx items.size 0 lo)).toArray):=by
  show ((items.toList.drop (sIx items.size 0 lo)).take (sIx items.size items.size hi - sIx items.size 0 lo)).toArray.size<=sizeLine
  rw [List.size_toArray,List.length_take,List.length_drop,Array.length_toList]
  omega
 have hj:sIx items.size items.size hi<=items.size:=Qbr _ _ (Nat.le_refl _) hi
 obtain ⟨os,hos,hcs,hds⟩:=id hs
 have hTs:s.TypeIs (.ref sl) "slice" := ⟨os,hos,hcs⟩
 unfold getItem
 try with_reducible refine wpAny_holding ?_
 first | refine wpAny_bind (wpAny_pure ?_) | skip
 refine wpAny_bind (wpAny_sequenceKey ht.typeIs (by decide) ?_)
 refine wpAny_bind (wpAny_callSpecial?_slot (name:=Str.ofString "__getitem__") ht.typeIs PyProof.Rows.slot_tuple_getitem
  (wpAny_call_entry PyProof.Rows.slot_tuple_getitem ht.typeIs entry_tuple_getitem ?_ (args_tuple_getitem _ _)))
 show wpAny _ _ (Builtin.Tuple.tupleItemsOf (.ref t) >>= _) _ _ s
 refine wpAny_bind (tupleItemsOf_ ht ?_)
 refine wpAny_bind (wpAny_typeOf hTs ?_)
 rw [if_pos (by decide)]
 refine wpAny_bind (sliceApplied_gen hs pl pu ?_)
 have hno:¬ ((((sIx items.size 0 lo:Nat):Int)==0&&(1:Int)==1&&(sIx items.size items.size hi - sIx items.size 0 lo)==items.size)=true):=by
  intro q
  rw [Bool.and_eq_true,Bool.and_eq_true] at q
  have q1:((sIx items.size 0 lo:Nat):Int)=0:=eq_of_beq q.1.1
  have q2:sIx items.size items.size hi - sIx items.size 0 lo=items.size:=eq_of_beq q.2
  exact hw ⟨by omega,by omega⟩
 show wpAny _ _ (if (((sIx items.size 0 lo:Nat):Int)==0&&(1:Int)==1&&(sIx items.size items.size hi - sIx items.size 0 lo)==items.size)=true then _ else _) _ _ s
 rw [if_neg hno,vL]
 first
  | exact wpAny_bind (m:=Builtin.Tuple.tupleExact _) (wpAny_newObj_type (wpAny_pure ⟨_,rfl,wpAny_pure h⟩) htake)
  | exact wpAny_bind (m:=Builtin.Tuple.tupleExact _) (wpAny_newObj_type (wpAny_bind (wpAny_pure (wpAny_pure ⟨_,rfl,wpAny_pure h⟩))) htake)
  | exact wpAny_bind (wpAny_bind (m:=Builtin.Tuple.tupleExact _) (wpAny_newObj_type (wpAny_pure (wpAny_pure ⟨_,rfl,wpAny_pure h⟩)) htake))
  | exact wpAny_bind (wpAny_bind (m:=Builtin.Tuple.tupleExact _) (wpAny_newObj_type (wpAny_pure ⟨_,rfl,wpAny_pure h⟩) htake))
end
end HT
namespace L2
open PySem PySem.Spec PyProof.Rows
abbrev TO:=St->Hp->(Option Int->Hp->Prop)->Prop
def PO (X:Cx) (e:Option Expr) (t:TO):Prop :=
  ∀ (pins : List (Addr × Obj)) (s : Shared) (σ : St) (H : Hp) (Q : Option Int -> Hp -> Prop), Inv X pins σ H s -> t σ H Q ->
    wpAny (model X.prog X.w) X.A (evalPart e X.env) (fun u s'=>∃ o H',Inv X pins σ H' s'/\IsPart u o/\Q o H') X.xe s
def kJ:TO:=fun _ H Q=>Q none H
def Qcv (t:TE):TO:=fun σ H Q=>t σ H fun x H1=>∃ i,x=.int i/\Q (some i) H1
section
variable {X:Cx} {e:Expr} {te:TE} {lo hi:Option Expr} {tl th:TO} {pos p2:Pos}
theorem gP:PO X none kJ:=by
 intro pins s σ H Q I h
 rw [evalPart_none]
 exact wpAny_pure ⟨none,H,I,.none,h⟩
theorem gQ (h:PE X e te):PO X (some e) (Qcv te):=by
 intro pins s σ H Q I hw
 rw [evalPart_some]
 refine thn (h pins s σ H _ I hw) fun u s1 ⟨x,H1,I1,r1,q1⟩=>?_
 obtain ⟨i,rfl,q⟩:=q1
 obtain ⟨t,rfl⟩:=r1
 exact ⟨some i,H1,I1,.int i t,q⟩
def SlR (X:Cx) (r:V->Option Int->Option Int->Hp->VK->Prop):Prop :=
  ∀ (pins : List (Addr × Obj)) (s : Shared) (σ : St) (H : Hp) (x : V) (v vl vu : Value) (lo hi : Option Int) (sl : Addr) (Q : VK), Inv X pins σ H s -> RelV x v -> s.heap.IsSliceOf sl vl vu .none -> IsPart vl lo -> IsPart vu hi -> r x lo hi H Q ->
    ∃ T id,typeLookup (.type T) "__getitem__" = pure (some (.builtin id))/\s.TypeIs v T/\wpAny (model X.prog X.w) X.A (getItem v (.ref sl)) (EP X pins σ Q) X.xe s
def tSl (r:V->Option Int->Option Int->Hp->VK->Prop) (te:TE) (tl th:TO):TE:=fun σ H Q=>te σ H fun x H1=>tl σ H1 fun l H2=>th σ H2 fun u H3=>r x l u H3 Q
theorem yV {r:V->Option Int->Option Int->Hp->VK->Prop} (hr:SlR X r) (he:PE X e te) (hl:PO X lo tl) (hu:PO X hi th):PE X (.Subscript e (.Slice lo hi none p2) pos) (tSl r te tl th):=by
 intro pins s σ H Q I h
 refine Subscript_ (thn (he pins s σ H _ I h) fun v s1 ⟨x,H1,I1,r1,q1⟩=>?_)
 refine wpAny_Slice (thn (hl pins s1 σ H1 _ I1 q1) fun vl s2 ⟨l,H2,I2,pl,q2⟩=>thn (hu pins s2 σ H2 _ I2 q2) fun vu s3 ⟨u,H3,I3,pu,q3⟩=>?_)
 rw [evalPart_none]
 refine wpAny_pure ?_
 have I4:Inv X pins σ H3 { s3 with heap:=s3.heap.push { cls:=.type "slice", data:=.fields #[vl,vu,.none] } }:=I3.kept (t':=s3.toks) fun b ob q=>Heap.get?_push_of_some _ q
 obtain ⟨T,id,hT,ht,hg⟩:=hr pins { s3 with heap:=s3.heap.push { cls:=.type "slice", data:=.fields #[vl,vu,.none] } } σ H3 x v vl vu l u s3.heap.objs.size Q I4 r1 (Heap.IsSliceOf.new ..) pl pu q3
 show wpAny (model X.prog X.w) X.A (subscriptTail e (.Slice lo hi none p2) v (.ref s3.heap.objs.size)) (EP X pins σ Q) X.xe { s3 with heap:=s3.heap.push { cls:=.type "slice", data:=.fields #[vl,vu,.none] } }
 exact tail_any (ops:=[.ref s3.heap.objs.size,v]) ht hT hg (by with_unfolding_all rfl)
def yw (xs:List V) (lo hi:Option Int):List V:=(xs.drop (HT.sIx xs.length 0 lo)).take (HT.sIx xs.length xs.length hi - HT.sIx xs.length 0 lo)
theorem qj (xs:List V) (lo hi:Option Int):(yw xs lo hi).length<=xs.length:=by
 unfold yw
 rw [List.length_take,List.length_drop]
 omega
def QcT (K:PySem.W.Frag):V->Option Int->Option Int->Hp->VK->Prop:=fun x lo hi H Q=>∃ a xs,x=.ref a/\SqT K H a xs /\
 ¬ (HT.sIx xs.length 0 lo=0/\HT.sIx xs.length xs.length hi=xs.length)/\∀ p,H p=none->Q (.ref p) (upd H p (.tup (yw xs lo hi)))
theorem Qbu:SlR X (QcT X.K):=by
 intro pins s σ H x v vl vu lo hi sl Q I rx hs pl pu h
 obtain ⟨a,xs,rfl,hx,hw,q⟩:=h
 cases rx
 obtain ⟨its,r,ht,hz⟩:=I.tuple hx
 have hlen:its.toArray.size=xs.length:=by rw [List.size_toArray];exact r.length.symm
 refine ⟨"tuple", _,PyProof.Rows.slot_tuple_getitem.lookup,ht.typeIs,?_⟩
 refine HT.getItem_tuple_cut ht hs pl pu (by rw [hlen];exact hw) ?_ (by rw [hlen];exact hz)
 rw [hlen]
 refine ⟨.ref s.heap.objs.size,_,I.laid (t':=s.toks) (o:=.tup (yw xs lo hi)) (fun b ob q=>Heap.get?_push_of_some _ q) (Nat.le_refl _) ?_,rfl,q _ (I.hok.fresh (Nat.le_refl _))⟩
 exact ⟨Nat.le_trans (qj xs lo hi) hz,_,(r.drop (HT.sIx xs.length 0 lo)).take (HT.sIx xs.length xs.length hi - HT.sIx xs.length 0 lo),IsTup.new _ _⟩
def Qck (K:PySem.W.Frag):R2:=fun x y H Q=>∃ a b xs ys,x=.ref a/\y=.ref b/\SqT K H a xs/\SqT K H b ys/\xs≠[]/\xs.length+ys.length<=sizeLine /\
 (ys=[]->Q (.ref a) H)/\(ys≠[]->∀ p,H p=none->Q (.ref p) (upd H p (.tup (xs++ys))))
theorem Vals.nil_iff {xs:List V} {us:List Value} (r:Vals xs us):us=[]↔xs=[]:=by
 cases r with
 | nil=>simp
 | cons _ _=>simp
theorem gE:OpR X (binaryOp .Add) (Qck X.K):=by
 intro pins s σ H x y v u Q I rx ry h
 obtain ⟨a,b,xs,ys,rfl,rfl,ha,hb,hx,hz,q1,q2⟩:=h
 cases rx
 cases ry
 obtain ⟨its,r1,p1,_⟩:=I.tuple ha
 obtain ⟨its2,r2,p2,_⟩:=I.tuple hb
 refine HT.cat_tup p1 p2 (fun z=>hx (r1.nil_iff.mp z)) (fun z=>⟨.ref a,H,I,rfl,q1 (r2.nil_iff.mp z)⟩) (fun z=>?_) (by rw [<- r1.length,<- r2.length];exact hz)
 refine ⟨.ref s.heap.objs.size,_,I.laid (t':=s.toks) (o:=.tup (xs++ys)) (fun b ob q=>Heap.get?_push_of_some _ q) (Nat.le_refl _) ?_,rfl,q2 (fun w=>z (r2.nil_iff.mpr w)) _ (I.hok.fresh (Nat.le_refl _))⟩
 exact ⟨by rw [List.length_append];exact hz,_,r1.append r2,IsTup.new _ _⟩
end
end L2
namespace L2
open PySem PySem.Spec PyProof.Rows
def ixN (n:Nat) (i:Int):Option Nat:=if 0<=i then (if i < n then some i.toNat else none) else if -(n:Int)<=i then some (i+n).toNat else none
def atI {α:Type} (xs:List α) (i:Int):Option α:=(ixN xs.length i).bind fun j=>xs[j]?
theorem UN {n:Nat} {i:Int} {j:Nat} (h:ixN n i=some j):seqIndex? i n=some j/\j < n /\ -(n:Int)<=i/\i < n:=by
 unfold ixN at h
 by_cases h0:0<=i
 ·rw [if_pos h0] at h
  by_cases h1:i < n
  ·rw [if_pos h1] at h
   have e:i.toNat=j:=Option.some.inj h
   exact ⟨by rw [seqIndex_of h0 h1,e],by omega,by omega,h1⟩
  ·rw [if_neg h1] at h;cases h
 ·rw [if_neg h0] at h
  by_cases h1:-(n:Int)<=i
  ·rw [if_pos h1] at h
   have e:(i+n).toNat=j:=Option.some.inj h
   exact ⟨by rw [seqIndex_neg (by omega) h1,e],by omega,h1,by omega⟩
  ·rw [if_neg h1] at h;cases h
theorem Uj {α:Type} {xs:List α} {i:Int} {v:α} (h:atI xs i=some v):∃ j,seqIndex? i xs.length=some j/\xs[j]?=some v/\j < xs.length /\ -(xs.length:Int)<=i/\i < xs.length:=by
  unfold atI at h
  cases e:ixN xs.length i with
  | none=>rw [e] at h;cases h
  | some j =>
    rw [e] at h
    obtain ⟨h1,h2,h3,h4⟩:=UN e
    exact ⟨j,h1,h,h2,h3,h4⟩
theorem j4 {α:Type} {xs:List α} {j:Nat} {v:α} (h:xs[j]?=some v):atI xs (j:Int)=some v:=by
 have hj:j < xs.length:=(List.getElem?_eq_some_iff.mp h).1
 have e:ixN xs.length (j:Int)=some j:=by
  unfold ixN
  rw [if_pos (by omega),if_pos (by omega)];simp
 unfold atI;rw [e];exact h
theorem yn {α:Type} (xs:List α) (v:α):atI (xs++[v]) (-1)=some v:=by
 have hl:(xs++[v]).length=xs.length+1:=by simp
 have e:ixN (xs++[v]).length (-1)=some xs.length:=by
  unfold ixN
  rw [hl,if_neg (by decide),if_pos (by omega)]
  congr 1
  omega
 unfold atI
 rw [e]
 show (xs++[v])[xs.length]?=some v
 simp
def jW (b:Expr):Prop:=∀ o i,subscripted b false o i=operate [o,i] (getItem o i)
def IxR (X:Cx) (r:R2):Prop :=
  ∀ (value slice : Expr) (pins : List (Addr × Obj)) (s : Shared) (σ : St) (H : Hp) (x y : V) (v u : Value) (Q : VK), Inv X pins σ H s -> RelV x v -> RelV y u -> r x y H Q ->
    subscripted slice false v u=operate [v,u] (getItem v u)->wpAny (model X.prog X.w) X.A (subscriptTail value slice v u) (EP X pins σ Q) X.xe s
def MtR (X:Cx) (id:String) (r:V->List V->Hp->VK->Prop):Prop :=
  ∀ (pins : List (Addr × Obj)) (s : Shared) (σ : St) (H : Hp) (x : V) (xs : List V) (v : Value) (us : List Value) (Q : VK), Inv X pins σ H s -> RelV x v -> Vals xs us -> r x xs H Q ->
    wpAny (model X.prog X.w) X.A (call (.builtin id) (v::us)) (EP X pins σ Q) X.xe s
section
variable {X:Cx} {a b:Expr} {ta tb:TE} {pos:Pos}
theorem k9 {r:R2} (hr:IxR X r) (ha:PE X a ta) (hb:PE X b tb) (hs:jW b):PE X (.Subscript a b pos) (tOp r ta tb):=by
 intro pins s σ H Q I h
 exact Subscript_ (Qam ha hb I h fun v u s2 x y H2 I2 rx ry q=>hr a b pins s2 σ H2 x y v u Q I2 rx ry q (hs _ _))
def QcP (K:PySem.W.Frag):R2:=fun x y H Q=>∃ p xs i v,x=.ref p/\y=.int i/\SqL K H p xs/\atI xs i=some v/\Q v H
def QcQ (K:PySem.W.Frag):R2:=fun x y H Q=>∃ p xs i v,x=.ref p/\y=.int i/\SqT K H p xs/\atI xs i=some v/\Q v H
theorem UO:IxR X (QcP X.K):=by
 intro value slice pins s σ H x y v u Q I rx ry h hs
 obtain ⟨p,xs,i,z,rfl,rfl,hq,he,q⟩:=h
 cases rx
 obtain ⟨t,rfl⟩:=ry
 obtain ⟨its,r,pl,hz⟩:=I.list hq
 obtain ⟨j,h1,h2,h3,h4,h5⟩:=Uj he
 obtain ⟨w,ew,rw'⟩:=r.get h2
 have hl:=r.length
 have hn:=xL
 have fin:EP X pins σ Q w s:=⟨z,H,I,rw',q⟩
 by_cases h0:0<=i
 ·have hj:i.toNat=j:=by
   rw [seqIndex_of h0 h5] at h1
   exact Option.some.inj h1
  exact item_listR pl.isList h0 (by omega) (by rw [hj];simpa using ew) fin hs
 ·have hj:(i+(its.toArray.size:Int)).toNat=j:=by
   rw [seqIndex_neg (by omega) h4] at h1
   rw [List.size_toArray,<- hl]
   exact Option.some.inj h1
  exact subscriptTail_builtinR (x:=w) pl.isList.typeIs slot_list_getitem.lookup
   (wpAny_getItem_list_neg (Q:=fun r s'=>r=w/\EP X pins σ Q r s') pl.isList (by omega) (by rw [List.size_toArray]<;>omega) (by omega) (by rw [hj];simpa using ew) ⟨rfl,fin⟩) hs
theorem QaG:IxR X (QcQ X.K):=by
 intro value slice pins s σ H x y v u Q I rx ry h hs
 obtain ⟨p,xs,i,z,rfl,rfl,hq,he,q⟩:=h
 cases rx
 obtain ⟨t,rfl⟩:=ry
 obtain ⟨its,r,pl,hz⟩:=I.tuple hq
 obtain ⟨j,h1,h2,h3,h4,h5⟩:=Uj he
 obtain ⟨w,ew,rw'⟩:=r.get h2
 have hl:=r.length
 have hn:=xL
 have fin:EP X pins σ Q w s:=⟨z,H,I,rw',q⟩
 exact subscriptTail_builtinR (x:=w) pl.typeIs slot_tuple_getitem.lookup
  (getItem_tuple (j:=j) (Q:=fun r s'=>r=w/\EP X pins σ Q r s') pl (by omega) (by omega) (by rw [List.size_toArray,<- hl];exact h1) (by simpa using ew) ⟨rfl,fin⟩) hs
theorem VQ (its:List Value) (n j:Nat) (u:Value):Obj.mapSeq (·.setIfInBounds j u) { cls:=.type "list", data:=.seq its.toArray n }={ cls:=.type "list", data:=.seq (its.set j u).toArray n }:=by
 simp [Obj.mapSeq]
theorem Inv.lst {pins:List (Addr×Obj)} {σ:St} {H:Hp} {s:Shared} {p:Addr} {xs:List V} (I:Inv X pins σ H s) (h:H p=some (.lst xs)) :
  ∃ (its:List Value) (n:Nat),Vals xs its/\s.heap.get? p=some { cls:=.type "list", data:=.seq its.toArray n }/\xs.length<=sizeLine:=by
 obtain ⟨z,its,n,r,e⟩:=I.hok p _ h
 exact ⟨its,n,r,e,z⟩
theorem Inv.lstUpd {pins:List (Addr×Obj)} {σ:St} {H:Hp} {s:Shared} {p:Addr} {xs ys:List V} {its its':List Value} {n n':Nat} {f:Obj->Obj} (I:Inv X pins σ H s) (h:H p=some (.lst xs))
  (ho:s.heap.get? p=some { cls:=.type "list", data:=.seq its.toArray n }) (hf:f { cls:=.type "list", data:=.seq its.toArray n }={ cls:=.type "list", data:=.seq its'.toArray n' }) (r:Vals ys its') (hz:ys.length<=sizeLine) (t:Nat) :
  Inv X pins σ (upd H p (.lst ys)) { s with heap:=s.heap.update p f,toks:=t }:=by
 have e:(s.heap.update p f).get? p=some { cls:=.type "list", data:=.seq its'.toArray n' }:=by
  rw [Heap.get?_update_self f ho (by rw [hf]<;>rfl),hf]
 refine I.write (x:=p) (e:=p) (by rw [h];trivial) (.inl rfl) (fun b u hb q=>(Heap.get?_update_other _ _ (Ne.symm hb)).trans q) ⟨_,e⟩ ?_
 exact ⟨hz,its',n',r,e⟩
def Qco:V->V->V->Hp->(Hp->Prop)->Prop:=fun o i v H Q=>∃ p xs k j,o=.ref p/\i=.int k/\H p=some (.lst xs)/\ixN xs.length k=some j/\Q (upd H p (.lst (xs.set j v)))
theorem set_list:uD X Qco:=by
 intro pins s σ H o i v ov iv u Q I ro ri rv h
 obtain ⟨p,xs,k,j,rfl,rfl,hp,hj,q⟩:=h
 cases ro
 obtain ⟨t,rfl⟩:=ri
 obtain ⟨its,n,r,ho,hz⟩:=I.lst hp
 obtain ⟨h1,h2,h3,h4⟩:=UN hj
 have hl:=r.length
 have hn:=xL
 have I':Inv X pins σ (upd H p (.lst (xs.set j v))) { s with heap:=s.heap.update p (Obj.mapSeq (·.setIfInBounds j u)) } :=
  I.lstUpd hp ho (VQ its n j u) (r.set rv j) (by rw [List.length_set];exact hz) s.toks
 by_cases h0:0<=k
 ·have hk:k.toNat=j:=by
   rw [seqIndex_of h0 h4] at h1
   exact Option.some.inj h1
  exact PySem.W.ki_setAt ho h0 (by omega) (by rw [List.size_toArray,<- hl];exact h4) (by rw [hk];exact ⟨_,I',q⟩)
 ·have hk:(k+(its.toArray.size:Int)).toNat=j:=by
   rw [seqIndex_neg (by omega) h3] at h1
   rw [List.size_toArray,<- hl]
   exact Option.some.inj h1
  exact PySem.W.ki_setBack ho (by omega) (by rw [List.size_toArray,<- hl];exact h3) (by omega) (by rw [hk];exact ⟨_,I',q⟩)
theorem yb (lo hi:Option Int) (n:Nat):(sliceBounds lo hi none n).1=((HT.sIx n 0 lo:Nat):Int)/\(sliceBounds lo hi none n).2.1=((HT.sIx n n hi:Nat):Int)/\(sliceBounds lo hi none n).2.2=1:=by
  refine ⟨?_,?_,rfl⟩
  . cases lo with
    | none=>simp [sliceBounds,HT.sIx]
    | some i =>
      simp only [sliceBounds,HT.sIx,Option.getD_none,show (1:Int) > 0 by decide,if_true]
      by_cases h:i < 0
      . simp only [h,if_true]<;>omega
      . simp only [h,if_false]<;>omega
  . cases hi with
    | none=>simp [sliceBounds,HT.sIx]
    | some i =>
      simp only [sliceBounds,HT.sIx,Option.getD_none,show (1:Int) > 0 by decide,if_true]
      by_cases h:i < 0
      . simp only [h,if_true]<;>omega
      . simp only [h,if_false]<;>omega
theorem jm (its:List Value) (lo hi:Option Int):slicePick its.toArray lo hi none=((its.drop (HT.sIx its.length 0 lo)).take (HT.sIx its.length its.length hi - HT.sIx its.length 0 lo)).toArray:=by
 obtain ⟨h1,h2,h3⟩:=yb lo hi its.toArray.size
 unfold slicePick
 rw [h1,h2,h3]
 simp only [sliceRange_one,pick_run,List.size_toArray]<;>rfl
def QcS (K:PySem.W.Frag):V->Option Int->Option Int->Hp->VK->Prop:=fun x lo hi H Q=>∃ a xs,x=.ref a/\SqL K H a xs/\∀ p,H p=none->Q (.ref p) (upd H p (.lst (yw xs lo hi)))
theorem Kh:SlR X (QcS X.K):=by
 intro pins s σ H x v vl vu lo hi sl Q I rx hs pl pu h
 obtain ⟨a,xs,rfl,hx,q⟩:=h
 cases rx
 obtain ⟨its,r,ht,hz⟩:=I.list hx
 have hlen:=r.length
 refine ⟨"list", _,slot_list_getitem.lookup,ht.isList.typeIs,?_⟩
 refine wpAny_getItem_list_slice ht.isList hs pl pu .none (by simp) ?_ (by rw [List.size_toArray]<;>omega)
 rw [jm,<- hlen]
 refine ⟨.ref s.heap.objs.size,_,I.laid (t':=s.toks) (o:=.lst (yw xs lo hi)) (fun b ob q=>Heap.get?_push_of_some _ q) (Nat.le_refl _) ?_,rfl,q _ (I.hok.fresh (Nat.le_refl _))⟩
 exact ⟨Nat.le_trans (qj xs lo hi) hz,_,0,(r.drop (HT.sIx xs.length 0 lo)).take (HT.sIx xs.length xs.length hi - HT.sIx xs.length 0 lo),Heap.get?_push_size _ rfl⟩
def Js:V->Bool
 | .non=>true
 | .bl _=>true
 | .int _=>true
 | .str _=>true
 | _=>false
def eqV:V->V->Bool
 | .non,.non=>true
 | .bl a,.bl b=>a==b
 | .bl a,.int b=>(if a then 1 else 0)==b
 | .int a,.bl b=>a==(if b then 1 else 0)
 | .int a,.int b=>a==b
 | .str a,.str b=>a==b
 | _,_=>false
theorem Qaz {A:Around} {s:Shared} {y x:V} {u v:Value} (ry:RelV y u) (rx:RelV x v) (fy:Js y=true) (fx:Js x=true):SeqAt.EqAt A s u v (eqV y x):=by
  cases y with
  | non =>
    cases ry
    cases x with
    | non=>cases rx;exact SeqAt.EqAt.same _
    | bl b=>cases rx;exact SeqAt.EqAt.none_bool b
    | int b=>obtain ⟨t,rfl⟩:=rx;exact SeqAt.EqAt.none_int b t
    | str b=>obtain ⟨t,rfl⟩:=rx;exact SeqAt.EqAt.none_str b t
    | _=>exact absurd (show false=true from fx) Bool.false_ne_true
  | bl a =>
    cases ry
    cases x with
    | non=>cases rx;exact SeqAt.EqAt.bool_none a
    | bl b=>cases rx;exact SeqAt.EqAt.bool_bool a b
    | int b=>obtain ⟨t,rfl⟩:=rx;exact SeqAt.EqAt.bool_int a b t
    | str b=>obtain ⟨t,rfl⟩:=rx;exact SeqAt.EqAt.bool_str a b t
    | _=>exact absurd (show false=true from fx) Bool.false_ne_true
  | int a =>
    obtain ⟨t',rfl⟩:=ry
    cases x with
    | non=>cases rx;exact SeqAt.EqAt.int_none a t'
    | bl b=>cases rx;exact SeqAt.EqAt.int_bool a t' b
    | int b=>obtain ⟨t,rfl⟩:=rx;exact SeqAt.EqAt.int_int a t' b t
    | str b=>obtain ⟨t,rfl⟩:=rx;exact SeqAt.EqAt.int_str a t' b t
    | _=>exact absurd (show false=true from fx) Bool.false_ne_true
  | str a =>
    obtain ⟨t',rfl⟩:=ry
    cases x with
    | non=>cases rx;exact SeqAt.EqAt.str_none a t'
    | bl b=>cases rx;exact SeqAt.EqAt.str_bool a t' b
    | int b=>obtain ⟨t,rfl⟩:=rx;exact SeqAt.EqAt.str_int a t' b t
    | str b=>obtain ⟨t,rfl⟩:=rx;exact SeqAt.EqAt.str_str a t' b t
    | _=>exact absurd (show false=true from fx) Bool.false_ne_true
  | _=>exact absurd (show false=true from fy) Bool.false_ne_true
def eqU (x:V) (u:Value):Bool:=match u with
 | .none=>eqV .non x
 | .bool b=>eqV (.bl b) x
 | .int i _=>eqV (.int i) x
 | .str z _=>eqV (.str z) x
 | _=>false
theorem GT {x y:V} {u:Value} (r:RelV y u) (f:Js y=true):eqU x u=eqV y x:=by
 cases y with
 | non=>cases r;rfl
 | bl b=>cases r;rfl
 | int i=>obtain ⟨t,rfl⟩:=r;rfl
 | str z=>obtain ⟨t,rfl⟩:=r;rfl
 | _=>exact absurd (show false=true from f) Bool.false_ne_true
theorem jZ {x:V}:∀ {xs:List V} {us:List Value},Vals xs us->xs.all Js=true->us.any (eqU x)=xs.any fun y=>eqV y x
  | _,_,.nil,_=>rfl
  | y::xs,u::us,.cons r t,f=>by
    rw [List.all_cons,Bool.and_eq_true] at f
    rw [List.any_cons,List.any_cons,GT r f.1,jZ t f.2]
theorem zw {A:Around} {s:Shared} {x:V} {v:Value} (rx:RelV x v) (fx:Js x=true):∀ {xs:List V} {us:List Value},Vals xs us->xs.all Js=true->∀ u∈us,SeqAt.EqAt A s u v (eqU x u)
  | _,_,.nil,_=>fun u hu=>by cases hu
  | y::xs,u::us,.cons r t,f=>fun u' hu=>by
    rw [List.all_cons,Bool.and_eq_true] at f
    rcases List.mem_cons.mp hu with rfl | hu
    . rw [GT r f.1];exact Qaz r rx f.1 fx
    . exact zw rx fx t f.2 u' hu
def inV (x:V) (xs:List V):Bool:=xs.any fun y=>eqV y x
def rIn (K:PySem.W.Frag) (neg:Bool):R2:=fun x y H Q=>∃ p xs,y=.ref p/\(SqL K H p xs∨SqT K H p xs)/\Js x=true/\xs.all Js=true/\Q (.bl (if neg then !inV x xs else inV x xs)) H
theorem KU:OpR X (compareOp .In) (rIn X.K false):=by
 intro pins s σ H x y v u Q I rx ry h
 obtain ⟨p,xs,rfl,hq,fx,fs,q⟩:=h
 cases ry
 rcases hq with hq | hq
 ·obtain ⟨its,r,pl,hz⟩:=I.list hq
  refine SeqAt.in_listAt (eqU x) pl.isList (fun w hw=>zw rx fx r fs w (by simpa using hw)) ⟨.bl _,H,I,rfl,?_⟩
  rw [show its.toArray.any (eqU x)=its.any (eqU x) by simp,jZ r fs]
  exact q
 ·obtain ⟨its,r,pl,hz⟩:=I.tuple hq
  refine SeqAt.in_tupleAt (eqU x) pl (fun w hw=>zw rx fx r fs w (by simpa using hw)) ⟨.bl _,H,I,rfl,?_⟩
  rw [show its.toArray.any (eqU x)=its.any (eqU x) by simp,jZ r fs]
  exact q
theorem JN:Zy X (.builtin "len") (fun xs H Q=>∃ p ys,xs=[.ref p]/\(SqL X.K H p ys∨SqT X.K H p ys)/\Q (.int ys.length) H):=by
 intro pins s σ H xs us Q I r h
 obtain ⟨p,ys,rfl,hq,q⟩:=h
 obtain ⟨u,rfl,rx⟩:=YR r
 cases rx
 have hn:=xL
 rcases hq with hq | hq
 ·obtain ⟨its,r',pl,hz⟩:=I.list hq
  have hlen:=r'.length
  exact Calls.call_len_list pl.isList (by simp only [List.size_toArray]<;>omega) ⟨.int ys.length,H,I.tok _,⟨s.toks+1,by rw [List.size_toArray,hlen]⟩,q⟩
 ·obtain ⟨its,r',pl,hz⟩:=I.tuple hq
  have hlen:=r'.length
  exact len_tuple pl (by simp only [List.size_toArray]<;>omega) ⟨.int ys.length,H,I.tok _,⟨s.toks+1,by rw [List.size_toArray,hlen]⟩,q⟩
theorem xb:Zy X (.type "list") (fun xs H Q=>∃ p ys,xs=[.ref p]/\(SqL X.K H p ys∨SqT X.K H p ys)/\∀ l,H l=none->Q (.ref l) (upd H l (.lst ys))):=by
 intro pins s σ H xs us Q I r h
 obtain ⟨p,ys,rfl,hq,q⟩:=h
 obtain ⟨u,rfl,rx⟩:=YR r
 cases rx
 have fin:∀ (its:List Value),Vals ys its->ys.length<=sizeLine->∀ (h':Heap) (c':Nat),(∀ b o',s.heap.get? b=some o'->h'.get? b=some o') ->
   h'.get? s.heap.objs.size=some { cls:=.type "list", dict:=none,data:=.seq its.toArray c',slots:=#[] }->EP X pins σ Q (.ref s.heap.objs.size) { s with heap:=h' }:=fun its r' hz h' c' kp e =>
  ⟨.ref s.heap.objs.size,_,I.laid (t':=s.toks) kp (Nat.le_refl _) (show ObjOk X.prog X.w _ h' _ (.lst ys) from ⟨hz,its,c',r',e⟩),rfl,q _ (I.hok.fresh (Nat.le_refl _))⟩
 rcases hq with hq | hq
 ·obtain ⟨its,r',pl,hz⟩:=I.list hq
  have hlen:=r'.length
  obtain ⟨o,ho,hc,n,hd⟩:=pl.isList
  exact call_list_seq p (.inl rfl) ho hc hd (fun h' c' kp e=>fin its r' hz h' c' kp e) (by simp only [List.size_toArray]<;>omega)
 ·obtain ⟨its,r',pl,hz⟩:=I.tuple hq
  have hlen:=r'.length
  obtain ⟨o,ho,hc,n,hd⟩:=pl
  exact call_list_seq p (.inr rfl) ho hc hd (fun h' c' kp e=>fin its r' hz h' c' kp e) (by simp only [List.size_toArray]<;>omega)
theorem Jz:Zy X (.type "tuple") (fun xs H Q=>∃ p ys,xs=[.ref p]/\((SqL X.K H p ys/\∀ l,H l=none->Q (.ref l) (upd H l (.tup ys)))∨(SqT X.K H p ys/\Q (.ref p) H))):=by
 intro pins s σ H xs us Q I r h
 obtain ⟨p,ys,rfl,h⟩:=h
 obtain ⟨u,rfl,rx⟩:=YR r
 cases rx
 rcases h with ⟨hq,q⟩ | ⟨hq,q⟩
 ·obtain ⟨its,r',pl,hz⟩:=I.list hq
  have hlen:=r'.length
  refine call_tuple_list pl.isList (fun h' kp=>?_) (by simp only [List.size_toArray]<;>omega)
  have I1:Inv X pins σ H { s with heap:=h' }:=I.kept (t':=s.toks) kp
  have I2:Inv X pins σ (upd H h'.objs.size (.tup ys)) { s with heap:=h'.push { cls:=.type "tuple", data:=.seq its.toArray } } :=
   I1.laid (t':=s.toks) (fun b o e=>Heap.get?_push_of_some _ e) (Nat.le_refl _) (show ObjOk X.prog X.w _ _ _ (.tup ys) from ⟨hz,its,r',IsTup.new _ _⟩)
  exact ⟨.ref h'.objs.size,_,I2,rfl,q _ (I1.hok.fresh (Nat.le_refl _))⟩
 ·obtain ⟨its,r',pl,hz⟩:=I.tuple hq
  exact call_tuple_same pl ⟨.ref p,H,I,rfl,q⟩
def tyV (K:PySem.W.Frag) (T:String) (x:V) (H:Hp):Prop:=match x with
 | .str _=>T = "str"
 | .int _=>T = "int"
 | .ref p=>(T = "list" /\ ∃ xs,SqL K H p xs)∨(T = "tuple" /\ ∃ o,K.lookup p=some o/\o.cls=.type "tuple" /\ o.dict=none) ∨
   (T = "dict" /\ ((∃ kvs,H p=some (.dK kvs))∨∃ kvs,H p=some (.dT kvs)))∨(T = "set" /\ ∃ S n,H p=some (.set S n))
 | _=>False
theorem Ud {pins:List (Addr×Obj)} {σ:St} {H:Hp} {s:Shared} {T:String} {x:V} {v:Value} (I:Inv X pins σ H s) (r:RelV x v) (ty:tyV X.K T x H) :
    s.TypeIs v T/\∀ a,v=.ref a->∃ ob,s.heap.get? a=some ob/\ob.dict=none:=by
  cases x with
  | str z =>
    obtain ⟨t,rfl⟩:=r
    cases (show T = "str" from ty)
    exact ⟨typeIs_str s z t,fun _ e=>nomatch e⟩
  | int i =>
    obtain ⟨t,rfl⟩:=r
    cases (show T = "int" from ty)
    exact ⟨typeIs_int s i t,fun _ e=>nomatch e⟩
  | ref p =>
    cases r
    rcases ty with ⟨rfl,xs,hq⟩ | ⟨rfl,o,hk,hc,hd⟩ | ⟨rfl,hk⟩ | ⟨rfl,S,n,hk⟩
    . obtain ⟨its,_,pl,_⟩:=I.list hq
      refine ⟨pl.isList.typeIs,fun a e=>?_⟩
      cases e
      obtain ⟨o,n,e,c,hd,_⟩:=pl
      exact ⟨o,e,hd⟩
    . refine ⟨⟨o,I.kIn p o hk,hc⟩,fun a e=>?_⟩
      cases e
      exact ⟨o,I.kIn _ o hk,hd⟩
    . have z:∃ o,s.heap.get? p=some o/\o.ExactDict:=by
        rcases hk with ⟨kvs,hk⟩ | ⟨kvs,hk⟩
        . obtain ⟨_,_,_,_,o,_,_,e,ex,_⟩:=I.hok p _ hk
          exact ⟨o,e,ex⟩
        . obtain ⟨_,_,_,_,o,_,_,e,ex,_⟩:=I.hok p _ hk
          exact ⟨o,e,ex⟩
      obtain ⟨o,e,ex⟩:=z
      refine ⟨⟨o,e,ex.1⟩,fun a e2=>?_⟩
      cases e2
      exact ⟨o,e,ex.2.1⟩
    . obtain ⟨o,_,_,_,e,ex,_⟩:=I.hok p _ hk
      refine ⟨⟨o,e,ex.1⟩,fun a e2=>?_⟩
      cases e2
      exact ⟨o,e,ex.2.1⟩
  | _=>exact False.elim ty
def QcW (K:PySem.W.Frag) (T:String) (r:V->List V->Hp->VK->Prop) (to:TE):TE:=fun σ H Q=>to σ H fun x H1=>tyV K T x H1/\r x [] H1 Q
def tBM (K:PySem.W.Frag) (T:String) (r:V->List V->Hp->VK->Prop) (to:TE) (t:TA):TE:=fun σ H Q=>to σ H fun x H1=>tyV K T x H1/\t σ H1 fun xs H2=>r x xs H2 Q
variable {o e:Expr} {es:List Expr} {to:TE} {t:TA} {name:Str} {apos cpos:Pos} {T id:String} {r:V->List V->Hp->VK->Prop}
theorem Qa5 (pa:PlainAttrs T) (slot:Slot T name id) (hty:typeOf (.builtin id)=pure (.type "method_descriptor")) (hm:MtR X id r) (ho:PE X o to)
  (hbase:attributeBase o name X.env (eval o X.env)=eval o X.env:=by rfl) (hline:(apos.endLine==cpos.line)=true:=by rfl):PE X (.Call (.Attribute o name apos) [] [] cpos) (QcW X.K T r to):=by
 intro pins s σ H Q I h
 refine wpAny_Call_method0_late hbase hline (thn (ho pins s σ H _ I h) fun v s1 ⟨x,H1,I1,r1,ty,q1⟩=>?_)
 obtain ⟨h1,h2⟩:=Ud I1 r1 ty
 exact ⟨T,id,pa,slot,hty,h1,h2,Calls.callWith_builtin rfl (PySem.evalArgs_none (hm pins s1 σ H1 x [] v [] Q I1 r1 .nil q1))⟩
theorem k8 (pa:PlainAttrs T) (slot:Slot T name id) (hty:typeOf (.builtin id)=pure (.type "method_descriptor")) (hm:MtR X id r) (ho:PE X o to) (ha:PA X (e::es) t)
  (hbase:attributeBase o name X.env (eval o X.env)=eval o X.env:=by rfl)
  (hfew:((backTo cpos (starEach (e::es) X.env)).all (fun x=>!x.1)&&(backToKw cpos (keywordEach [] X.env)).all (fun x=>x.1.isSome)
   && decide ((e::es).length+([]:List Keyword).length+(if ([]:List Keyword).isEmpty then 0 else 1) < 30))=true:=by rfl)
  (hline:(apos.endLine==cpos.line)=true:=by rfl) (hs:starEach (e::es) X.env=(false,eval e X.env)::starEach es X.env:=by rfl) (hplain:(backTo cpos (starEach es X.env)).any (·.1)=false:=by rfl) :
  PE X (.Call (.Attribute o name apos) (e::es) [] cpos) (tBM X.K T r to t):=by
 intro pins s σ H Q I h
 refine wpAny_Call_method_late hbase hfew hline rfl (thn (ho pins s σ H _ I h) fun v s1 ⟨x,H1,I1,r1,ty,q1⟩=>?_)
 obtain ⟨h1,h2⟩:=Ud I1 r1 ty
 refine ⟨T,id,pa,slot,hty,h1,h2,?_⟩
 have hA:=ha cpos pins s1 σ H1 _ I1 q1
 rw [hs] at hA ⊢
 refine Calls.callWith_builtin (by show (false||(backTo cpos (starEach es X.env)).any (·.1))=false;rw [hplain]<;>rfl) (Calls.evalArgs_plain ?_)
 exact thn hA fun us s2 ⟨vs,H2,I2,r2,q2⟩=>hm pins s2 σ H2 x vs v us Q I2 r1 r2 q2
/- xs.append(e),list.index on a module's tuple .. are MtR facts of 06m -/
end
end L2
namespace L2
open PySem PySem.Spec PyProof.Rows
def MtM (X:Cx) (id:String) (r:V->List V->Hp->VK->Prop):Prop :=
  ∀ (pins : List (Addr × Obj)) (s : Shared) (σ : St) (H : Hp) (x : V) (xs : List V) (v : Value) (us : List Value) (Q : VK), Inv X pins σ H s -> RelV x v -> Vals xs us -> r x xs H Q ->
    wpAny (model X.prog X.w) X.A (call (.builtin id) (v::us)) (EP X pins σ Q) X.xe s
theorem Vals.one:∀ {x:V} {us:List Value},Vals [x] us->∃ u,us=[u]/\RelV x u
 | _,_,.cons r .nil=>⟨_,rfl,r⟩
theorem Vals.zero:∀ {us:List Value},Vals [] us->us=[]
 | _,.nil=>rfl
theorem Vals.dropLast {xs:List V} {us:List Value} (h:Vals xs us):Vals xs.dropLast us.dropLast:=by
  induction h with
  | nil=>exact .nil
  | cons r t ih =>
    cases t with
    | nil=>exact .nil
    | cons q t'=>exact .cons r ih
theorem VL {α:Type} (l:List α):l.eraseIdx (l.length - 1)=l.dropLast:=by
  induction l with
  | nil=>rfl
  | cons a r ih =>
    cases r with
    | nil=>rfl
    | cons b r =>
      have e:(a::b::r).length - 1=((b::r).length - 1)+1:=by
        have h1:(a::b::r).length=r.length+2:=rfl
        have h2:(b::r).length=r.length+1:=rfl
        omega
      rw [e,List.eraseIdx_cons_succ,ih]
      all_goals rfl
section
variable {X:Cx} {pins:List (Addr×Obj)} {σ:St} {H:Hp} {s:Shared} {l b:Addr} {xs ys zs:List V}
theorem Inv.lset {its its':List Value} {n:Nat} {f:Array Value->Array Value} {t':Nat} (I:Inv X pins σ H s) (hH:H l=some (.lst xs))
  (e:s.heap.get? l=some { cls:=.type "list", data:=.seq its.toArray n }) (hf:f its.toArray=its'.toArray) (hv:Vals ys its') (hz:ys.length<=sizeLine) :
  Inv X pins σ (upd H l (.lst ys)) { s with heap:=s.heap.update l (Obj.mapSeq f),toks:=t' }:=by
 have q:=PySem.IsL.update e f
 rw [hf] at q
 refine I.write (x:=l) (e:=l) (by rw [hH];exact trivial) (.inl rfl) (fun b' u hb hu=>(Heap.get?_update_other s.heap (Obj.mapSeq f) (Ne.symm hb)).trans hu) ⟨_,q⟩ ?_
 exact ⟨hz,its',_,hv,q⟩
theorem Inv.lnew {its:List Value} {t':Nat} (I:Inv X pins σ H s) (hv:Vals ys its) (hz:ys.length<=sizeLine) :
  Inv X pins σ (upd H s.heap.objs.size (.lst ys)) { s with heap:=s.heap.push { cls:=.type "list", data:=.seq its.toArray },toks:=t' } :=
 I.laid (fun _ _ q=>Heap.get?_push_of_some _ q) (Nat.le_refl _) ⟨hz,its,0,hv,Heap.get?_push_size _ rfl⟩
theorem Inv.fresh (I:Inv X pins σ H s):H s.heap.objs.size=none:=I.hok.fresh (Nat.le_refl _)
theorem Inv.lstM (I:Inv X pins σ H s) (hH:H l=some (.lst xs)):xs.length<=sizeLine/\∃ (its:List Value) (n:Nat),Vals xs its/\xs.length=its.length/\s.heap.get? l=some { cls:=.type "list", data:=.seq its.toArray n }:=by
 obtain ⟨z,its,n,r,e⟩:=I.hok l _ hH
 exact ⟨z,its,n,r,r.length,e⟩
theorem vC {n:Nat} (h:n<=sizeLine):Builtin.List.listTooLong n=false:=by
 unfold Builtin.List.listTooLong
 exact decide_eq_false (by omega)
end
section
variable {X:Cx}
def Kb:V->List V->Hp->VK->Prop:=fun x vs H Q=>∃ l xs y,x=.ref l/\vs=[y]/\H l=some (.lst xs)/\xs.length < sizeLine/\Q .non (upd H l (.lst (xs++[y])))
theorem qa:MtM X "list.append" Kb:=by
 intro pins s σ H x vs v us Q I rx rv h
 obtain ⟨l,xs,y,rfl,rfl,hH,hz,q⟩:=h
 cases rx
 obtain ⟨u,rfl,ru⟩:=rv.one
 obtain ⟨z,its,n,r,hl,e⟩:=I.lstM hH
 refine call_meets F.slot_list_append ⟨_,e,rfl⟩ F.entry_list_append (F.args_list_append_2 _ _) (PySem.list_append l its.toArray n u (by rw [List.size_toArray];omega)) ⟨e,?_⟩
 refine ⟨.non,_,I.lset (its':=its++[u]) hH e (by simp) (r.append (.cons ru .nil)) ?_,rfl,q⟩
 rw [List.length_append,List.length_singleton]
 omega
def ka:V->List V->Hp->VK->Prop:=fun x vs H Q=>∃ l b xs zs,x=.ref l/\vs=[.ref b]/\H l=some (.lst xs)/\H b=some (.lst zs)/\xs.length+zs.length<=sizeLine/\Q .non (upd H l (.lst (xs++zs)))
theorem KQ:MtM X "list.extend" ka:=by
 intro pins s σ H x vs v us Q I rx rv h
 obtain ⟨l,b,xs,zs,rfl,rfl,hH,hB,hz,q⟩:=h
 cases rx
 obtain ⟨u,rfl,ru⟩:=rv.one
 cases ru
 obtain ⟨z,its,n,r,hl,e⟩:=I.lstM hH
 obtain ⟨z2,its2,n2,r2,hl2,e2⟩:=I.lstM hB
 have hsz:its.toArray.size+its2.toArray.size<=sizeLine:=by rw [List.size_toArray,List.size_toArray];omega
 have hlong:¬ (!its.toArray.isEmpty&&Builtin.List.listTooLong (its.toArray.size+its2.toArray.size))=true:=by
  rw [vC hsz,Bool.and_false]
  exact Bool.false_ne_true
 refine call_meets F.slot_list_extend ⟨_,e,rfl⟩ F.entry_list_extend (F.args_list_extend_2 _ _)
  (AutoSeq1.list_extend_list_list_0 l its.toArray n b its2.toArray n2 hlong (by rw [List.size_toArray];omega) (by omega)) ⟨e,e2,?_⟩
 refine ⟨.non,_,I.lset (its':=its++its2) hH e (by simp) (r.append r2) ?_,rfl,q⟩
 rw [List.length_append]
 omega
def QcR:V->List V->Hp->VK->Prop:=fun x vs H Q=>∃ l xs y,x=.ref l/\vs=[]/\H l=some (.lst xs)/\xs[xs.length - 1]?=some y/\Q y (upd H l (.lst xs.dropLast))
theorem QcL:MtM X "list.pop" QcR:=by
 intro pins s σ H x vs v us Q I rx rv h
 obtain ⟨l,xs,y,rfl,rfl,hH,hy,q⟩:=h
 cases rx
 have hus:=rv.zero
 subst hus
 obtain ⟨z,its,n,r,hl,e⟩:=I.lstM hH
 obtain ⟨u,hu,ru⟩:=r.get hy
 have hy':its.toArray[its.toArray.size - 1]?=some u:=by
  show its.toArray[its.length - 1]?=some u
  rw [<- Array.getElem?_toList,<- hl]
  exact hu
 refine call_meets F.slot_list_pop ⟨_,e,rfl⟩ F.entry_list_pop (F.args_list_pop_1 _) (MeetsSeq.list_pop_last l its.toArray n u hy' (by rw [List.size_toArray];omega)) ⟨e,?_⟩
 refine ⟨y,_,I.lset (its':=its.dropLast) hH e ?_ r.dropLast ?_,ru,q⟩
 ·show its.toArray.eraseIdxIfInBounds (its.toArray.size - 1)=its.dropLast.toArray
  rw [List.size_toArray,List.eraseIdxIfInBounds_toArray,VL]
 ·rw [List.length_dropLast]
  omega
def Qbp:V->List V->Hp->VK->Prop:=fun x vs H Q=>∃ l xs,x=.ref l/\vs=[]/\H l=some (.lst xs)/\Q .non (upd H l (.lst []))
theorem vz:MtM X "list.clear" Qbp:=by
 intro pins s σ H x vs v us Q I rx rv h
 obtain ⟨l,xs,rfl,rfl,hH,q⟩:=h
 cases rx
 have hus:=rv.zero
 subst hus
 obtain ⟨z,its,n,r,hl,e⟩:=I.lstM hH
 refine call_meets F.slot_list_clear ⟨_,e,rfl⟩ F.entry_list_clear (F.args_list_clear_1 _) (AutoSeq1.list_clear_list_0 l its.toArray n (by rw [List.size_toArray];omega)) ⟨e,?_⟩
 exact ⟨.non,_,I.lset (its':=[]) (ys:=[]) hH e rfl .nil (Nat.zero_le _),rfl,q⟩
end
section
variable {prog:Program} {w:World} {A:Around} {E:Value->Shared->Prop} {s:Shared}
end
section
variable {X:Cx}
end
end L2
namespace Att
open PySem PySem.W PySem.Calls PyProof.Rows
theorem qx {P:Params} {h:Heap}:∀ (ns:List Int) (vs:List Value),WellAll P h vs (ns.map WData.int)->IntsAre vs ns:=by
  intro ns
  induction ns with
  | nil =>
    intro vs w
    rw [List.map_nil] at w
    cases w
    exact .nil
  | cons n ns ih =>
    intro vs w
    rw [List.map_cons] at w
    cases w with
    | cons a b =>
      cases a
      exact .cons _ _ (ih _ b)
theorem Ga {l:OpenLaw} {n:Nat} (hn:l.most=some n) {P:Params} {h:Heap} {args:List WData} {vals:List Value}
    (hpre:l.row.toRowW.claim.pre args=true) (hwl:WellAll P h vals args) :
    ∃ a vs ns,vals=[Value.ref a]/\args=[WData.list (ns.map WData.int)]/\h.get? a=some { cls:=.type "list", data:=.seq vs.toArray }/\IntsAre vs ns/\ns.length<=n:=by
  have hsh:WShape.hasAll [] args [.list .int]=true:=(pre_splitW hpre).1
  have hc:l.pre.holds [] { args:=args }=true:=(pre_splitW hpre).2
  obtain ⟨d,r,rfl,h1,h2⟩:=hasAllW_cons hsh
  obtain rfl:=hasAllW_nil h2
  obtain ⟨xs,rfl,h3⟩:=hasW_list h1
  obtain ⟨ns,rfl⟩:=items_int h3
  have hlen:ns.length<=n:=by
    unfold OpenLaw.pre at hc
    have h4:(WTm.not (.lt (.lit (.int (n:Int))) (.len (.arg 0)))).holds [] { args:=[.list (ns.map .int)] }=true:=by
      have h4:=(holds_andW hc).1
      rw [hn] at h4
      exact h4
    have h5:=condW_of h4 (w_not (w_lt w_lit (w_len_list (w_arg rfl))))
    rw [List.length_map] at h5
    refine Nat.le_of_not_lt fun q=>?_
    have q':(n:Int) < ((ns.length:Nat):Int):=by omega
    first
      | (rw [decide_eq_true q'] at h5;exact absurd h5 (by decide))
      | (simp at h5;omega)
  cases hwl with
  | cons w1 w2 =>
    cases w2
    cases w1 with
    | list ho hall=>exact ⟨_,_,ns,rfl,rfl,ho,qx ns _ hall,hlen⟩
theorem K3 (l:OpenLaw) (args:List WData):l.row.toRowW.claim.post args (.bool true) args=true :=
 postW_of (r:=l.row.toRowW) (X:=(true==true))
  (show WShape.has [] (.bool true) .bool=true by first | rfl | decide | simp [WShape.has,WShape.arms,WShape.armsAll])
  (show (WTm.eq .res (.lit (.bool true))).value [] { args:=args,res:=some (.bool true),after:=args }=some (.bool (true==true)) from w_eq_bool (w_res rfl) w_lit) rfl
theorem attach_call {l:OpenLaw} {n:Nat} {q:Program} {loose:List Str} {XP:(Str->Option Value)->Heap->Prop} {YP:World->Heap->Prop} {d:DefRec}
  (hn:l.most=some n) (hdf:d.params.defaults=[])
  (call:∀ (w:World) (s₀ s₁:Shared) (mg mb:Str->Option Value) (fa:Addr) (o:Obj) (pm cd doc:Value) (a:Addr) (vs:List Value) (ns:List Int),
   Ground q loose [] XP w s₀ mg mb s₁.heap->YP w s₁.heap ->
   s₁.heap.get? fa=some o->o.data=.func (docDef d.name d.params d.body d.scope pm cd doc)->s₁.heap.CodeRec cd d.name->mg d.name=some (.ref fa) ->
   s₁.heap.get? a=some { cls:=.type "list", data:=.seq vs.toArray }->IntsAre vs ns->ns.length<=n->s₁.gens = #[] ->
   codeAny (model l.prog w) callerA (.call (.ref fa) ⟨[.ref a],[]⟩) (fun r s'=>r=.ok (.ret (.bool true))/\OldK s₁.heap s'.heap/\s'.os=s₁.os/\AllBare s'.gens) s₁) :
  WalkO q loose XP YP l.row.toRowW d [] (fun f vs=>PySem.call f vs):=by
 intro w s₀ s₁ mg mb G Y fa o pm cd doc dV kV ho hd hcd hD hmg hg args vals as hpre hlay hrd hwl hlo
 obtain rfl:dV=.none:=Dflts.none hD hdf
 obtain rfl:kV=.none:=Dflts.noKw hD
 obtain ⟨a,vs,ns,rfl,rfl,hobj,hints,hlen⟩:=Ga hn hpre hwl
 refine enter_call (codeAny_mono (call w s₀ s₁ mg mb fa o pm cd doc a vs ns G Y ho (fd_plain hd) hcd hmg hobj hints hlen hg) fun r s' hq=>?_)
 obtain ⟨rfl,h2,h3,h4⟩:=hq
 exact ⟨.inl ⟨.bool true,.bool true,[],rfl,fun _=>rfl,.bool true,K3 l _,fun _=>⟨List.Pairwise.nil,fun _ hm=>(nomatch hm)⟩⟩,h2,h3,h4⟩
section
variable {prog:Program} {w:World} {A:Around} {E:Value->Shared->Prop} {s:Shared} {K:Frag}
def QcJ (h:Heap) (L d:Addr):List (Addr×Obj):=(List.range h.objs.size).filterMap fun a=>if a=L∨a=d then none else (h.get? a).map fun o=>(a,o)
end
end Att
namespace L2
open PySem PySem.Spec PyProof.Rows
theorem ZZ:∀ {vs:List Value} {ns:List Int},IntsAre vs ns->Vals (ns.map V.int) vs
 | _,_,.nil=>.nil
 | _,_,.cons n t h=>.cons ⟨t,rfl⟩ (ZZ h)
def Qaj (H:Hp):Prop:=∀ b,H b=none∨∃ o xs,H b=some (.frz o (.lst xs))
theorem vg {P:Program} {w:World} {K:PySem.W.Frag} {mg mb:Str->Option Value} {CX:CXT} {k:Nat} {fa a:Addr} {fd:FuncData} {x:Str} {sp:Sp} {s₁:Shared} {vs:List Value} {ns:List Int}
    (KX:K.In s₁.heap) (hns:s₁.heap.Ns mainGlobals mg) (hb:s₁.heap.Ns builtinsNs mb) (hbb:∀ x:Str,x ≠ "__name__" -> mb x=bootBuiltins x) (hlim:s₁.heap.NoLimit) (hg:s₁.gens = #[])
    (ha:s₁.heap.get? a=some { cls:=.type "list", data:=.seq vs.toArray }) (hi:IntsAre vs ns) (hl:ns.length<=sizeLine) (hr:Room k callerA)
    (F:∀ base:Heap,K.In base->base.Ns mainGlobals mg->Xc P w K mg base CX k fa fd [x] sp) (hbind:∀ (s:Shared) (u:Value),BindsTo s fd ⟨[u],[]⟩ [(x,u)])
    (hsp:∀ H:Hp,Qaj H->SqL K H a (ns.map V.int)->sp [.ref a] H (fun v _=>v=.bl true) fun _ _ _=>False)
    (hCX:∀ H e s',CX [] H s₁ (fun _ _ _=>False) e s'->False) :
    codeAny (model P w) callerA (.call (.ref fa) ⟨[.ref a],[]⟩) (fun r s'=>r=.ok (.ret (.bool true))/\OldK s₁.heap s'.heap/\s'.os=s₁.os/\AllBare s'.gens) s₁:=by
  have rv:=ZZ hi
  have lenV:=hi.length
  have core:∀ H:Hp,Qaj H->SqL K H a (ns.map V.int)->HOk P w H s₁.heap->(∀ b,H b≠none->b=a)->(H a≠none->K.lookup a=none) ->
      codeAny (model P w) callerA (.call (.ref fa) ⟨[.ref a],[]⟩) (fun r s'=>r=.ok (.ret (.bool true))/\OldK s₁.heap s'.heap/\s'.os=s₁.os/\AllBare s'.gens) s₁:=by
    intro H hO hS hok hA hK
    have base_of:∀ {b:Addr} {o:Obj},s₁.heap.get? b=some o->H b=none->(xE s₁.heap H).get? b=some o:=fun e n=>G8 e n
    have noA:∀ {b:Addr} {o:Obj} {es:Array DictEntry} {ep:Nat},s₁.heap.get? b=some o->o.data=.dict es ep->H b=none:=fun {b o es ep} e d=>by
      cases q:H b with
      | none=>rfl
      | some u =>
        have e':b=a:=hA b (by rw [q];simp)
        subst e'
        rw [ha] at e;cases e
        have d':Data.seq vs.toArray _=Data.dict es ep:=d
        cases d'
    have nsK:∀ {b:Addr} {m:Str->Option Value},s₁.heap.Ns b m->(xE s₁.heap H).Ns b m:=fun {b m} ⟨o,es,ep,e,d,r⟩=>⟨o,es,ep,base_of e (noA e d),d,r⟩
    have hKb:K.In (xE s₁.heap H):=fun b o e=>base_of (KX b o e) (by
      cases q:H b with
      | none=>rfl
      | some u =>
        have e':b=a:=hA b (by rw [q];simp)
        subst e'
        rw [hK (by rw [q];simp)] at e;cases e)
    have hM:Mod K mg (xE s₁.heap H):=⟨hKb,nsK hns,⟨mb,nsK hb,hbb⟩,let ⟨mc,h1,h2⟩:=hlim;⟨mc,nsK h1,h2⟩⟩
    have e0:Env0 P w K mg (xE s₁.heap H) callerA [] s₁ H:=⟨rfl,hM,fun b o e=>gD e,Nat.le_of_eq (KE _ _),trivial,fun b hb=>absurd (show b∈([]:List Addr) from hb) (by simp),hok,.of_eq hg⟩
    refine codeAny_mono ((F _ hKb (nsK hns)).run callerA [] s₁ H ⟨[.ref a],[]⟩ [.ref a] [.ref a] _ _ hr e0 (hbind s₁ (.ref a)) (.cons rfl .nil) (hsp H hO hS)) fun r s' h=>?_
    cases r with
    | error e=>exact (hCX H e s' h).elim
    | ok fl =>
      cases fl with
      | next=>exact False.elim h
      | brk=>exact False.elim h
      | cont=>exact False.elim h
      | ret u =>
        obtain ⟨v,H',os,bare,un,hok',r',q⟩:=h
        have q':v=.bl true:=q
        subst q'
        obtain rfl:u=Value.bool true:=r'
        refine ⟨rfl,OldK.of_keep fun b o e=>?_,os,bare⟩
        cases q:H b with
        | none=>exact un.keep b o e q (by intro z;exact absurd (show b∈([]:List Addr) from z) (by simp)) (by simp)
        | some u =>
          rcases hO b with z | ⟨ob,xs,z⟩
          . rw [q] at z;cases z
          . have z2:=un.frzs b ob _ z
            obtain ⟨e1,_⟩:=hok b _ z
            obtain ⟨e2,_⟩:=hok' b _ z2
            rw [e] at e1;cases e1
            exact e2
  cases hk:K.lookup a with
  | some o =>
    have e:=KX a o hk
    rw [ha] at e
    cases e
    refine core (fun _=>none) (fun _=>.inl rfl) (.inr ⟨_,vs.toArray,_,hk,rfl,rfl,rfl,by rw [List.size_toArray,lenV];exact hl,by simpa using rv⟩) (fun b u z=>by have z':(none:Option HO)=some u:=z;cases z') (fun b z=>absurd rfl z) fun z=>absurd rfl z
  | none =>
    refine core (fun b=>if b=a then some (.frz { cls:=.type "list", data:=.seq vs.toArray } (.lst (ns.map V.int))) else none) (fun b=>?_) (.inl (.inr ⟨{ cls:=.type "list", data:=.seq vs.toArray },if_pos rfl⟩)) (fun b u z=>?_) (fun b z=>?_) fun _=>hk
    . by_cases hb:b=a
      . exact .inr ⟨_,_,if_pos hb⟩
      . exact .inl (if_neg hb)
    . by_cases hb:b=a
      . have z':=(if_pos hb).symm.trans z
        cases z'
        subst hb
        exact ⟨ha,by rw [List.length_map];exact hl,vs,_,rv,ha⟩
      . have z':=(if_neg hb).symm.trans z
        cases z'
    . by_cases hb:b=a
      . exact hb
      . exact absurd (if_neg hb) z
end L2
namespace L2
open PySem PySem.Spec PyProof.Rows
theorem Ko {l:PySem.W.OpenLaw} {n k:Nat} {q:Program} {loose:List Str} {XP:(Str->Option Value)->Heap->Prop} {YP:World->Heap->Prop} {d:DefRec} {K:Params->PySem.W.Frag} {CX:World->CXT} {sp:World->Sp} {x:Str}
    (hn:l.most=some n) (hn2:n<=sizeLine) (hdf:d.params.defaults=[]) (hr:Room k callerA)
    (hY:∀ (w:World) (h:Heap),YP w h->(K w.params).In h)
    (F:∀ (w:World) (mg:Str->Option Value) (fa:Addr) (h:Heap),(K w.params).In h->h.Ns mainGlobals mg->mg d.name=some (.ref fa) ->
      ∃ fd : FuncData, (∀ (s : Shared) (u : Value), BindsTo s fd ⟨[u], []⟩ [(x, u)]) /\
        ∀ base:Heap,(K w.params).In base->base.Ns mainGlobals mg->Xc l.prog w (K w.params) mg base (CX w) k fa fd [x] (sp w))
    (hsp:∀ (w:World) (H:Hp) (a:Addr) (ns:List Int),ns.length<=n->Qaj H->SqL (K w.params) H a (ns.map V.int)->sp w [.ref a] H (fun v _=>v=.bl true) fun _ _ _=>False)
    (hCX:∀ (w:World) (H:Hp) (s:Shared) (e:Value) (s':Shared),CX w [] H s (fun _ _ _=>False) e s'->False) :
    PySem.W.WalkO q loose XP YP l.row.toRowW d [] (fun f vs=>PySem.call f vs):=by
  refine Att.attach_call hn hdf fun w s₀ s₁ mg mb fa o pm cd doc a vs ns G Y ho hd hcd hmg hobj hints hlen hg=>?_
  have KX:=hY w _ Y
  obtain ⟨fd,hb,hF⟩:=F w mg fa _ KX G.T.g hmg
  exact vg KX G.T.g G.T.b G.T.builtins G.T.nolimit hg hobj hints (Nat.le_trans hlen hn2) hr hF hb (fun H hO hS=>hsp w H a ns hlen hO hS) fun H e s'=>hCX w H s₁ e s'
end L2
/- THE LAST THEOREM (shape; LID, My.* are yours):
   My.Adr: a structure of the addresses that your layer names (classes,functions);My.Txt K t: a structure (Prop) of the equations over K;
   My.txt_mk:{K} {implicit addresses ..} (e1:nsIn K mainGlobals "law" = some (some (.ref f))) (e2:K.lookup f=some ⟨oc,od,.func (fnOf "law" "law" params body scope dV kV doc pm an cdv ct),sl⟩) (e3:codeIn K cdv "law" = true) ..:∃ t,My.Txt K t
set_option maxRecDepth 100000 in
set_option maxHeartbeats 0 in
theorem PySem.Challenge.cw_LID_holds : PySem.Challenge.rw_LID.Holds := by
 w_on;o_law;k_head;(case hw=>w_witness2)
 k_fill
 refine L2.Ko (l:=PySem.Challenge.rw_LID) (n:=63) (k:=40) (x := "script") (CX:=fun w=>..) (sp:=fun _=>My.sp_law) rfl (by decide) rfl ⟨rfl,by decide,by decide⟩ (fun w h Y=>PySem.W.kIn_of Y) ?F ?S ?C
 case F =>
  intro w mg fa h KX G hmg
  have T:∃ t,My.Txt (L2.KOf KX) t:=by
   dsimp only [L2.KOf]                          -- K must stand as «<heap const> w.params» for k_is
   refine' My.txt_mk ?e1 ?e2 ?e3 ..
   (case e1=>PySem.W.k_is)                    -- in the order: a name->its address->its object->its parts
   (case e2=>PySem.W.k_is)
   ..
  obtain ⟨t,T⟩:=T
  have e0:=hmg.symm.trans (PySem.W.mg_of KX G T.law)
  cases e0                                       -- fa is the law's own address
  exact ⟨_,fun s u=>.of_eq rfl,fun base kb nb=>My.law_fn T kb nb⟩     -- if «.of_eq rfl» comes too early: refine' ⟨_,?b,fun base kb nb=>My.law_fn T kb nb⟩;exact fun s u=>.of_eq rfl
 case S=>exact fun w H a ns hl hO hS=>..
 case C=>exact ..
(the tactic k_is has no namespace: write k_is) -/
namespace L2
open PySem PySem.Spec PyProof.Rows
def Yw (s:Stmt) (j:Nat):Stmt:=match s with
 | .ClassDef _ _ _ body _ _ _ _ _ _ _=>body.getD j (.Pass ⟨0,0,0,0⟩)
 | _=>.Pass ⟨0,0,0,0⟩
def Zu (s:Stmt):Arguments:=match s with
 | .FunctionDef _ a _ _ _ _ _ _ _ _=>a
 | _=>{ posonlyargs:=[],args:=[],vararg:=none,kwonlyargs:=[],kw_defaults:=[],kwarg:=none,defaults:=[] }
def Q3 (s:Stmt):List Stmt:=match s with
 | .FunctionDef _ _ b _ _ _ _ _ _ _=>b
 | _=>[]
def Qo (s:Stmt):Scope:=match s with
 | .FunctionDef _ _ _ _ _ _ sc _ _ _=>sc
 | _=>{ kind:=.function,names:=[],isGenerator:=false,isCoroutine:=false }
abbrev CX0:CXT:=fun _ _ _ _ _ _=>False
abbrev E0:XK:=fun _ _ _=>False
theorem QG {X:Cx}:Jw CX0 X E0:=fun _ _ _ _ _ _ _ h=>h.elim
structure Fun (K:PySem.W.Frag) (x qual:Str) (st:Stmt) (f:Addr) (fd:FuncData):Prop where
 ex:∃ (oc:Value) (od:Option Addr) (kV doc pm:Value) (an:Option Addr) (cdv ct:Value) (osl:Array (Option Value)),
  fd=PySem.W.fnOf x qual (Zu st) (Q3 st) (Qo st) .none kV doc pm an cdv ct/\K.lookup f=some ⟨oc,od,.func fd,osl⟩/\PySem.W.codeIn K cdv qual=true
 kp:PySem.W.keepIn K (.ref f)=true
section
variable {P:Program} {w:World} {K:PySem.W.Frag} {mg:Str->Option Value} {base:Heap}
theorem Fun.ok {x qual:Str} {st:Stmt} {f:Addr} {fd:FuncData} {N ps:List Str} {k:Nat} {sp:Sp} (F:Fun K x qual st f fd) (S:QC N ps (Qo st)) (len:∀ vs H Q E,sp vs H Q E->vs.length=ps.length)
  (hbody:∀ (cdv:Value) (A:Around) (outer:List Env) (s:Shared) (H:Hp) (vs:List V) (Q:VK) (E:XK),Room k (A.deeper (envOfC qual (Qo st) s.heap.objs.size f cdv))->sp vs H Q E ->
   ∃ t,PSs (qv CX0 P w K mg base N qual (Qo st) f cdv A outer s H E).nox (Q3 st) t/\t { nx:=fun _ H'=>Q .non H',rt:=Q } (Xx N vs) H):Xc P w K mg base CX0 (k+1) f fd ps sp:=by
 obtain ⟨oc,od,kV,doc,pm,an,cdv,ct,osl,rfl,lk,hcd⟩:=F.ex
 refine QbM lk hcd S len fun A outer s H vs Q E hr hsp=>?_
 obtain ⟨t,h,q⟩:=hbody cdv A outer s H vs Q E hr hsp
 exact ⟨t,h.nox,q⟩
theorem Fun.binds {x qual:Str} {st:Stmt} {f:Addr} {fd:FuncData} {ps:List Str} (F:Fun K x qual st f fd)
  (h:∀ (kV doc pm:Value) (an:Option Addr) (cdv ct:Value) (us:List Value),us.length=ps.length->bindArgs (PySem.W.fnOf x qual (Zu st) (Q3 st) (Qo st) .none kV doc pm an cdv ct) ⟨us,[]⟩=pure (ps.zip us)):Binds K fd ps []:=by
 obtain ⟨oc,od,kV,doc,pm,an,cdv,ct,osl,rfl,lk,hcd⟩:=F.ex
 exact .all (h kV doc pm an cdv ct)
theorem xy {x qual:Str} {st:Stmt} {f:Addr} {oc:Value} {od an:Option Addr} {osl:Array (Option Value)} {kV doc pm cdv ct:Value} (l:K.lookup f=some ⟨oc,od,.func (PySem.W.fnOf x qual (Zu st) (Q3 st) (Qo st) .none kV doc pm an cdv ct),osl⟩)
  (c:PySem.W.codeIn K cdv qual=true) (k:PySem.W.keepIn K (.ref f)=true):Fun K x qual st f (PySem.W.fnOf x qual (Zu st) (Q3 st) (Qo st) .none kV doc pm an cdv ct):=⟨⟨oc,od,kV,doc,pm,an,cdv,ct,osl,rfl,l,c⟩,k⟩
end
theorem Qw {A:Around} {k:Nat} (hr:Room k A):A.units+1 < cLine:=Nat.lt_of_le_of_lt (Nat.add_le_add_left (by decide:1<=64) _) hr.units
section
variable {X:Cx}
end
theorem KH {A B:Prop} (h:B):if false=true then A else B:=by
 rw [if_neg Bool.false_ne_true]
 exact h
theorem KI {A B:Prop} (h:A):if true=true then A else B:=by
 rw [if_pos rfl]
 exact h
end L2
set_option maxHeartbeats 4000000
namespace L2
open PySem PySem.Spec PyProof.Rows
section
variable {κ:Type} [DecidableEq κ]
def ZY (kvs:List (κ×V)) (k:κ):Option V:=(kvs.find? fun kv=>decide (kv.1=k)).map (·.2)
def J9 (kvs:List (κ×V)) (k:κ) (v:V):List (κ×V) :=
 if (kvs.any fun kv=>decide (kv.1=k))=true then kvs.map (fun kv=>if kv.1=k then (kv.1,v) else kv) else kvs++[(k,v)]
def Yq (kvs:List (κ×V)) (k:κ):List (κ×V):=kvs.filter fun kv=>decide (kv.1≠k)
theorem zZ {p:κ×V} {r:List (κ×V)} {k:κ} (e:p.1=k):ZY (p::r) k=some p.2:=by simp [ZY,List.find?_cons,e]
theorem zY {p:κ×V} {r:List (κ×V)} {k:κ} (e:¬ p.1=k):ZY (p::r) k=ZY r k:=by simp [ZY,List.find?_cons,e]
theorem Vn (k:κ):∀ kvs:List (κ×V),(kvs.any fun kv=>decide (kv.1=k))=(ZY kvs k).isSome
  | []=>rfl
  | p::r=>by
    rw [List.any_cons]
    by_cases e:p.1=k
    . simp only [zZ e,decide_eq_true e,Bool.true_or,Option.isSome_some]
    . rw [zY e,decide_eq_false e,Bool.false_or];exact Vn k r
theorem Xn (kvs:List (κ×V)) (k:κ) (v:V):(J9 kvs k v).length<=kvs.length+1:=by
 unfold J9
 split
 ·rw [List.length_map];omega
 ·rw [List.length_append,List.length_cons,List.length_nil];omega
theorem RelO.isSome_eq {o:Option V} {u:Option Value} (r:RelO o u):o.isSome=u.isSome:=by
  cases o with
  | none=>cases u with
    | none=>rfl
    | some _=>exact (show False from r).elim
  | some _=>cases u with
    | none=>exact (show False from r).elim
    | some _=>rfl
theorem RelO.getD {o:Option V} {u:Option Value} {d:V} {d':Value} (r:RelO o u) (rd:RelV d d'):RelV (o.getD d) (u.getD d'):=by
  cases o with
  | none=>cases u with
    | none=>exact rd
    | some _=>exact (show False from r).elim
  | some _=>cases u with
    | none=>exact (show False from r).elim
    | some _=>exact r
theorem KV.val {kvs:List (κ×V)} {vs:List (κ×Value)} (r:KV kvs vs) (k:κ):RelO (ZY kvs k) (valueAt vs k):=by
  unfold KV at r
  induction r with
  | nil=>exact True.intro
  | @cons p q ps qs h t ih =>
    obtain ⟨h1,h2⟩:=h
    by_cases e:p.1=k
    . have e':q.1=k:=h1.symm.trans e
      have b:valueAt (q::qs) k=some q.2:=by simp [valueAt,List.find?_cons,e']
      rw [zZ e,b];exact h2
    . have e':¬ q.1=k:=fun z=>e (h1.trans z)
      have b:valueAt (q::qs) k=valueAt qs k:=by simp [valueAt,List.find?_cons,e']
      rw [zY e,b];exact ih
theorem KV.any {kvs:List (κ×V)} {vs:List (κ×Value)} (r:KV kvs vs) (k:κ):(kvs.any fun kv=>decide (kv.1=k))=vs.any fun kv=>decide (kv.1=k):=by
 unfold KV at r
 induction r with
 | nil=>rfl
 | cons h t ih=>rw [List.any_cons,List.any_cons,ih,h.1]
theorem KV.repl {kvs:List (κ×V)} {vs:List (κ×Value)} (r:KV kvs vs) (k:κ) {y:V} {u:Value} (ry:RelV y u) :
    KV (kvs.map fun kv=>if kv.1=k then (kv.1,y) else kv) (vs.map fun kv=>if kv.1=k then (kv.1,u) else kv):=by
  unfold KV at r ⊢
  induction r with
  | nil=>exact .nil
  | @cons p q ps qs h t ih =>
    rw [List.map_cons,List.map_cons]
    refine .cons ?_ ih
    obtain ⟨h1,h2⟩:=h
    by_cases e:p.1=k
    . rw [if_pos e,if_pos (h1.symm.trans e)];exact ⟨h1,ry⟩
    . rw [if_neg e,if_neg (fun z=>e (h1.trans z))];exact ⟨h1,h2⟩
theorem KV.put {kvs:List (κ×V)} {vs:List (κ×Value)} (r:KV kvs vs) (k:κ) {y:V} {u:Value} (ry:RelV y u):KV (J9 kvs k y) (stored vs k u):=by
 unfold J9 stored
 rw [r.any k]
 by_cases e:(vs.any fun kv=>decide (kv.1=k))=true
 ·rw [if_pos e,if_pos e];exact r.repl k ry
 ·rw [if_neg e,if_neg e];exact Paired.snoc r ⟨rfl,ry⟩
theorem KV.drop {kvs:List (κ×V)} {vs:List (κ×Value)} (r:KV kvs vs) (k:κ):KV (Yq kvs k) (without vs k):=by
  unfold KV at r ⊢
  unfold Yq without
  induction r with
  | nil=>exact .nil
  | @cons p q ps qs h t ih =>
    obtain ⟨h1,h2⟩:=h
    rw [List.filter_cons,List.filter_cons]
    by_cases e:p.1=k
    . have a:¬ decide (p.1≠k)=true:=by simp [e]
      have b:¬ decide (q.1≠k)=true:=by simp [h1.symm.trans e]
      rw [if_neg a,if_neg b];exact ih
    . have e':¬ q.1=k:=fun z=>e (h1.trans z)
      have a:decide (p.1≠k)=true:=by simp [e]
      have b:decide (q.1≠k)=true:=by simp [e']
      rw [if_pos a,if_pos b];exact .cons ⟨h1,h2⟩ ih
theorem KV.length {kvs:List (κ×V)} {vs:List (κ×Value)} (r:KV kvs vs):kvs.length=vs.length:=Paired.length r
theorem yC (kvs:List (κ×V)) (k:κ):(Yq kvs k).length<=kvs.length:=List.length_filter_le _ _
end
theorem XV {P:Program} {w:World} {k:Key} {u:Value} (r:RelV (kV k) u):(QT P w).is k u=true:=by
 cases k with
 | inl i=>obtain ⟨t,e⟩:=(show ∃ t,u=Value.int i t from r);subst e;exact yP P w i t
 | inr x=>obtain ⟨t,e⟩:=(show ∃ t,u=Value.str x t from r);subst e;exact yQ P w x t
theorem jC {P:Program} {w:World}:∀ {ks:List Key} {us:List Value},Vals (ks.map kV) us->ItemsAre (QT P w) ks us
  | [],_,r=>by rw [List.map_nil] at r;cases r;exact .nil
  | k::ks,_,r=>by
    rw [List.map_cons] at r
    cases r with
    | cons h t=>exact .cons (XV h) (jC t)
abbrev KT (H:Hp):List (List Key×V)->List (List Key×Addr×Value)->Prop:=Paired fun p q=>p.1=q.1/\H q.2.1=some (.tup (p.1.map kV))/\RelV p.2 q.2.2
theorem KT.val {H:Hp} {kvs:List (List Key×V)} {xs:List (List Key×Addr×Value)} (r:KT H kvs xs) (k:List Key):RelO (ZY kvs k) ((atKey xs k).map (·.2)):=by
  induction r with
  | nil=>exact True.intro
  | @cons p q ps qs h t ih =>
    obtain ⟨h1,_,h2⟩:=h
    by_cases e:p.1=k
    . have e':q.1=k:=h1.symm.trans e
      have b:atKey (q::qs) k=some q.2:=by simp [atKey,List.find?_cons,e']
      rw [zZ e,b];exact h2
    . have e':¬ q.1=k:=fun z=>e (h1.trans z)
      have b:atKey (q::qs) k=atKey qs k:=by simp [atKey,List.find?_cons,e']
      rw [zY e,b];exact ih
theorem KT.repl {H:Hp} {kvs:List (List Key×V)} {xs:List (List Key×Addr×Value)} (r:KT H kvs xs) (k:List Key) {y:V} {u:Value} (ry:RelV y u) :
    KT H (kvs.map fun kv=>if kv.1=k then (kv.1,y) else kv) (xs.map (putAt k u)):=by
  induction r with
  | nil=>exact .nil
  | @cons p q ps qs h t ih =>
    rw [List.map_cons,List.map_cons]
    refine .cons ?_ ih
    obtain ⟨h1,h2,h3⟩:=h
    unfold putAt
    by_cases e:p.1=k
    . rw [if_pos e,if_pos (h1.symm.trans e)];exact ⟨h1,h2,ry⟩
    . rw [if_neg e,if_neg (fun z=>e (h1.trans z))];exact ⟨h1,h2,h3⟩
theorem KT.put {H:Hp} {kvs:List (List Key×V)} {xs:List (List Key×Addr×Value)} (r:KT H kvs xs) (k:List Key) {b:Addr} {y:V} {u:Value} (hb:H b=some (.tup (k.map kV))) (ry:RelV y u) :
  KT H (J9 kvs k y) (storedH xs k b u):=by
 have e:(kvs.any fun kv=>decide (kv.1=k))=(atKey xs k).isSome:=by
  rw [Vn,(r.val k).isSome_eq,Option.isSome_map]
 unfold J9 storedH
 rw [e]
 by_cases q:(atKey xs k).isSome=true
 ·rw [if_pos q,if_pos q];exact r.repl k ry
 ·rw [if_neg q,if_neg q];exact Paired.snoc r ⟨rfl,hb,ry⟩
theorem KT.keeps {H H':Hp} {kvs:List (List Key×V)} {xs:List (List Key×Addr×Value)} (r:KT H kvs xs) (ht:∀ b ys,H b=some (.tup ys)->H' b=some (.tup ys)):KT H' kvs xs :=
 Paired.mapP r fun _ _ z=>⟨z.1,ht _ _ z.2.1,z.2.2⟩
section
variable {P:Program} {w:World} {H:Hp} {h:Heap} {a:Addr}
theorem Qab {u:HO} (ok:HOk P w H h) (e:Rd H a u):ObjOk P w H h a u:=e.ok ok
theorem qW {kvs:List (Key×V)} (ok:HOk P w H h) (e:Rd H a (.dK kvs)):kvs.length<=sizeLine/\(a==sysModules)=false/\∃ vs,KV kvs vs/\h.DictOf (QT P w) a vs :=
 show ObjOk P w H h a (.dK kvs) from Qab ok e
theorem qV {kvs:List (Key×V)} (ok:HOk P w H h) (e:H a=some (.dK kvs)):kvs.length<=sizeLine/\(a==sysModules)=false/\∃ vs,KV kvs vs/\h.DictOf (QT P w) a vs:=qW ok (.inl e)
theorem Y3 {ks:List Key} (ok:HOk P w H h) (e:H a=some (.tup (ks.map kV))):(tupleKind (QT P w)).is h ks a:=by
 obtain ⟨_,its,r,o,h1,h2,n,h3⟩:=(show ObjOk P w H h a (.tup (ks.map kV)) from ok a _ e)
 exact ⟨o,its.toArray,n,h1,h2,h3,by simpa using jC r⟩
theorem ju {kvs:List (List Key×V)} (ok:HOk P w H h) (e:Rd H a (.dT kvs)):kvs.length<=sizeLine/\(a==sysModules)=false /\
    ∃ xs,KT H kvs xs/\h.DictOfH (tupleKind (QT P w)) a xs:=by
  obtain ⟨z,y,xs,r,o,es,ep,h1,h2,h3,h4,h5⟩:=(show ObjOk P w H h a (.dT kvs) from Qab ok e)
  refine ⟨z,y,xs,r,o,es,ep,h1,h2,h3,h4,fun x hx=>?_,h5⟩
  have all:∀ {l:List (List Key×V)} {m:List (List Key×Addr×Value)},KT H l m->∀ x∈m,(tupleKind (QT P w)).is h x.1 x.2.1:=by
    intro l m q
    induction q with
    | nil=>intro x hx;exact nomatch hx
    | @cons p q ps qs hq t ih =>
      intro x hx
      rcases List.mem_cons.mp hx with e | hx
      . subst e
        exact Y3 ok (by rw [<- hq.1];exact hq.2.1)
      . exact ih x hx
  exact all r x hx
theorem Yr {kvs:List (List Key×V)} (ok:HOk P w H h) (e:H a=some (.dT kvs)):kvs.length<=sizeLine/\(a==sysModules)=false /\
  ∃ xs,KT H kvs xs/\h.DictOfH (tupleKind (QT P w)) a xs:=ju ok (.inl e)
end
def DGet (H:Hp) (a:Addr) (y:V) (r:Option V):Prop :=
 (∃ kvs k,Rd H a (.dK kvs)/\y=kV k/\r=ZY kvs k)∨∃ kvs k b,Rd H a (.dT kvs)/\y=.ref b/\H b=some (.tup (k.map kV))/\r=ZY kvs k
def DPut (H:Hp) (a:Addr) (y v:V) (H':Hp):Prop :=
 (∃ kvs k,H a=some (.dK kvs)/\y=kV k/\kvs.length < sizeLine/\H'=upd H a (.dK (J9 kvs k v))) ∨
 ∃ kvs k b,H a=some (.dT kvs)/\y=.ref b/\H b=some (.tup (k.map kV))/\kvs.length < sizeLine/\H'=upd H a (.dT (J9 kvs k v))
theorem DGet.k {H:Hp} {a:Addr} {kvs:List (Key×V)} {k:Key} (e:H a=some (.dK kvs)):DGet H a (kV k) (ZY kvs k):=.inl ⟨kvs,k,.inl e,rfl,rfl⟩
theorem DPut.k {H:Hp} {a:Addr} {kvs:List (Key×V)} {k:Key} {v:V} (e:H a=some (.dK kvs)) (hl:kvs.length < sizeLine):DPut H a (kV k) v (upd H a (.dK (J9 kvs k v))):=.inl ⟨kvs,k,e,rfl,hl,rfl⟩
section
variable {X:Cx} {pins:List (Addr×Obj)} {σ:St} {H:Hp} {s:Shared} {a:Addr} {y v:V} {u r:Value} {o:Option V} {A:Around} {E:Value->Shared->Prop}
theorem Inv.big (I:Inv X pins σ H s):sysModules < s.heap.objs.size:=by
 have h:mainGlobals < s.heap.objs.size:=(I.mod.glob.keeps I.bk).lt
 exact Nat.lt_trans (by decide) h
theorem Kx {Q:Value->Shared->Prop} (hu:A.units+1 < cLine) (I:Inv X pins σ H s) (g:DGet H a y (some v)) (ry:RelV y u) (h:∀ w' s',Inv X pins σ H s'->RelV v w'->Q w' s') :
  wpAny (model X.prog X.w) A (getItem (.ref a) u) Q E s:=by
 rcases g with ⟨kvs,k,e,ey,l⟩ | ⟨kvs,k,b,e,ey,eb,l⟩
 ·subst ey
  obtain ⟨z,hd,vs,rel,dd⟩:=qW I.hok e
  obtain ⟨w',hw,rw'⟩:=RelO.some_of (v:=v) (o:=valueAt vs k) (by rw [l];exact rel.val k)
  exact wpAny_getItem_of (XV ry) dd.mapOf hw (h w' _ (I.tok _) rw')
 ·subst ey
  cases (show u=Value.ref b from ry)
  obtain ⟨z,hd,xs,rel,dd⟩:=ju I.hok e
  obtain ⟨w',hw,rw'⟩:=RelO.some_of (v:=v) (o:=(atKey xs k).map (·.2)) (by rw [l];exact rel.val k)
  obtain ⟨p,hp,hp2⟩:=Option.map_eq_some_iff.mp hw
  refine wpAny_getItem_heap (tupleKind_room_in1 hu) (Y3 I.hok eb) dd hp ?_
  rw [hp2]
  exact h w' _ (I.tok _) rw'
theorem QcG {Q:Value->Shared->Prop} (hu:A.units+1 < cLine) (I:Inv X pins σ H s) (g:DGet H a y o) (ry:RelV y u) (h:∀ s',Inv X pins σ H s'->Q (.bool o.isSome) s') :
  wpAny (model X.prog X.w) A (compareOp .In u (.ref a)) Q E s:=by
 rcases g with ⟨kvs,k,e,ey,l⟩ | ⟨kvs,k,b,e,ey,eb,l⟩
 ·subst ey
  obtain ⟨z,hd,vs,rel,dd⟩:=qW I.hok e
  refine wpAny_in_of (XV ry) hd dd.mapOf ?_
  rw [<- (rel.val k).isSome_eq,<- l]
  exact h _ (I.tok _)
 ·subst ey
  cases (show u=Value.ref b from ry)
  obtain ⟨z,hd,xs,rel,dd⟩:=ju I.hok e
  refine wpAny_in_heap (tupleKind_room_in1 hu) (Y3 I.hok eb) hd dd ?_
  have q:=(rel.val k).isSome_eq
  rw [Option.isSome_map] at q
  rw [<- q,<- l]
  exact h _ (I.tok _)
theorem qA {h':Heap} {t':Nat} {ob:HO} (I:Inv X pins σ H s) (mu:Mut (H a)) (hs:Heap.SameBut a s.heap h') (he:∃ q,h'.get? a=some q) (new:ObjOk X.prog X.w (upd H a ob) h' a ob) :
  Inv X pins σ (upd H a ob) { s with heap:=h',toks:=t' } :=
 I.write (x:=a) (e:=a) mu (.inl rfl) (fun b q hb z=>(hs.2 b hb).trans z) he new
theorem xj {P:Program} {w:World} {H':Hp} {h':Heap} {kvs:List (Key×V)} {vs:List (Key×Value)} (z:kvs.length<=sizeLine) (hd:(a==sysModules)=false) (rel:KV kvs vs) (dd:h'.DictOf (QT P w) a vs) :
  ObjOk P w H' h' a (.dK kvs):=⟨z,hd,vs,rel,dd⟩
theorem Ky {H':Hp} {Q:Unit->Shared->Prop} (hu:A.units+1 < cLine) (I:Inv X pins σ H s) (g:DPut H a y v H') (ry:RelV y u) (rv:RelV v r) (h:∀ s',Inv X pins σ H' s'->Q () s') :
  wpAny (model X.prog X.w) A (setItem (.ref a) u r) Q E s:=by
 rcases g with ⟨kvs,k,e,ey,l,eH⟩ | ⟨kvs,k,b,e,ey,eb,l,eH⟩
 ·subst ey eH
  obtain ⟨z,hd,vs,rel,dd⟩:=qV I.hok e
  have hz:vs.length<=sizeLine:=by rw [<- rel.length];exact z
  have hl:(J9 kvs k v).length<=sizeLine:=by have:=Xn kvs k v;omega
  refine wpAny_setItem_pairs (hsz:=hz) (XV ry) dd fun h' dd' hs=>h _ ?_
  have he:∃ q,h'.get? a=some q:=let ⟨q,_,_,hq,_⟩:=dd';⟨q,hq⟩
  exact qA I (by rw [e];exact True.intro) hs he (xj hl hd (rel.put k rv) dd')
 ·subst ey eH
  cases (show u=Value.ref b from ry)
  obtain ⟨z,hd,xs,rel,dd⟩:=Yr I.hok e
  have hz:xs.length<=sizeLine:=by rw [<- Paired.length rel];exact z
  have hl:(J9 kvs k v).length<=sizeLine:=by have:=Xn kvs k v;omega
  refine wpAny_setItem_heap (hsz:=hz) (tupleKind_room_in1 hu) (Y3 I.hok eb) dd fun h' dd' hs=>h _ ?_
  obtain ⟨q,es,ep,hq,h2,h3,h4,_,h5⟩:=dd'
  refine qA I (by rw [e];exact True.intro) hs ⟨q,hq⟩ ⟨hl,hd,_,(rel.put k eb rv).keeps fun c ys ec=>?_,q,es,ep,hq,h2,h3,h4,h5⟩
  rw [QH (QbY ec e (fun z=>nomatch z))]
  exact ec
end
section
variable {X:Cx} {pins:List (Addr×Obj)} {σ:St} {H:Hp} {s:Shared} {a:Addr} {kvs:List (Key×V)} {k:Key} {u:Value} {A:Around} {E:Value->Shared->Prop}
theorem QbA {Q:Unit->Shared->Prop} (I:Inv X pins σ H s) (e:H a=some (.dK kvs)) (ry:RelV (kV k) u) (l:(ZY kvs k).isSome=true) (h:∀ s',Inv X pins σ (upd H a (.dK (Yq kvs k))) s'->Q () s') :
  wpAny (model X.prog X.w) A (delItem (.ref a) u) Q E s:=by
 obtain ⟨z,hd,vs,rel,dd⟩:=qV I.hok e
 refine wpAny_delItem_slot dd.typeIs (by decide) PySem.F.slot_dict_delitem
  (call_meetsIn PySem.F.slot_dict_delitem dd.typeIs PySem.F.entry_dict_delitem (PySem.F.args_dict_delitem_2 _ _) (meets_dict_delitem_pairs (QT X.prog X.w) a (XV ry)) ⟨vs,dd,by rw [<- rel.length];exact z,by rw [<- (rel.val k).isSome_eq];exact l,fun h' dd' hs=>h _ ?_⟩)
 have he:∃ q,h'.get? a=some q:=let ⟨q,_,_,hq,_⟩:=dd';⟨q,hq⟩
 exact qA I (by rw [e];exact True.intro) hs he (xj (Nat.le_trans (yC kvs k) z) hd (rel.drop k) dd')
theorem kQ {v:V} {more:List Value} {Q:Value->Shared->Prop} (I:Inv X pins σ H s) (e:H a=some (.dK kvs)) (ry:RelV (kV k) u) (l:ZY kvs k=some v) (hm:more=[]∨∃ x,more=[x])
  (h:∀ w' s',Inv X pins σ (upd H a (.dK (Yq kvs k))) s'->RelV v w'->Q w' s'):wpAny (model X.prog X.w) A (call (.builtin "dict.pop") (.ref a::u::more)) Q E s:=by
 obtain ⟨z,hd,vs,rel,dd⟩:=qV I.hok e
 obtain ⟨w',hw,rw'⟩:=RelO.some_of (v:=v) (o:=valueAt vs k) (by rw [<- l];exact rel.val k)
 have hp:(keyPart u).isSome=true:=by
  cases k with
  | inl i=>obtain ⟨t,q⟩:=(show ∃ t,u=Value.int i t from ry);subst q;rfl
  | inr x=>obtain ⟨t,q⟩:=(show ∃ t,u=Value.str x t from ry);subst q;rfl
 have ha:argsOk "dict.pop" ⟨.ref a::u::more,[]⟩:=by
  rcases hm with q | ⟨x,q⟩
  ·subst q;exact PySem.F.args_dict_pop_2 _ _
  ·subst q;exact PySem.F.args_dict_pop_3 _ _ _
 refine call_meetsIn PySem.F.slot_dict_pop dd.typeIs PySem.F.entry_dict_pop ha (meets_dict_pop_there (QT X.prog X.w) a (XV ry) more hm hp)
  ⟨vs,w',dd,by rw [<- rel.length];exact z,hw,fun h' dd' hs=>h w' _ ?_ rw'⟩
 have he:∃ q,h'.get? a=some q:=let ⟨q,_,_,hq,_⟩:=dd';⟨q,hq⟩
 exact qA I (by rw [e];exact True.intro) hs he (xj (Nat.le_trans (yC kvs k) z) hd (rel.drop k) dd')
theorem Qar {r:Value} {Q:Value->Shared->Prop} (I:Inv X pins σ H s) (e:H a=some (.dK kvs)) (ry:RelV (kV k) u) (l:ZY kvs k=none) (h:∀ s',Inv X pins σ H s'->Q r s') :
  wpAny (model X.prog X.w) A (call (.builtin "dict.pop") [.ref a,u,r]) Q E s:=by
 obtain ⟨z,hd,vs,rel,dd⟩:=qV I.hok e
 have hn:valueAt vs k=none:=RelO.none_of (by rw [<- l];exact rel.val k)
 have hp:(keyPart u).isSome=true:=by
  cases k with
  | inl i=>obtain ⟨t,q⟩:=(show ∃ t,u=Value.int i t from ry);subst q;rfl
  | inr x=>obtain ⟨t,q⟩:=(show ∃ t,u=Value.str x t from ry);subst q;rfl
 exact call_meetsIn PySem.F.slot_dict_pop dd.typeIs PySem.F.entry_dict_pop (PySem.F.args_dict_pop_3 _ _ _) (meets_dict_pop_default (QT X.prog X.w) a (XV ry) hd hp r) ⟨vs,dd,hn,h _ (I.tok _)⟩
theorem QbH {Q:Value->Shared->Prop} (I:Inv X pins σ H s) (e:Rd H a (.dK kvs)) (h:∀ t s',Inv X pins σ H s'->Q (.int kvs.length t) s'):wpAny (model X.prog X.w) A (call (.builtin "len") [.ref a]) Q E s:=by
 obtain ⟨z,hd,vs,rel,dd⟩:=qW I.hok e
 refine call_len_dict hd dd (by rw [<- rel.length];rw [sizeLine_eq] at z;omega) ?_
 rw [<- rel.length]
 exact h _ _ (I.tok _)
end
def Qai (i:Expr):Prop:=∀ ov iv,subscripted i false ov iv=operate [ov,iv] (getItem ov iv)
theorem kF {prog:Program} {w:World} {A:Around} {E:Value->Shared->Prop} {s:Shared} {env:Env} {value slice:Expr} {pos:Pos} {T id:String} {Q:Value->Shared->Prop}
  (hl:typeLookup (.type T) "__getitem__" = pure (some (.builtin id))) (hs:Qai slice)
  (h:wpAny (model prog w) A (eval value env) (fun o s₁=>wpAny (model prog w) A (eval slice env) (fun i s₂=>s₂.TypeIs o T/\wpAny (model prog w) A (getItem o i) Q E s₂) E s₁) E s) :
  wpAny (model prog w) A (eval (.Subscript value slice pos) env) Q E s:=by
 refine Subscript_ (wpAny_mono h (fun o s₁ h₁=>wpAny_mono h₁ (fun i s₂ h₂=>?_) fun _ _ x=>x) fun _ _ x=>x)
 obtain ⟨hT,h₂⟩:=h₂
 unfold subscriptTail
 refine wpAny_bind ?_
 rw [getitemInPython_of_ne hT.not_modules]
 refine wpAny_bind (wpAny_specialOf hT hl ?_)
 have fin:wpAny (model prog w) A (subscripted slice false o i) (fun r s₃=>wpAny (model prog w) A (letTemporaryGo value o r >>= fun _=>pure r) Q E s₃) E s₂:=by
  rw [hs o i]
  exact wpAny_operating (wpAny_mono h₂ (fun r s₃ h₃=>wpAny_bind (wpAny_letTemporaryGo (wpAny_pure h₃))) fun _ _ x=>x)
 first
  | exact wpAny_pure (wpAny_bind fin)
  | exact wpAny_bind (wpAny_pure (wpAny_bind fin))
  | exact wpAny_bind fin
theorem yA {X:Cx} {pins:List (Addr×Obj)} {σ:St} {H:Hp} {s:Shared} {a:Addr} {y:V} {o:Option V} (I:Inv X pins σ H s) (g:DGet H a y o):s.TypeIs (.ref a) "dict" := by
 rcases g with ⟨kvs,k,e,_,_⟩ | ⟨kvs,k,b,e,_,_,_⟩
 ·obtain ⟨_,_,vs,_,dd⟩:=qW I.hok e
  exact dd.typeIs
 ·obtain ⟨_,_,xs,_,dd⟩:=ju I.hok e
  exact dd.typeIs
section
variable {X:Cx} {o i e value:Expr} {pos pos' tpos:Pos} {td ty tv:TE}
end
theorem GF {P:Program} {w:World} {H:Hp} (h:Heap) (hb:sysModules < h.objs.size):ObjOk P w H (h.push { cls:=.type "dict", data:=.dict #[] }) h.objs.size (.dK []) :=
 ⟨Nat.zero_le _,beq_eq_false_iff_ne.mpr (Ne.symm (Nat.ne_of_lt hb)),[],.nil,Heap.DictOf.new h⟩
section
variable {X:Cx} {pos:Pos}
end
def Xp (kvs more:List (Key×V)):List (Key×V):=more.foldl (fun acc kv=>J9 acc kv.1 kv.2) kvs
theorem KV.merge:∀ {more:List (Key×V)} {rs:List (Key×Value)} {kvs:List (Key×V)} {vs:List (Key×Value)},KV more rs->KV kvs vs->KV (Xp kvs more) (merged vs rs):=by
  intro more rs kvs vs r
  unfold KV at r
  induction r generalizing kvs vs with
  | nil=>intro q;exact q
  | @cons p q ps qs h t ih =>
    intro r0
    have e:KV (J9 kvs p.1 p.2) (stored vs q.1 q.2):=by
      have:=r0.put p.1 h.2
      rw [<- h.1];exact this
    exact ih e
theorem XW:∀ (more kvs:List (Key×V)),(Xp kvs more).length<=kvs.length+more.length
  | [],kvs=>by show kvs.length<=kvs.length+0;omega
  | p::r,kvs=>by
    have h1:=XW r (J9 kvs p.1 p.2)
    have h2:=Xn kvs p.1 p.2
    show (Xp (J9 kvs p.1 p.2) r).length<=_
    rw [List.length_cons];omega
section
variable {X:Cx} {pins:List (Addr×Obj)} {σ:St} {H:Hp} {s:Shared} {a:Addr} {y d:V} {u r:Value} {o:Option V} {A:Around} {E:Value->Shared->Prop}
theorem Qap {Q:Value->Shared->Prop} (hu:A.units+1 < cLine) (I:Inv X pins σ H s) (g:DGet H a y o) (ry:RelV y u) (h:∀ w' s',Inv X pins σ H s'->RelV (o.getD .non) w'->Q w' s') :
  wpAny (model X.prog X.w) A (call (.builtin "dict.get") [.ref a,u]) Q E s:=by
 rcases g with ⟨kvs,k,e,ey,l⟩ | ⟨kvs,k,b,e,ey,eb,l⟩
 ·subst ey
  obtain ⟨z,hd,vs,rel,dd⟩:=qW I.hok e
  refine call_meetsIn PySem.F.slot_dict_get dd.typeIs PySem.F.entry_dict_get (PySem.F.args_dict_get_2 _ _) (meets_dict_get (QT X.prog X.w) a (XV ry) hd) ⟨_,dd.mapOf,h _ _ (I.tok _) ?_⟩
  rw [l]
  exact (rel.val k).getD rfl
 ·subst ey
  cases (show u=Value.ref b from ry)
  obtain ⟨z,hd,xs,rel,dd⟩:=ju I.hok e
  refine call_meetsIn PySem.F.slot_dict_get dd.typeIs PySem.F.entry_dict_get (PySem.F.args_dict_get_2 _ _) (meetsH_dict_get (tupleKind (QT X.prog X.w)) a b hd) ⟨tupleKind_room_in1 hu,k,xs,Y3 I.hok eb,dd,h _ _ (I.tok _) ?_⟩
  rw [l]
  exact (rel.val k).getD rfl
theorem Qaq {Q:Value->Shared->Prop} (hu:A.units+1 < cLine) (I:Inv X pins σ H s) (g:DGet H a y o) (ry:RelV y u) (rd:RelV d r) (h:∀ w' s',Inv X pins σ H s'->RelV (o.getD d) w'->Q w' s') :
  wpAny (model X.prog X.w) A (call (.builtin "dict.get") [.ref a,u,r]) Q E s:=by
 rcases g with ⟨kvs,k,e,ey,l⟩ | ⟨kvs,k,b,e,ey,eb,l⟩
 ·subst ey
  obtain ⟨z,hd,vs,rel,dd⟩:=qW I.hok e
  refine call_meetsIn PySem.F.slot_dict_get dd.typeIs PySem.F.entry_dict_get (PySem.F.args_dict_get_3 _ _ _) (meets_dict_get_default (QT X.prog X.w) a (XV ry) hd r) ⟨_,dd.mapOf,h _ _ (I.tok _) ?_⟩
  rw [l]
  exact (rel.val k).getD rd
 ·subst ey
  cases (show u=Value.ref b from ry)
  obtain ⟨z,hd,xs,rel,dd⟩:=ju I.hok e
  refine call_meetsIn PySem.F.slot_dict_get dd.typeIs PySem.F.entry_dict_get (PySem.F.args_dict_get_3 _ _ _) (meetsH_dict_get_default (tupleKind (QT X.prog X.w)) a b hd r) ⟨tupleKind_room_in1 hu,k,xs,Y3 I.hok eb,dd,h _ _ (I.tok _) ?_⟩
  rw [l]
  exact (rel.val k).getD rd
end
section
variable {X:Cx} {o e f:Expr} {apos cpos:Pos} {td ty tx:TE}
end
section
variable {X:Cx} {pins:List (Addr×Obj)} {σ:St} {H:Hp} {s:Shared} {a:Addr} {kvs:List (Key×V)} {A:Around} {E:Value->Shared->Prop}
end
section
variable {X:Cx} {pins:List (Addr×Obj)} {σ:St} {H:Hp} {s:Shared} {a:Addr} {y:V} {u:Value} {A:Around} {E:Value->Shared->Prop}
end
section
variable {X:Cx}
theorem Kt:Zy X (.builtin "len") (fun xs H Q=>∃ a kvs,xs=[V.ref a]/\H a=some (.dK kvs)/\Q (.int kvs.length) H):=by
 intro pins s σ H xs us Q I r h
 obtain ⟨a,kvs,rfl,ha,q⟩:=h
 obtain ⟨u,rfl,ru⟩:=YR r
 cases ru
 exact QbH I (.inl ha) fun t s' I'=>⟨.int kvs.length,H,I',⟨t,rfl⟩,q⟩
end
section
variable {κ:Type} [DecidableEq κ]
end
end L2
namespace D
open PySem PySem.Spec PyProof.Rows L2
abbrev St:=L2.St
inductive DV where
 | non | bl (b:Bool) | int (i:Int) | str (x:Str) | tup (xs:List DV) | lst (xs:List DV) | ref (i:Nat)
inductive OV where
 | lst (xs:List DV)
 | dic (kvs:List (Key×DV))
 | ins (c:Str) (fs:List (Str×DV))
abbrev Hs:=List OV
abbrev M:=StateT Hs Option
mutual
def RepV (K:PySem.W.Frag) (ρ:List Addr) (B:Addr->Prop) (H:Hp):DV->V->Prop
 | .non,v=>v=.non
 | .bl b,v=>v=.bl b
 | .int i,v=>v=.int i
 | .str x,v=>v=.str x
 | .tup ds,v=>∃ a xs,v=.ref a/\¬ B a/\SqT K H a xs/\RepL K ρ B H ds xs
 | .lst ds,v=>∃ a xs,v=.ref a/\¬ B a/\SqL K H a xs/\RepL K ρ B H ds xs
 | .ref i,v=>∃ a,v=.ref a/\ρ[i]?=some a
def RepL (K:PySem.W.Frag) (ρ:List Addr) (B:Addr->Prop) (H:Hp):List DV->List V->Prop
 | [],xs=>xs=[]
 | d::ds,xs=>∃ x r,xs=x::r/\RepV K ρ B H d x/\RepL K ρ B H ds r
end
def ORep (K:PySem.W.Frag) (ρ:List Addr) (B:Addr->Prop) (H:Hp) (a:Addr):OV->Prop
 | .lst ds=>∃ xs,H a=some (.lst xs)/\RepL K ρ B H ds xs
 | .dic kvs=>∃ xs:List (Key×V),H a=some (.dK xs)/\xs.map (·.1)=kvs.map (·.1)/\RepL K ρ B H (kvs.map (·.2)) (xs.map (·.2))
 | .ins c fs=>∃ (C dx:Addr) (xs:List (Str×V)),PySem.W.nsIn K mainGlobals c=some (some (.ref C))/\H a=some (.ins C dx xs)/\xs.map (·.1)=fs.map (·.1)/\RepL K ρ B H (fs.map (·.2)) (xs.map (·.2))
structure Gr (K:PySem.W.Frag) (ρ:List Addr) (B:Addr->Prop) (H:Hp) (ρ':List Addr) (B':Addr->Prop) (H':Hp):Prop where
 pre:ρ <+: ρ'
 ban:∀ a,B a->B' a
 new:∀ a,B' a->B a∨(H a=none/\K.lookup a=none)
 rnew:∀ a∈ρ',a∈ρ∨H a=none
 keep:∀ a o,a∉ρ->H a=some o->H' a=some o
 trk:∀ a,H' a=none->H a=none
structure WOk (K:PySem.W.Frag) (ρ:List Addr) (B:Addr->Prop) (hp:Hs) (H:Hp):Prop where
 len:ρ.length=hp.length
 nd:ρ.Nodup
 obj:∀ (i:Nat) (a:Addr) (o:OV),ρ[i]?=some a->hp[i]?=some o->ORep K ρ B H a o
 rb:∀ a∈ρ,B a
 bt:∀ a,B a->H a≠none
 bk:∀ a,B a->K.lookup a=none
section
variable {K:PySem.W.Frag} {ρ ρ' ρ'':List Addr} {B B' B'':Addr->Prop} {H H' H'':Hp}
theorem Gr.refl:Gr K ρ B H ρ B H:=⟨List.prefix_rfl,fun _ h=>h,fun _ h=>.inl h,fun _ h=>.inl h,fun _ _ _ h=>h,fun _ h=>h⟩
theorem Gr.trans (a:Gr K ρ B H ρ' B' H') (b:Gr K ρ' B' H' ρ'' B'' H''):Gr K ρ B H ρ'' B'' H'' where
 pre:=a.pre.trans b.pre
 ban:=fun x h=>b.ban x (a.ban x h)
 new:=fun x h=>(b.new x h).elim (a.new x) fun z=>.inr ⟨a.trk x z.1,z.2⟩
 rnew:=fun x h=>(b.rnew x h).elim (a.rnew x) fun z=>.inr (a.trk x z)
 keep:=fun x o hn h=>b.keep x o (fun z=>(a.rnew x z).elim hn (fun z=>by rw [h] at z;cases z)) (a.keep x o hn h)
 trk:=fun x h=>a.trk x (b.trk x h)
structure Gs (K:PySem.W.Frag) (ρ:List Addr) (B:Addr->Prop) (H:Hp) (ρ':List Addr) (B':Addr->Prop) (H':Hp):Prop where
 pre:ρ <+: ρ'
 new:∀ a,B' a->B a∨(H a=none/\K.lookup a=none)
 keep:∀ a o,¬ B a->H a=some o->H' a=some o
 trk:∀ a,H' a=none->H a=none
theorem Gr.gs (rb:∀ a∈ρ,B a) (g:Gr K ρ B H ρ' B' H'):Gs K ρ B H ρ' B' H':=⟨g.pre,g.new,fun a o nb h=>g.keep a o (fun z=>nb (rb a z)) h,g.trk⟩
theorem Gs.refl:Gs K ρ B H ρ B H:=⟨List.prefix_rfl,fun _ h=>.inl h,fun _ _ _ h=>h,fun _ h=>h⟩
theorem Gs.trans (a:Gs K ρ B H ρ' B' H') (b:Gs K ρ' B' H' ρ'' B'' H''):Gs K ρ B H ρ'' B'' H'' where
 pre:=a.pre.trans b.pre
 new:=fun x h=>(b.new x h).elim (a.new x) fun z=>.inr ⟨a.trk x z.1,z.2⟩
 keep:=fun x o nb h=>b.keep x o (fun z=>(a.new x z).elim nb fun q=>by rw [h] at q;cases q.1) (a.keep x o nb h)
 trk:=fun x h=>a.trk x (b.trk x h)
theorem SqT.trk {a:Addr} {xs:List V} (h:SqT K H a xs):H a≠none∨∃ o,K.lookup a=some o:=by
 rcases h with (h | ⟨o,h⟩) | ⟨o,_,_,h,_⟩
 ·exact .inl (by rw [h];simp)
 ·exact .inl (by rw [h];simp)
 ·exact .inr ⟨o,h⟩
theorem SqL.trk {a:Addr} {xs:List V} (h:SqL K H a xs):H a≠none∨∃ o,K.lookup a=some o:=by
 rcases h with (h | ⟨o,h⟩) | ⟨o,_,_,h,_⟩
 ·exact .inl (by rw [h];simp)
 ·exact .inl (by rw [h];simp)
 ·exact .inr ⟨o,h⟩
theorem Gs.ok {a:Addr} (g:Gs K ρ B H ρ' B' H') (hb:¬ B a) (t:H a≠none∨∃ o,K.lookup a=some o):¬ B' a:=fun z =>
 (g.new a z).elim hb fun ⟨n,k⟩=>t.elim (fun q=>q n) fun ⟨o,q⟩=>by rw [k] at q;cases q
theorem Gs.sqT {a:Addr} {xs:List V} (g:Gs K ρ B H ρ' B' H') (hr:¬ B a) (h:SqT K H a xs):SqT K H' a xs:=by
 rcases h with (h | ⟨o,h⟩) | h
 ·exact .inl (.inl (g.keep _ _ hr h))
 ·exact .inl (.inr ⟨o,g.keep _ _ hr h⟩)
 ·exact .inr h
theorem Gs.sqL {a:Addr} {xs:List V} (g:Gs K ρ B H ρ' B' H') (hr:¬ B a) (h:SqL K H a xs):SqL K H' a xs:=by
 rcases h with (h | ⟨o,h⟩) | h
 ·exact .inl (.inl (g.keep _ _ hr h))
 ·exact .inl (.inr ⟨o,g.keep _ _ hr h⟩)
 ·exact .inr h
theorem U9 {i:Nat} {a:Addr} (p:ρ <+: ρ') (h:ρ[i]?=some a):ρ'[i]?=some a:=by
 obtain ⟨t,rfl⟩:=p
 rw [List.getElem?_append_left (List.getElem?_eq_some_iff.mp h).1];exact h
mutual
theorem RepV.gs (g:Gs K ρ B H ρ' B' H'):∀ (d:DV) (v:V),RepV K ρ B H d v->RepV K ρ' B' H' d v
  | .non,_,h=>by unfold RepV at h ⊢;exact h
  | .bl _,_,h=>by unfold RepV at h ⊢;exact h
  | .int _,_,h=>by unfold RepV at h ⊢;exact h
  | .str _,_,h=>by unfold RepV at h ⊢;exact h
  | .ref _,_,h=>by
    unfold RepV at h ⊢
    obtain ⟨a,e,h⟩:=h
    exact ⟨a,e,U9 g.pre h⟩
  | .tup ds,_,h=>by
    unfold RepV at h ⊢
    obtain ⟨a,xs,e,nb,sq,rl⟩:=h
    exact ⟨a,xs,e,g.ok nb (SqT.trk sq),g.sqT nb sq,RepL.gs g ds xs rl⟩
  | .lst ds,_,h=>by
    unfold RepV at h ⊢
    obtain ⟨a,xs,e,nb,sq,rl⟩:=h
    exact ⟨a,xs,e,g.ok nb (SqL.trk sq),g.sqL nb sq,RepL.gs g ds xs rl⟩
theorem RepL.gs (g:Gs K ρ B H ρ' B' H'):∀ (ds:List DV) (xs:List V),RepL K ρ B H ds xs->RepL K ρ' B' H' ds xs
  | [],_,h=>by unfold RepL at h ⊢;exact h
  | d::ds,_,h=>by
    unfold RepL at h ⊢
    obtain ⟨x,r,e,h1,h2⟩:=h
    exact ⟨x,r,e,RepV.gs g d x h1,RepL.gs g ds r h2⟩
end
theorem RepV.grow (rb:∀ a∈ρ,B a) (g:Gr K ρ B H ρ' B' H') (d:DV) (v:V) (h:RepV K ρ B H d v):RepV K ρ' B' H' d v:=RepV.gs (g.gs rb) d v h
theorem RepL.grow (rb:∀ a∈ρ,B a) (g:Gr K ρ B H ρ' B' H') (ds:List DV) (xs:List V) (h:RepL K ρ B H ds xs):RepL K ρ' B' H' ds xs:=RepL.gs (g.gs rb) ds xs h
theorem RepL.length:∀ {ds:List DV} {xs:List V},RepL K ρ B H ds xs->ds.length=xs.length
  | [],_,h=>by unfold RepL at h;subst h;rfl
  | d::ds,_,h=>by
    unfold RepL at h
    obtain ⟨x,r,rfl,_,h2⟩:=h
    simp [RepL.length h2]
theorem RepL.get:∀ {ds:List DV} {xs:List V} {i:Nat} {d:DV},RepL K ρ B H ds xs->ds[i]?=some d->∃ x,xs[i]?=some x/\RepV K ρ B H d x
  | [],_,_,_,_,e=>by simp at e
  | d::ds,_,0,_,h,e=>by
    unfold RepL at h
    obtain ⟨x,r,rfl,h1,_⟩:=h
    simp at e;subst e
    exact ⟨x,rfl,h1⟩
  | d::ds,_,i+1,_,h,e=>by
    unfold RepL at h
    obtain ⟨x,r,rfl,_,h2⟩:=h
    obtain ⟨y,h3,h4⟩:=RepL.get h2 (by simpa using e)
    exact ⟨y,by simpa using h3,h4⟩
theorem RepL.nil:RepL K ρ B H [] []:=by unfold RepL;rfl
theorem RepL.cons {d:DV} {x:V} {ds:List DV} {xs:List V} (h:RepV K ρ B H d x) (t:RepL K ρ B H ds xs):RepL K ρ B H (d::ds) (x::xs):=by
 unfold RepL;exact ⟨x,xs,rfl,h,t⟩
theorem RepL.append:∀ {ds es:List DV} {xs ys:List V},RepL K ρ B H ds xs->RepL K ρ B H es ys->RepL K ρ B H (ds++es) (xs++ys)
  | [],_,_,_,h,t=>by unfold RepL at h;subst h;exact t
  | d::ds,_,_,_,h,t=>by
    unfold RepL at h
    obtain ⟨x,r,rfl,h1,h2⟩:=h
    exact RepL.cons h1 (RepL.append h2 t)
theorem RepL.one {d:DV} {x:V} (h:RepV K ρ B H d x):RepL K ρ B H [d] [x]:=RepL.cons h RepL.nil
theorem RepL.take:∀ (n:Nat) {ds:List DV} {xs:List V},RepL K ρ B H ds xs->RepL K ρ B H (ds.take n) (xs.take n)
  | 0,_,_,_=>by simp;exact RepL.nil
  | _+1,[],_,h=>by unfold RepL at h;subst h;simp;exact RepL.nil
  | n+1,d::ds,_,h=>by
    unfold RepL at h
    obtain ⟨x,r,rfl,h1,h2⟩:=h
    exact RepL.cons h1 (RepL.take n h2)
theorem RepL.drop:∀ (n:Nat) {ds:List DV} {xs:List V},RepL K ρ B H ds xs->RepL K ρ B H (ds.drop n) (xs.drop n)
  | 0,_,_,h=>h
  | _+1,[],_,h=>by unfold RepL at h;subst h;simp;exact RepL.nil
  | n+1,d::ds,_,h=>by
    unfold RepL at h
    obtain ⟨x,r,rfl,h1,h2⟩:=h
    exact RepL.drop n h2
theorem Gr.laid {p:Addr} {o:HO} (h:H p=none):Gr K ρ B H ρ B (upd H p o) where
 pre:=List.prefix_rfl
 ban:=fun _ h=>h
 new:=fun _ h=>.inl h
 rnew:=fun _ h=>.inl h
 keep:=fun a u _ q=>by rw [QH (Zg q h)];exact q
 trk:=fun a q=>by
  by_cases e:a=p
  ·subst e;rw [QI] at q;cases q
  ·rw [QH e] at q;exact q
theorem ORep.gs {a:Addr} {o:OV} (g:Gs K ρ B H ρ' B' H') (hk:H' a=H a) (h:ORep K ρ B H a o):ORep K ρ' B' H' a o:=by
  cases o with
  | lst ds =>
    obtain ⟨xs,e,rl⟩:=h
    exact ⟨xs,hk.trans e,RepL.gs g _ _ rl⟩
  | dic kvs =>
    obtain ⟨xs,e,ek,rl⟩:=h
    exact ⟨xs,hk.trans e,ek,RepL.gs g _ _ rl⟩
  | ins c fs =>
    obtain ⟨C,dx,xs,nc,e,ek,rl⟩:=h
    exact ⟨C,dx,xs,nc,hk.trans e,ek,RepL.gs g _ _ rl⟩
theorem WOk.laid {hp:Hs} {p:Addr} {o:HO} (W:WOk K ρ B hp H) (h:H p=none):WOk K ρ B hp (upd H p o) where
 len:=W.len
 nd:=W.nd
 obj:=fun i a u e q=>ORep.gs ((Gr.laid h).gs W.rb) (by
  have hb:=W.bt a (W.rb a (List.mem_of_getElem? e))
  exact QH (fun z=>hb (z▸h))) (W.obj i a u e q)
 rb:=W.rb
 bt:=fun a z q=>W.bt a z ((Gr.laid (K:=K) (ρ:=ρ) (B:=B) h).trk a q)
 bk:=W.bk
end
inductive Sl where
 | un | val (d:DV) | acc (ds:List DV)
abbrev En:=List Sl
structure Ent where
 ρ:List Addr
 B:Addr->Prop
 H:Hp
structure SOk (K:PySem.W.Frag) (Z:Ent) (env:En) (σ:St) (ρ:List Addr) (B:Addr->Prop) (hp:Hs) (H:Hp):Prop where
 gr:Gr K Z.ρ Z.B Z.H ρ B H
 zb:∀ a,Z.B a->Z.H a≠none
 wo:WOk K ρ B hp H
 slot:∀ (i:Nat) (d:DV),env[i]?=some (.val d)->∃ v,σ[i]?=some (some v)/\RepV K ρ B H d v
 accs:∀ (i:Nat) (ds:List DV),env[i]?=some (.acc ds)->∃ a xs,σ[i]?=some (some (.ref a))/\H a=some (.lst xs)/\Z.H a=none/\B a/\a∉ρ/\RepL K ρ B H ds xs
 adis:∀ (i j:Nat) (ds es:List DV) (a:Addr),env[i]?=some (.acc ds)->env[j]?=some (.acc es)->σ[i]?=some (some (.ref a))->σ[j]?=some (some (.ref a))->i=j
 len:σ.length=env.length
theorem SOk.grow {K:PySem.W.Frag} {Z:Ent} {env:En} {σ:St} {ρ ρ':List Addr} {B B':Addr->Prop} {hp hp':Hs} {H H':Hp} (S:SOk K Z env σ ρ B hp H) (g:Gr K ρ B H ρ' B' H') (W:WOk K ρ' B' hp' H'):SOk K Z env σ ρ' B' hp' H' where
 gr:=S.gr.trans g
 zb:=S.zb
 wo:=W
 slot:=fun i d e=>let ⟨v,h1,h2⟩:=S.slot i d e;⟨v,h1,RepV.grow S.wo.rb g d v h2⟩
 accs:=fun i ds e=>by
  obtain ⟨a,xs,h1,h2,h3,h4,h5,h6⟩:=S.accs i ds e
  refine ⟨a,xs,h1,g.keep a _ h5 h2,h3,g.ban a h4,fun z=>?_,RepL.grow S.wo.rb g ds xs h6⟩
  rcases g.rnew a z with q | q
  ·exact h5 q
  ·rw [h2] at q;cases q
 adis:=S.adis
 len:=S.len
abbrev DEx:=En->M DV
abbrev DTx:=En->M Bool
abbrev DAx:=En->M (List DV)
inductive Fl where
 | nx | rt (d:DV) | bk | ct
abbrev DSx:=En->M (Fl×En)
def Fol (K:PySem.W.Frag) (ρ:List Addr) (B:Addr->Prop) (H:Hp) (d:DV) (hp':Hs) (Q:VK):Prop :=
 ∀ v ρ' B' H',Gr K ρ B H ρ' B' H'->WOk K ρ' B' hp' H'->RepV K ρ' B' H' d v->Q v H'
def QbB (K:PySem.W.Frag) (ρ:List Addr) (B:Addr->Prop) (H:Hp) (hp':Hs) (Q:Hp->Prop):Prop :=
 ∀ ρ' B' H',Gr K ρ B H ρ' B' H'->WOk K ρ' B' hp' H'->Q H'
def QcB (K:PySem.W.Frag) (ρ:List Addr) (B:Addr->Prop) (H:Hp) (ds:List DV) (hp':Hs) (Q:List V->Hp->Prop):Prop :=
 ∀ vs ρ' B' H',Gr K ρ B H ρ' B' H'->WOk K ρ' B' hp' H'->RepL K ρ' B' H' ds vs->Q vs H'
def tD (K:PySem.W.Frag) (f:DEx):TE:=fun σ H Q=>∃ Z env ρ B hp d hp',SOk K Z env σ ρ B hp H/\f env hp=some (d,hp')/\Fol K ρ B H d hp' Q
def tDT (K:PySem.W.Frag) (f:DTx):TT:=fun σ H Q=>∃ Z env ρ B hp d hp',SOk K Z env σ ρ B hp H/\f env hp=some (d,hp')/\QbB K ρ B H hp' (Q d)
def tDA (K:PySem.W.Frag) (f:DAx):TA:=fun σ H Q=>∃ Z env ρ B hp ds hp',SOk K Z env σ ρ B hp H/\f env hp=some (ds,hp')/\QcB K ρ B H ds hp' Q
def DE (X:Cx) (e:Expr) (f:DEx):Prop:=PE X e (tD X.K f)
def DT (X:Cx) (e:Expr) (f:DTx):Prop:=PT X e (tDT X.K f)
def DW (X:Cx) (e:Expr) (f:DTx):Prop:=PW X e (tDT X.K f)
def DA (X:Cx) (es:List Expr) (f:DAx):Prop:=PA X es (tDA X.K f)
def FolS (K:PySem.W.Frag) (Z:Ent) (ρ:List Addr) (B:Addr->Prop) (H:Hp) (fl:Fl) (env':En) (hp':Hs) (D:jb):Prop :=
  ∀ σ' ρ' B' H', Gs K ρ B H ρ' B' H' -> SOk K Z env' σ' ρ' B' hp' H' -> match fl with
    | .nx=>D.nx σ' H'
    | .bk=>D.bk σ' H'
    | .ct=>D.ct σ' H'
    | .rt d=>∀ v,RepV K ρ' B' H' d v->D.rt v H'
def tDS (K:PySem.W.Frag) (f:DSx):TS:=fun D σ H=>∃ Z env ρ B hp fl env' hp',SOk K Z env σ ρ B hp H/\f env hp=some ((fl,env'),hp')/\FolS K Z ρ B H fl env' hp' D
def DS (X:Cx) (st:Stmt) (f:DSx):Prop:=PS X st (tDS X.K f)
def DSs (X:Cx) (st:List Stmt) (f:DSx):Prop:=PSs X st (tDS X.K f)
section
variable {X:Cx}
theorem _root_.L2.PE.imp {e:Expr} {t t':TE} (h:PE X e t) (i:∀ σ H Q,t' σ H Q->t σ H Q):PE X e t':=fun pins s σ H Q I q=>h pins s σ H Q I (i σ H Q q)
theorem _root_.L2.PT.imp {e:Expr} {t t':TT} (h:PT X e t) (i:∀ σ H Q,t' σ H Q->t σ H Q):PT X e t':=fun pins s σ H Q I q=>h pins s σ H Q I (i σ H Q q)
theorem _root_.L2.PW.imp {e:Expr} {t t':TT} (h:PW X e t) (i:∀ σ H Q,t' σ H Q->t σ H Q):PW X e t':=fun wh pins s σ H Q I q=>h wh pins s σ H Q I (i σ H Q q)
theorem _root_.L2.PA.imp {es:List Expr} {t t':TA} (h:PA X es t) (i:∀ σ H Q,t' σ H Q->t σ H Q):PA X es t':=fun pos pins s σ H Q I q=>h pos pins s σ H Q I (i σ H Q q)
theorem _root_.L2.PS.imp {st:Stmt} {t t':TS} (h:PS X st t) (i:∀ Dn σ H,t' Dn σ H->t Dn σ H):PS X st t':=fun pins s σ H Dn I q=>h pins s σ H Dn I (i Dn σ H q)
theorem _root_.L2.PSs.imp {st:List Stmt} {t t':TS} (h:PSs X st t) (i:∀ Dn σ H,t' Dn σ H->t Dn σ H):PSs X st t':=fun pins s σ H Dn I q=>h pins s σ H Dn I (i Dn σ H q)
def Gi (K:PySem.W.Frag) (H:Hp):Prop:=∀ a o,H a=some o->K.lookup a=none
theorem Inv.kfree {pins:List (Addr×Obj)} {σ:St} {H:Hp} {s:Shared} (I:Inv X pins σ H s):Gi X.K H:=fun a o e=>by
  cases q:X.K.lookup a with
  | none=>rfl
  | some ob =>
    have:=(I.bs a ob (I.ok.mod.kin a ob q)).2
    rw [e] at this;cases this
theorem _root_.L2.PE.kf {e:Expr} {t:TE} (h:PE X e t):PE X e (fun σ H Q=>t σ H fun v H'=>Gi X.K H'->Q v H'):=fun pins s σ H Q I q =>
 thn (h pins s σ H _ I q) fun u s' ⟨v,H',I',r,z⟩=>⟨v,H',I',r,z (Inv.kfree I')⟩
theorem bind_some {α β:Type} {f:M α} {g:α->M β} {hp hp':Hs} {y:β} (h:(f >>= g) hp=some (y,hp')):∃ x hp1,f hp=some (x,hp1)/\g x hp1=some (y,hp'):=by
 change (f hp).bind (fun p=>g p.1 p.2)=some (y,hp') at h
 cases q:f hp with
 | none=>rw [q] at h;cases h
 | some p=>rw [q] at h;exact ⟨p.1,p.2,rfl,h⟩
theorem Qg {α:Type} {x y:α} {hp hp':Hs} (h:(pure x:M α) hp=some (y,hp')):x=y/\hp=hp':=by
 change some (x,hp)=some (y,hp') at h
 cases h;exact ⟨rfl,rfl⟩
theorem tD.run {K:PySem.W.Frag} {f:DEx} {Z:Ent} {env:En} {σ:St} {ρ:List Addr} {B:Addr->Prop} {hp hp1:Hs} {H:Hp} {d:DV} {Q:VK} (S:SOk K Z env σ ρ B hp H) (e:f env hp=some (d,hp1))
  (k:∀ v ρ' B' H',Gr K ρ B H ρ' B' H'->SOk K Z env σ ρ' B' hp1 H'->RepV K ρ' B' H' d v->Q v H'):tD K f σ H Q :=
 ⟨Z,env,ρ,B,hp,d,hp1,S,e,fun v ρ' B' H' g W r=>k v ρ' B' H' g (S.grow g W) r⟩
def Qd (i:Nat):DEx:=fun env=>match env[i]? with
 | some (.val d)=>pure d
 | _=>failure
def eC (d:DV):DEx:=fun _=>pure d
theorem Kz {i:Nat} {env:En} {hp hp':Hs} {d:DV} (h:Qd i env hp=some (d,hp')):env[i]?=some (.val d)/\hp=hp':=by
  unfold Qd at h
  cases q:env[i]? with
  | none=>rw [q] at h;cases h
  | some z =>
    rw [q] at h
    cases z with
    | val x=>obtain ⟨rfl,rfl⟩:=Qg h;exact ⟨rfl,rfl⟩
    | un=>cases h
    | acc _=>cases h
theorem Qc (i:Nat) {x:Str} {pos:Pos} (hN:X.N[i]?=some x:=by rfl) (hv:Vis X.env.scope x:=by first | exact Or.inl rfl | exact Or.inr (Or.inl rfl) | exact Or.inr (Or.inr rfl)) (hd:(x==("__debug__" : Str))=false:=by decide)
  (hcd:(x==("__classdict__" : Str))=false:=by decide):DE X (.Name x pos) (Qd i) :=
 (vK hN hv hd hcd).imp fun σ H Q ⟨Z,env,ρ,B,hp,d,hp',S,e,k⟩=>by
  obtain ⟨e1,rfl⟩:=Kz e
  obtain ⟨v,h1,h2⟩:=S.slot i d e1
  exact ⟨v,h1,k v ρ B H Gr.refl S.wo h2⟩
theorem Yo {e:Expr} {d:DV} {v:V} (h:PE X e (tC v)) (r:∀ K ρ B H,RepV K ρ B H d v):DE X e (eC d) :=
 h.imp fun σ H Q ⟨Z,env,ρ,B,hp,d',hp',S,e,k⟩=>by
  obtain ⟨rfl,rfl⟩:=Qg e
  exact k v ρ B H Gr.refl S.wo (r _ _ _ _)
theorem Qj {i:Int} {j pos}:DE X (.Constant (.int i) j pos) (eC (.int i)):=Yo Qa7 fun _ _ _ _=>by unfold RepV;rfl
theorem XS {b:Bool} {j pos}:DE X (.Constant (.bool b) j pos) (eC (.bl b)):=Yo Qcb fun _ _ _ _=>by unfold RepV;rfl
theorem JA {j pos}:DE X (.Constant .none j pos) (eC .non):=Yo Qa8 fun _ _ _ _=>by unfold RepV;rfl
theorem Q2 {x:Str} {j pos}:DE X (.Constant (.str x) j pos) (eC (.str x)):=Yo Qba fun _ _ _ _=>by unfold RepV;rfl
def tP2 (K:PySem.W.Frag) (g:DV->DV->M DV):R2:=fun x y H Q=>∃ ρ B hp dx dy d hp',WOk K ρ B hp H/\RepV K ρ B H dx x/\RepV K ρ B H dy y/\g dx dy hp=some (d,hp')/\Fol K ρ B H d hp' Q
def P2 (X:Cx) (f:Value->Value->Sem Value) (g:DV->DV->M DV):Prop:=OpR X f (tP2 X.K g)
def Qh (g:DV->DV->M DV) (a b:DEx):DEx:=fun env=>do let x <- a env;let y <- b env;g x y
variable {a b c:Expr} {fa fb fc:DEx} {pos:Pos}
theorem Xg {K:PySem.W.Frag} {g:DV->DV->M DV} {σ:St} {H:Hp} {Q:VK} (h:tD K (Qh g fa fb) σ H Q):tOp (tP2 K g) (tD K fa) (tD K fb) σ H Q:=by
 obtain ⟨Z,env,ρ,B,hp,d,hp',S,e,k⟩:=h
 obtain ⟨x,hp1,e1,e2⟩:=bind_some e
 obtain ⟨y,hp2,e3,e4⟩:=bind_some e2
 refine tD.run S e1 fun v ρ1 B1 H1 g1 S1 r1=>tD.run S1 e3 fun u ρ2 B2 H2 g2 S2 r2=>?_
 exact ⟨ρ2,B2,hp2,x,y,d,hp',S2.wo,RepV.grow S1.wo.rb g2 _ _ r1,r2,e4,fun w ρ' B' H' g W r=>k w ρ' B' H' (g1.trans (g2.trans g)) W r⟩
theorem Qq {op:Operator} {g:DV->DV->M DV} (ho:P2 X (binaryOp op) g) (ha:DE X a fa) (hb:DE X b fb):DE X (.BinOp a op b pos) (Qh g fa fb) :=
 (Qcc ho ha hb).imp fun _ _ _ h=>Xg h
theorem VF {op:CmpOp} {g:DV->DV->M DV} (ho:P2 X (compareOp op) g) (ha:DE X a fa) (hb:DE X b fb) (hm:behindInMarks op b=false):DE X (.Compare a [op] [b] pos) (Qh g fa fb) :=
 (gJ ho ha hb hm).imp fun _ _ _ h=>Xg h
def asB:DV->M Bool
 | .bl b=>pure b
 | _=>failure
def eB (f:DEx):DTx:=fun env=>do asB (<- f env)
theorem Xd {d:DV} {c:Bool} {hp hp':Hs} (h:asB d hp=some (c,hp')):d=.bl c/\hp=hp':=by
 cases d with
 | bl b=>obtain ⟨rfl,rfl⟩:=Qg h;exact ⟨rfl,rfl⟩
 | _=>cases h
theorem RepV.blI {K:PySem.W.Frag} {ρ:List Addr} {B:Addr->Prop} {H:Hp} {b:Bool} {v:V} (h:RepV K ρ B H (.bl b) v):v=.bl b:=by unfold RepV at h;exact h
theorem RepV.intI {K:PySem.W.Frag} {ρ:List Addr} {B:Addr->Prop} {H:Hp} {b:Int} {v:V} (h:RepV K ρ B H (.int b) v):v=.int b:=by unfold RepV at h;exact h
theorem RepV.strI {K:PySem.W.Frag} {ρ:List Addr} {B:Addr->Prop} {H:Hp} {b:Str} {v:V} (h:RepV K ρ B H (.str b) v):v=.str b:=by unfold RepV at h;exact h
theorem RepV.nonI {K:PySem.W.Frag} {ρ:List Addr} {B:Addr->Prop} {H:Hp} {v:V} (h:RepV K ρ B H .non v):v=.non:=by unfold RepV at h;exact h
theorem RepV.tupI {K:PySem.W.Frag} {ρ:List Addr} {B:Addr->Prop} {H:Hp} {ds:List DV} {v:V} (h:RepV K ρ B H (.tup ds) v):∃ a xs,v=.ref a/\¬ B a/\SqT K H a xs/\RepL K ρ B H ds xs:=by unfold RepV at h;exact h
theorem RepV.lstI {K:PySem.W.Frag} {ρ:List Addr} {B:Addr->Prop} {H:Hp} {ds:List DV} {v:V} (h:RepV K ρ B H (.lst ds) v):∃ a xs,v=.ref a/\¬ B a/\SqL K H a xs/\RepL K ρ B H ds xs:=by unfold RepV at h;exact h
theorem RepV.refI {K:PySem.W.Frag} {ρ:List Addr} {B:Addr->Prop} {H:Hp} {i:Nat} {v:V} (h:RepV K ρ B H (.ref i) v):∃ a,v=.ref a/\ρ[i]?=some a:=by unfold RepV at h;exact h
section
variable {K:PySem.W.Frag} {ρ:List Addr} {B:Addr->Prop} {H:Hp}
theorem Zh {b:Bool}:RepV K ρ B H (.bl b) (.bl b):=by unfold RepV;rfl
theorem Zo {b:Int}:RepV K ρ B H (.int b) (.int b):=by unfold RepV;rfl
theorem kh {b:Str}:RepV K ρ B H (.str b) (.str b):=by unfold RepV;rfl
theorem Jt:RepV K ρ B H .non .non:=by unfold RepV;rfl
theorem XO {a:Addr} {ds:List DV} {xs:List V} (h1:¬ B a) (h2:SqT K H a xs) (h3:RepL K ρ B H ds xs):RepV K ρ B H (.tup ds) (.ref a):=by unfold RepV;exact ⟨a,xs,rfl,h1,h2,h3⟩
theorem qI {a:Addr} {ds:List DV} {xs:List V} (h1:¬ B a) (h2:SqL K H a xs) (h3:RepL K ρ B H ds xs):RepV K ρ B H (.lst ds) (.ref a):=by unfold RepV;exact ⟨a,xs,rfl,h1,h2,h3⟩
end
theorem Yr {e:Expr} {f:DEx} (h:DE X e f) (he:∀ whole,isTrue e X.env whole=(do let v <- whole;standAt e.pos;holding [v] (truthy v)):=by intro _;rfl):DT X e (eB f) :=
 (Qbl h he).imp fun σ H Q ⟨Z,env,ρ,B,hp,d,hp',S,e,k⟩=>by
  obtain ⟨x,hp1,e1,e2⟩:=bind_some e
  obtain ⟨rfl,rfl⟩:=Xd e2
  exact tD.run S e1 fun v ρ1 B1 H1 g1 S1 r1=>⟨d,r1.blI,k ρ1 B1 H1 g1 S1.wo⟩
theorem QM {op:CmpOp} {g:DV->DV->M DV} (ho:P2 X (compareOp op) g) (ha:DE X a fa) (hb:DE X b fb) (hm:behindInMarks op b=false):DT X (.Compare a [op] [b] pos) (eB (Qh g fa fb)) :=
 (gZ ho ha hb hm).imp fun σ H Q ⟨Z,env,ρ,B,hp,d,hp',S,e,k⟩=>by
  obtain ⟨x,hp1,e1,e2⟩:=bind_some e
  obtain ⟨rfl,rfl⟩:=Xd e2
  exact Xg (tD.run S e1 fun v ρ1 B1 H1 g1 S1 r1=>⟨d,r1.blI,k ρ1 B1 H1 g1 S1.wo⟩)
def Ys (f g:DTx):DTx:=fun env=>do if <- f env then g env else pure false
def eOr (f g:DTx):DTx:=fun env=>do if <- f env then pure true else g env
def Xj (f:DTx):DTx:=fun env=>do let b <- f env;pure (!b)
def jw (f g:DEx):DEx:=fun env=>do if <- asB (<- f env) then g env else pure (.bl false)
def QbK (f g:DEx):DEx:=fun env=>do if <- asB (<- f env) then pure (.bl true) else g env
def kT (f:DEx):DEx:=fun env=>do let b <- asB (<- f env);pure (.bl (!b))
def eIf (c:DTx) (f g:DEx):DEx:=fun env=>do if <- c env then f env else g env
theorem tDT.run {K:PySem.W.Frag} {f:DTx} {Z:Ent} {env:En} {σ:St} {ρ:List Addr} {B:Addr->Prop} {hp hp1:Hs} {H:Hp} {d:Bool} {Q:Bool->Hp->Prop} (S:SOk K Z env σ ρ B hp H) (e:f env hp=some (d,hp1))
  (k:∀ ρ' B' H',Gr K ρ B H ρ' B' H'->SOk K Z env σ ρ' B' hp1 H'->Q d H'):tDT K f σ H Q :=
 ⟨Z,env,ρ,B,hp,d,hp1,S,e,fun ρ' B' H' g W=>k ρ' B' H' g (S.grow g W)⟩
variable {ca cb:DTx} {rest:List Expr}
theorem xq (h:DT X a ca):DW X (.BoolOp .And [a] pos) ca:=g9 h
theorem X7 (h:DT X a ca):DW X (.BoolOp .Or [a] pos) ca:=Qbo h
theorem VH (ha:DT X a ca) (hb:DW X (.BoolOp .And (b::rest) pos) cb):DW X (.BoolOp .And (a::b::rest) pos) (Ys ca cb) :=
  (Qbn ha hb).imp fun σ H Q ⟨Z,env,ρ,B,hp,d,hp',S,e,k⟩=>by
    obtain ⟨x,hp1,e1,e2⟩:=bind_some e
    refine tDT.run S e1 fun ρ1 B1 H1 g1 S1=>?_
    cases x with
    | true=>exact KI (tDT.run S1 e2 fun ρ2 B2 H2 g2 S2=>k ρ2 B2 H2 (g1.trans g2) S2.wo)
    | false =>
      obtain ⟨rfl,rfl⟩:=Qg e2
      exact KH (k ρ1 B1 H1 g1 S1.wo)
theorem XT (ha:DT X a ca) (hb:DW X (.BoolOp .Or (b::rest) pos) cb):DW X (.BoolOp .Or (a::b::rest) pos) (eOr ca cb) :=
  (Qcj ha hb).imp fun σ H Q ⟨Z,env,ρ,B,hp,d,hp',S,e,k⟩=>by
    obtain ⟨x,hp1,e1,e2⟩:=bind_some e
    refine tDT.run S e1 fun ρ1 B1 H1 g1 S1=>?_
    cases x with
    | false=>exact KH (tDT.run S1 e2 fun ρ2 B2 H2 g2 S2=>k ρ2 B2 H2 (g1.trans g2) S2.wo)
    | true =>
      obtain ⟨rfl,rfl⟩:=Qg e2
      exact KI (k ρ1 B1 H1 g1 S1.wo)
theorem DW.pt {e:Expr} {f:DTx} (h:DW X e f):DT X e f:=h _
theorem X6 (h:DT X a ca):DT X (.UnaryOp .Not a pos) (Xj ca) :=
 (Qbk h).imp fun σ H Q ⟨Z,env,ρ,B,hp,d,hp',S,e,k⟩=>by
  obtain ⟨x,hp1,e1,e2⟩:=bind_some e
  obtain ⟨rfl,rfl⟩:=Qg e2
  exact tDT.run S e1 fun ρ1 B1 H1 g1 S1=>k ρ1 B1 H1 g1 S1.wo
theorem Qat {op:BoolOp} (h:DE X a fa):DE X (.BoolOp op [a] pos) fa:=Qa9 h
theorem Qas (ha:DE X a fa) (hb:DE X (.BoolOp .And (b::rest) pos) fb):DE X (.BoolOp .And (a::b::rest) pos) (jw fa fb) :=
  (Qa4 ha hb).imp fun σ H Q ⟨Z,env,ρ,B,hp,d,hp',S,e,k⟩=>by
    obtain ⟨x,hp1,e1,e2⟩:=bind_some e
    obtain ⟨c,hp2,e3,e4⟩:=bind_some e2
    obtain ⟨rfl,rfl⟩:=Xd e3
    refine tD.run S e1 fun v ρ1 B1 H1 g1 S1 r1=>⟨c,r1.blI,?_⟩
    cases c with
    | true=>exact KI (tD.run S1 e4 fun v ρ2 B2 H2 g2 S2 r2=>k v ρ2 B2 H2 (g1.trans g2) S2.wo r2)
    | false =>
      obtain ⟨rfl,rfl⟩:=Qg e4
      exact KH (k _ ρ1 B1 H1 g1 S1.wo Zh)
def Qn:DAx:=fun _=>pure []
def Qa (f:DEx) (g:DAx):DAx:=fun env=>do let x <- f env;let xs <- g env;pure (x::xs)
theorem tDA.run {K:PySem.W.Frag} {f:DAx} {Z:Ent} {env:En} {σ:St} {ρ:List Addr} {B:Addr->Prop} {hp hp1:Hs} {H:Hp} {ds:List DV} {Q:List V->Hp->Prop} (S:SOk K Z env σ ρ B hp H) (e:f env hp=some (ds,hp1))
  (k:∀ vs ρ' B' H',Gr K ρ B H ρ' B' H'->SOk K Z env σ ρ' B' hp1 H'->RepL K ρ' B' H' ds vs->Q vs H'):tDA K f σ H Q :=
 ⟨Z,env,ρ,B,hp,ds,hp1,S,e,fun vs ρ' B' H' g W r=>k vs ρ' B' H' g (S.grow g W) r⟩
theorem Ql:DA X [] Qn:=pa_nil.imp fun σ H Q ⟨Z,env,ρ,B,hp,ds,hp',S,e,k⟩=>by
 obtain ⟨rfl,rfl⟩:=Qg e
 exact k [] ρ B H Gr.refl S.wo RepL.nil
theorem Qb {e:Expr} {es:List Expr} {f:DEx} {g:DAx} (ha:DE X e f) (hr:DA X es g) (hs:starEach (e::es) X.env=(false,eval e X.env)::starEach es X.env:=by rfl):DA X (e::es) (Qa f g) :=
 (XN ha hr hs).imp fun σ H Q ⟨Z,env,ρ,B,hp,ds,hp',S,e,k⟩=>by
  obtain ⟨x,hp1,e1,e2⟩:=bind_some e
  obtain ⟨xs,hp2,e3,e4⟩:=bind_some e2
  obtain ⟨rfl,rfl⟩:=Qg e4
  exact tD.run S e1 fun v ρ1 B1 H1 g1 S1 r1=>tDA.run S1 e3 fun vs ρ2 B2 H2 g2 S2 r2=>k _ ρ2 B2 H2 (g1.trans g2) S2.wo (RepL.cons (RepV.grow S1.wo.rb g2 _ _ r1) r2)
def lim:Nat:=100000
theorem zq:lim<=sizeLine:=by decide
def Qz (c:Bool):M Unit:=if c then pure () else failure
theorem Qx {c:Bool} {hp hp':Hs} {u:Unit} (h:Qz c hp=some (u,hp')):c=true/\hp=hp':=by
 cases c with
 | true=>obtain ⟨_,rfl⟩:=Qg (show (pure ():M Unit) hp=some (u,hp') from h);exact ⟨rfl,rfl⟩
 | false=>cases h
def zT (ds:List DV):Bool:=decide (ds.length<=lim)
theorem Xw {ds:List DV} (h:zT ds=true):ds.length<=sizeLine:=Nat.le_trans (of_decide_eq_true h) zq
def ZJ (f:DAx):DEx:=fun env=>do let xs <- f env;Qz (zT xs);pure (.tup xs)
def Je (f:DAx):DEx:=fun env=>do let xs <- f env;Qz (zT xs);pure (.lst xs)
theorem Yt {K:PySem.W.Frag} {ρ:List Addr} {B:Addr->Prop} {H:Hp} {hp:Hs} {ds:List DV} {xs:List V} {Q:VK} (W:WOk K ρ B hp H) (r:RepL K ρ B H ds xs) (k:Fol K ρ B H (.tup ds) hp Q):∀ p,H p=none->Q (.ref p) (upd H p (.tup xs)):=fun p hp' =>
 k _ ρ B _ (Gr.laid hp') (W.laid hp') (XO (fun z=>W.bt p z hp') (SqT.of QI) (RepL.grow W.rb (Gr.laid hp') _ _ r))
theorem XI {K:PySem.W.Frag} {ρ:List Addr} {B:Addr->Prop} {H:Hp} {hp:Hs} {ds:List DV} {xs:List V} {Q:VK} (W:WOk K ρ B hp H) (r:RepL K ρ B H ds xs) (k:Fol K ρ B H (.lst ds) hp Q):∀ p,H p=none->Q (.ref p) (upd H p (.lst xs)):=fun p hp' =>
 k _ ρ B _ (Gr.laid hp') (W.laid hp') (qI (fun z=>W.bt p z hp') (SqL.of QI) (RepL.grow W.rb (Gr.laid hp') _ _ r))
theorem Fol.after {K:PySem.W.Frag} {ρ ρ1:List Addr} {B B1:Addr->Prop} {H H1:Hp} {hp':Hs} {d:DV} {Q:VK} (g:Gr K ρ B H ρ1 B1 H1) (k:Fol K ρ B H d hp' Q):Fol K ρ1 B1 H1 d hp' Q:=fun v ρ' B' H' g' W r=>k v ρ' B' H' (g.trans g') W r
theorem Zd {es:List Expr} {f:DAx} {x1} (h:DA X es f):DE X (.Tuple es x1 pos) (ZJ f) :=
 (Qbc h).imp fun σ H Q ⟨Z,env,ρ,B,hp,d,hp',S,e,k⟩=>by
  obtain ⟨xs,hp1,e1,e2⟩:=bind_some e
  obtain ⟨_,hp2,e3,e4⟩:=bind_some e2
  obtain ⟨hs,rfl⟩:=Qx e3
  obtain ⟨rfl,rfl⟩:=Qg e4
  exact tDA.run S e1 fun vs ρ1 B1 H1 g1 S1 r1=>⟨by rw [<- r1.length];exact Xw hs,Yt S1.wo r1 (k.after g1)⟩
theorem Jn {es:List Expr} {f:DAx} (h:DA X es f):DE X (.List es pos) (Je f) :=
 (VW h).imp fun σ H Q ⟨Z,env,ρ,B,hp,d,hp',S,e,k⟩=>by
  obtain ⟨xs,hp1,e1,e2⟩:=bind_some e
  obtain ⟨_,hp2,e3,e4⟩:=bind_some e2
  obtain ⟨hs,rfl⟩:=Qx e3
  obtain ⟨rfl,rfl⟩:=Qg e4
  exact tDA.run S e1 fun vs ρ1 B1 H1 g1 S1 r1=>⟨by rw [<- r1.length];exact Xw hs,XI S1.wo r1 (k.after g1)⟩
end
end D
namespace L2
open PySem PySem.Spec PyProof.Rows
def Z6 (X:Cx) (scope:Scope) (cl:List (Str×Addr)) (C:Addr) (N:List Str) (s₀:Shared) (H₀:Hp) (ex:List Addr):Cx where
 prog:=X.prog
 w:=X.w
 K:=X.K
 mg:=X.mg
 base:=X.base
 A:=X.A
 N:=N
 s₀:=s₀
 H₀:=H₀
 env:=compEnvC scope cl C X.env
 outer:=X.stack
 stack:=X.stack
 ex:=ex
 fn:=fun _=>false
 calm:=X.calm
 pn:=[]
 xe:=fun _ _=>False
def AllP {α:Type} (P:α->Prop):List α->Prop
 | []=>True
 | x::r=>P x/\AllP P r
theorem AllP.mem {α:Type} {P:α->Prop}:∀ {l:List α} {x:α},AllP P l->x∈l->P x
 | [],_,_,h=>nomatch h
 | y::r,x,⟨h1,h2⟩,h=>(List.mem_cons.mp h).elim (fun e=>e▸h1) fun e=>AllP.mem h2 e
def Caps (X:Cx) (scope:Scope) (cl:List (Str×Addr)):List Str->List Nat->Prop
  | [],[]=>True
  | y :: ys, i :: is => X.N[i]? = some y /\ (X.env.kindOf y = some .cell ∨ X.env.kindOf y = some .free) /\ (∃ c, cl.lookup y = some c) /\
      (relabel scope X.env).names.lookup y≠some .local/\Caps X scope cl ys is
  | _,_=>False
theorem Caps.get {X:Cx} {scope:Scope} {cl:List (Str×Addr)}:∀ {ys:List Str} {is:List Nat} {j:Nat} {y:Str},Caps X scope cl ys is->ys[j]?=some y ->
    ∃ i,is[j]?=some i/\X.N[i]?=some y/\(X.env.kindOf y=some .cell∨X.env.kindOf y=some .free)/\(∃ c,cl.lookup y=some c)/\(relabel scope X.env).names.lookup y≠some .local
  | [],_,_,_,_,h=>by simp at h
  | y::ys,[],_,_,h,_=>by simp [Caps] at h
  | y::ys,i::is,0,z,⟨h1,h2,h3,h4,_⟩,h=>by simp at h;subst h;exact ⟨i,rfl,h1,h2,h3,h4⟩
  | y::ys,i::is,j+1,z,⟨_,_,_,_,h5⟩,h=>by
    obtain ⟨k,a,b⟩:=Caps.get h5 (by simpa using h)
    exact ⟨k,by simpa using a,b⟩
theorem Caps.length {X:Cx} {scope:Scope} {cl:List (Str×Addr)}:∀ {ys:List Str} {is:List Nat},Caps X scope cl ys is->ys.length=is.length
 | [],[],_=>rfl
 | [],_::_,h=>by simp [Caps] at h
 | _::_,[],h=>by simp [Caps] at h
 | _::ys,_::is,⟨_,_,_,_,h⟩=>by simp [Caps.length h]
structure yf (X:Cx) (x:Str) (scope:Scope) (cl:List (Str×Addr)) (caps:List Str) (idx:List Nat):Prop where
 clos:closureFor scope X.env=pure cl
 cell:∀ y∈scope.names,y.2≠.cell
 kind:scope.kind=.function
 names:∀ y∈scope.names,y.2=.local->scope.names.lookup y.1=some .local
 hx:scope.names.lookup x=some .local
 cls:AllP (fun p:Str×Addr=>X.env.cells.lookup p.1=some p.2) cl
 has:((relabel scope X.env).names.all fun p=>!(p.2==.cell||p.2==.free)||(cl.lookup p.1).isSome)=true
 cps:Caps X scope cl caps idx
 nd:(x::caps).Nodup
def cσ (idx:List Nat) (σ:St) (o:Option V):St:=o::idx.map fun i=>(σ[i]?).join
def PTs (X:Cx) (ifs:List Expr) (t:TT):Prop :=
  ∀ (pins : List (Addr × Obj)) (s : Shared) (σ : St) (H : Hp) (Q : Bool -> Hp -> Prop), Inv X pins σ H s -> t σ H Q ->
    wpAny (model X.prog X.w) X.A (forIn ifs true fun c r=>if r=true then do let ok <- isTrue c X.env (eval c X.env);pure (ForInStep.yield ok) else pure (ForInStep.yield r)) (TP X pins σ Q) X.xe s
theorem g7 {X:Cx}:PTs X [] (fun _ H Q=>Q true H):=fun pins s σ H Q I h=>wpAny_tests_nil ⟨H,I,h⟩
theorem g8 {X:Cx} {c:Expr} {t:TT} (h:PT X c t):PTs X [c] t:=fun pins s σ H Q I q=>wpAny_tests_one (h pins s σ H Q I q)
section
variable {prog:Program} {w:World} {A:Around} {R:Result->Shared->Prop} {s:Shared}
theorem xc {elt target iter:Expr} {ifs:List Expr} {scope:Scope} {pos:Pos} {it acc:Value} {env:Env} (I:Nat->Shared->Prop)
    (turn:∀ n s,I n s->wpAny (model prog w) A (pyNext it) (fun r s₁=>match r with
      | none=>R (.ok .next) s₁
      | some v=>wpAny (model prog w) A (letOwnedTupleGo target it v) (fun _ s₁'=>wpAny (model prog w) A (assign target env v) (fun _ s₂ =>
          wpAny (model prog w) A (forIn ifs true fun c r=>if r=true then do let ok <- isTrue c env (eval c env);pure (ForInStep.yield ok) else pure (ForInStep.yield r)) (fun ok s₃ =>
            if ok=true then wpAny (model prog w) A (eval elt env) (fun x s₄ =>
              wpAny (model prog w) A (call (.builtin "list.append") [acc,x]) (fun _ s₅=>∃ m,m < n/\I m s₅) (fun _ _=>False) s₄) (fun _ _=>False) s₃
            else ∃ m,m < n/\I m s₃) (fun _ _=>False) s₂) (fun _ _=>False) s₁') (fun _ _=>False) s₁) (fun _ _=>False) s)
    (n:Nat) (h:I n s) :
    codeAny (model prog w) A (.compLoop (.ListComp elt [⟨target,iter,ifs,0⟩] scope pos) 0 it acc env) R s:=by
  refine codeAny_loop rfl I (fun n s hI=>?_) n h
  show wpAny _ A ((compTurn (.ListComp elt [⟨target,iter,ifs,0⟩] scope pos) 0 it acc env).onRaise (fun x=>do noteFrame x env;theTreesLotGoes x)) _ _ s
  refine wpAny_noted ?_
  rw [compTurn_list]
  refine wpAny_bind (wpAny_standAt (wpAny_bind (wpAny_mono (turn n s hI) (fun r s₁ h₁=>?_) fun _ _ h'=>h'.elim)))
  cases r with
  | none=>exact wpAny_pure h₁
  | some v =>
    refine wpAny_bind (wpAny_mono h₁ (fun _ s₁' h₁'=>?_) fun _ _ h'=>h'.elim)
    refine wpAny_bind (wpAny_mono h₁' (fun _ s₂ h₂=>wpAny_bind (wpAny_mono h₂ (fun ok s₃ h₃=>?_) fun _ _ h'=>h'.elim)) fun _ _ h'=>h'.elim)
    cases ok with
    | false=>exact wpAny_pure ⟨rfl,h₃⟩
    | true =>
      exact wpAny_bind (wpAny_bind (wpAny_mono h₃ (fun x s₄ h₄=>wpAny_bind (wpAny_mono h₄ (fun _ s₅ h₅=>wpAny_pure (wpAny_pure ⟨rfl,h₅⟩)) fun _ _ h'=>h'.elim)) fun _ _ h'=>h'.elim))
end
def Kj (K:PySem.W.Frag) (wi:TI) (tt:TT) (te:TE) (idx:List Nat):TE:=fun σ H Q=>wi σ H fun J H1=>∀ D,H1 D=none->K.lookup D=none->∃ W:Nat->Nat->List V->Hp->Prop,(∃ m,W 0 m [] (upd H1 D (.lst []))) /\
  ∀ i m ys H, W i m ys H -> H D = some (.lst ys) /\ ((J.stop i H /\ Q (.ref D) H) ∨ (J.go i H /\ ∀ x H', J.yld i H x H' -> tt (cσ idx σ (some x)) H' fun b H2 =>
    if b=true then te (cσ idx σ (some x)) H2 fun y H3=>H3 D=some (.lst ys)/\ys.length < sizeLine/\∃ m',m' < m/\W (i+1) m' (ys++[y]) (upd H3 D (.lst (ys++[y])))
    else ∃ m',m' < m/\W (i+1) m' ys H2))
section
variable {X:Cx} {elt iter:Expr} {x:Str} {px:Pos} {ifs:List Expr} {scope:Scope} {cl:List (Str×Addr)} {pos:Pos} {caps:List Str} {idx:List Nat} {wi:TI} {tt:TT} {te:TE}
theorem yv {E:Value->Shared->Prop} {use:Option (Value->Sem Unit)} {QQ:Value->Shared->Prop} {newpos:Pos} (S:yf X x scope cl caps idx) (hc:X.calm=true) (hi:PI X (.Name x px) iter wi)
    (ht:∀ C s₀ H₀ ex,PTs (Z6 X scope cl C (x::caps) s₀ H₀ ex) ifs tt) (he:∀ C s₀ H₀ ex,PE (Z6 X scope cl C (x::caps) s₀ H₀ ex) elt te)
    {pins:List (Addr×Obj)} {s:Shared} {σ:St} {H:Hp} {Q:VK} (I:Inv X pins σ H s) (h:Kj X.K wi tt te idx σ H Q)
    (hE:X.xe=E)
    (hend:∀ (D C:Addr) (H':Hp) (s':Shared) (m:Str->Option Value),Inv X pins σ H' s'->Q (.ref D) H'->s'.heap.Ns C m->H' C=none->C≠X.env.locals->X.s₀.heap.objs.size<=C->(∀ x c,X.env.cells.lookup x=some c->c≠C)->(∀ p∈X.pn++pins,p.1≠C) ->
      compPost (model X.prog X.w) X.A E use QQ (.ref D) C (.ok .next) s')
    (hs:∀ x,foldedSetIterable iter X.env x=pure x:=by intro _;rfl) :
    wpAny (model X.prog X.w) X.A (comprehension (.ListComp elt [⟨.Name x px,iter,ifs,0⟩] scope pos) scope X.env newpos (newList []) false (eval iter X.env) use) QQ E s:=by
  subst hE
  refine wpAny_comprehension_free (use:=use) rfl hs S.clos S.kind S.names (thn (hi pins s σ H _ I h) fun xv s1 h1=>thn h1 fun itv s2 h2=>?_)
  obtain ⟨it,fp,tn,J,H2,rfl,I2,T,st2,f2,hQ⟩:=h2
  refine wpAny_newObj_type (wpAny_newFunctionEnv S.cell (by intro y hy;simp at hy) (fun h₁ hns₁ hsb₁=>?_) S.kind)
  dsimp only at hns₁ hsb₁ ⊢
  generalize hH2:s2.heap.push { cls:=.type "list", dict:=none,data:=.seq ([]:List Value).toArray }=hp3 at hns₁ hsb₁ ⊢
  have hC:hp3.objs.size=s2.heap.objs.size+1:=by rw [<- hH2,Heap.size_push]
  have keep3:∀ b o,s2.heap.get? b=some o->hp3.get? b=some o:=fun b o e=>hH2▸Heap.get?_push_of_some _ e
  have hDf:H2 s2.heap.objs.size=none:=I2.hok.fresh (Nat.le_refl _)
  have I3:Inv X pins σ (upd H2 s2.heap.objs.size (.lst [])) { s2 with heap:=hp3 } :=
    I2.laid (t':=s2.toks) keep3 (Nat.le_refl _) ⟨Nat.zero_le _,[],_,.nil,hH2▸Heap.get?_push_size _ rfl⟩
  have hDk:X.K.lookup s2.heap.objs.size=none:=by
    cases q:X.K.lookup s2.heap.objs.size with
    | none=>rfl
    | some o=>exact absurd (Heap.lt_size (I2.kIn _ o q)) (Nat.lt_irrefl _)
  obtain ⟨W,⟨m0,w0⟩,turn⟩:=hQ _ hDf hDk
  generalize hDd:s2.heap.objs.size=D at *
  generalize hCc:hp3.objs.size=C at *
  have ltC:∀ b o,hp3.get? b=some o->b≠C:=fun b o e=>by rw [<- hCc];exact Nat.ne_of_lt (Heap.lt_size e)
  have keep4:∀ b o,hp3.get? b=some o->h₁.get? b=some o:=fun b o e=>hsb₁.extBut b o (ltC b o e) (Heap.get?_push_of_some _ e)
  have s3sz:({ s2 with heap:=hp3 }:Shared).heap.objs.size=C:=hCc
  have clE:∀ y c,cl.lookup y=some c->X.env.cells.lookup y=some c:=fun y c e=>S.cls.mem (PySem.mem_of_lookup e)
  have fpLt:∀ b∈fp,∃ o,s2.heap.get? b=some o:=fun b hb=>let ⟨o,e,_⟩:=T.obj _ _ st2 b hb;⟨o,e⟩
  have fpC:∀ b∈fp,b≠C:=fun b hb=>let ⟨o,e⟩:=fpLt b hb;ltC b o (keep3 b o e)
  have fpD:∀ b∈fp,b≠D:=fun b hb=>let ⟨o,e⟩:=fpLt b hb;by rw [<- hDd];exact Nat.ne_of_lt (Heap.lt_size e)
  have fr3:∀ b∈fp,(upd H2 D (.lst [])) b=none:=fun b hb=>by rw [QH (fpD b hb)];exact (f2 b hb).1
  have cellLt:∀ y c,X.env.cells.lookup y=some c->c≠C:=fun y c e=>let ⟨v,o,ho,_⟩:=I3.cell y c e;ltC c o ho
  have fpStk:∀ b∈fp,b∉frs X.stack:=fun b hb z=>(List.mem_cons.mp (I2.stkSub b z)).elim (f2 b hb).2.1 (f2 b hb).2.2.1
  let X':=Z6 X scope cl C (x::caps) { s2 with heap:=hp3 } (upd H2 D (.lst [])) fp
  have ok':X'.Ok:=by
    refine ⟨I3.ok.mod,by show (relabel scope X.env).kind=_;exact S.kind,I3.ok.glob,I3.ok.blt,by show hp3.objs.size<=C;rw [hCc];exact Nat.le_refl _,fun y z c h1 h2=>I3.ok.inj y z c (clE y c h1) (clE z c h2),fun y hy=>?_,
      fun y c z=>(by cases z),I3.ok.hd,I3.ok.frames,.inl rfl,fun b hb=>⟨fpC b hb,fun y c e=>(f2 b hb).2.2.2.2.1 y c (clE y c e)⟩,I3.bs,Nat.le_trans I3.ok.bsz I3.sz,
      fun b o e hb=>?_,fun b hb=>fpStk b hb,I3.stack,I3.stkFree⟩
    . have hy':(relabel scope X.env).names.lookup y=some .cell∨(relabel scope X.env).names.lookup y=some .free:=hy
      have q:=S.has
      rw [List.all_eq_true] at q
      have:(cl.lookup y).isSome=true:=by
        rcases hy' with z | z
        . have q:=q _ (PySem.mem_of_lookup z);simpa using q
        . have q:=q _ (PySem.mem_of_lookup z);simpa using q
      exact Option.isSome_iff_exists.mp this
    . have:=(f2 b hb).2.2.2.1
      have e3:=(I2.ok.bs b o e).1
      rcases this with z | z
      . exact I2.ok.noex b o e z
      . exact absurd (Nat.lt_of_lt_of_le (Heap.lt_size e3) z) (Nat.lt_irrefl _)
  have capsLen:=S.cps.length
  have I4:Inv X' [] (cσ idx σ none) (upd H2 D (.lst [])) { s2 with heap:=h₁,toks:=s2.toks+([]:List (Str×Value)).length }:=by
    refine ⟨ok',rfl,I3.bare,Un.kept keep4,⟨_,hns₁,fun i y v e1 e2 e3=>?_⟩,fun y c e=>?_,?_,fun y c e=>I3.freeC y c (clE y c e),fun p hp=>absurd (show p∈([]:List (Addr×Obj)) from hp) (by simp),I3.hok.kept keep4,?_⟩
    . cases i with
      | zero=>exact absurd e2 (by simp [cσ])
      | succ j =>
        obtain ⟨k,h1,h2,h3,⟨c,h4⟩,h5⟩:=S.cps.get (show caps[j]?=some y by have e1':(x::caps)[j+1]?=some y:=e1;simpa using e1')
        have e2':(σ[k]?).join=some v:=by simpa [cσ,h1] using e2
        have e2'':σ[k]?=some (some v):=by
          cases q:σ[k]? with
          | none=>rw [q] at e2';cases e2'
          | some z=>rw [q] at e2';exact congrArg some e2'
        obtain ⟨mL,hnL,hl⟩:=I3.loc
        have vis:Vis X.env.scope y:=by rcases h3 with z | z;exact .inr (.inl z);exact .inr (.inr z)
        obtain ⟨u,r,l⟩:=hl k y v h2 e2'' vis
        refine ⟨u,r,.inr ⟨?_,c,h4,?_⟩⟩
        . have e3':(relabel scope X.env).names.lookup y=some .local∨(relabel scope X.env).names.lookup y=some .cell∨(relabel scope X.env).names.lookup y=some .free:=e3
          rcases e3' with z | z | z
          . exact absurd z h5
          . exact .inl z
          . exact .inr z
        . rcases l with ⟨z,_⟩ | ⟨_,c',e,z⟩
          . rcases h3 with q | q <;> · rw [q] at z;cases z
          . rw [clE y c h4] at e;cases e
            obtain ⟨o,ho,hd⟩:=z
            exact ⟨o,keep4 _ _ ho,hd⟩
    . obtain ⟨v,o,ho,hd⟩:=I3.cell y c (clE y c e)
      exact ⟨v,o,keep4 _ _ ho,hd⟩
    . exact I3.hok.fresh (by show hp3.objs.size<=C;rw [hCc];exact Nat.le_refl _)
    . simp [cσ,X',Z6,capsLen]
  have st4:tn 0 h₁:=T.keep _ _ _ st2 fun b _ o e=>keep4 b o (keep3 b o e)
  have fpX:∀ {H':Hp} {pins':List (Addr×Obj)},(∀ b∈fp,H' b=none)->(pins'=[])->∀ b∈fp,Vs X' pins' H' b:=fun hn e b hb=>by
    subst e
    exact ⟨hn b hb,fpC b hb,fpStk b hb,.inl hb,fun y c e=>(f2 b hb).2.2.2.2.1 y c (clE y c e),fun p hp=>absurd (show p∈([]:List (Addr×Obj)) from hp) (by simp)⟩
  have loop:∀ s₃:Shared,s₃={ s2 with heap:=h₁,toks:=s2.toks+([]:List (Str×Value)).length } ->
      codeAny (model X.prog X.w) X.A (.compLoop (.ListComp elt [⟨.Name x px,iter,ifs,0⟩] scope pos) 0 (.ref it) (.ref D) (compEnvC scope cl C X.env)) (compPost (model X.prog X.w) X.A X.xe use QQ (.ref D) C) s₃:=by
    rintro s₃ rfl
    refine xc (fun n s'=>∃ i o H' ys,Inv X' [] (cσ idx σ o) H' s'/\tn i s'.heap/\(∀ b∈fp,H' b=none)/\W i n ys H') ?_ m0 ⟨0,none,_,[],I4,st4,fr3,w0⟩
    rintro n s5 ⟨i,o,H5,ys,I5,st5,fr5,w5⟩
    obtain ⟨hD,tw⟩:=turn i n ys H5 w5
    rcases tw with ⟨stop,q⟩ | ⟨go,step⟩
    . refine thn (T.done X' rfl rfl rfl hc i [] s5 _ H5 _ I5 (fpX fr5 rfl) st5 stop) fun r s6 ⟨hr,I6⟩=>?_
      subst hr
      obtain ⟨m6,hn6,_⟩:=I6.loc
      have I7:Inv X pins σ H5 s6:=I3.call' (s':=s6) (ch:=fp) I6.os I6.base I6.hok I6.bare fun b hb=>⟨(f2 b hb).2.2.2.1,(f2 b hb).2.1,(f2 b hb).2.2.2.2.1,(f2 b hb).2.2.2.2.2⟩
      refine hend D C H5 s6 m6 I7 q hn6 I6.free ?_ ?_ cellLt fun p hp=>?_
      . rw [<- hCc];exact Nat.ne_of_gt I3.lt
      . rw [<- hCc];exact I3.sz
      . exact ltC p.1 p.2 (I3.pin p hp).1
    . refine thn (T.item X' rfl rfl rfl hc i [] s5 _ H5 _ I5 (fpX fr5 rfl) st5 go) fun r s6 ⟨u,hr,h6⟩=>?_
      subst hr
      refine thn h6 fun _ s7 ⟨y,H7,I7,r7,y7,st7,fr7⟩=>?_
      have I7':=I7.pinned (fpX fr7 rfl) (T.obj _ _ st7)
      refine thn (U5 (X:=X') (i:=0) S.nd rfl (.inl (lookup_relabel_local S.hx)) (.inr (lookup_relabel_local S.hx)) _ s7 _ H7 y u (fun σ' H'=>σ'=cσ idx σ (some y)/\H'=H7) I7' r7 ⟨rfl,rfl⟩) fun _ s8 ⟨σ8,H8,I8,e8,e8'⟩=>?_
      subst e8
      subst e8'
      have again:∀ {H9:Hp} {s9:Shared} {ys':List V},Inv X' ([]++zD fp s7.heap) (cσ idx σ (some y)) H9 s9->(∃ m',m' < n/\W (i+1) m' ys' H9) ->
          ∃ m,m < n/\∃ i o H' ys,Inv X' [] (cσ idx σ o) H' s9/\tn i s9.heap/\(∀ b∈fp,H' b=none)/\W i m ys H':=fun {H9 s9 ys'} I9 ⟨m',hm,w9⟩=>by
        refine ⟨m',hm,i+1,some y,H9,ys',I9.unpinned,T.keep _ _ _ st7 fun b hb o e=>(I9.pin (b,o) (List.mem_append_right _ (List.mem_append_right _ (JW hb e)))).1,fun b hb=>?_,w9⟩
        obtain ⟨o,e,d⟩:=T.obj _ _ st7 b hb
        exact (I9.pin (b,o) (List.mem_append_right _ (List.mem_append_right _ (JW hb e)))).2.1
      refine thn (ht _ _ _ _ _ s8 _ H8 _ I8 (step y H8 y7)) fun ok s9 ⟨H9,I9,q9⟩=>?_
      cases ok with
      | false=>exact again I9 (by rw [if_neg Bool.false_ne_true] at q9;exact q9)
      | true =>
        rw [if_pos rfl] at q9 ⊢
        refine thn (he _ _ _ _ _ s9 _ H9 _ I9 q9) fun v s10 ⟨z,H10,I10,r10,hD10,hlen,m',hm,w10⟩=>?_
        refine thn (qa (X:=X') _ s10 _ H10 (.ref D) [z] (.ref D) [v] (fun _ H'=>H'=upd H10 D (.lst (ys++[z]))) I10 rfl (.cons r10 .nil) ⟨D,ys,z,rfl,rfl,hD10,hlen,rfl⟩) fun _ s11 ⟨_,H11,I11,_,e11⟩=>?_
        subst e11
        exact again I11 ⟨m',hm,w10⟩
  exact codeAny_compStart_list (loop _ rfl) (T.self X.A 0 _ _ _ st4 (loop _ rfl))
end
end L2
namespace L2
open PySem PySem.Spec PyProof.Rows
section
variable {X:Cx} {elt iter:Expr} {x:Str} {px:Pos} {ifs:List Expr} {scope:Scope} {cl:List (Str×Addr)} {pos:Pos} {caps:List Str} {idx:List Nat} {wi:TI} {tt:TT} {te:TE}
theorem gK (S:yf X x scope cl caps idx) (hc:X.calm=true) (hi:PI X (.Name x px) iter wi)
  (ht:∀ C s₀ H₀ ex,PTs (Z6 X scope cl C (x::caps) s₀ H₀ ex) ifs tt) (he:∀ C s₀ H₀ ex,PE (Z6 X scope cl C (x::caps) s₀ H₀ ex) elt te)
  (hs:∀ x,foldedSetIterable iter X.env x=pure x:=by intro _;rfl):PE X (.ListComp elt [⟨.Name x px,iter,ifs,0⟩] scope pos) (Kj X.K wi tt te idx):=by
 intro pins s σ H Q I h
 rw [eval_ListComp]
 refine yv (use:=none) S hc hi ht he I h rfl (fun D C H' s' m I' q hn hC h1 h2 h3 h4=>?_) hs
 show ∃ m,s'.heap.Ns C m/\∀ h',Heap.SameBut C s'.heap h'->EP X pins σ Q (.ref D) { s' with heap:=h' }
 exact ⟨m,hn,fun h' hs=>⟨.ref D,H',I'.turned (t':=s'.toks) (fun b o hb e=>hs.extBut b o hb e) hC (Ne.symm (Ne.symm h1)) (.inr h2) h3 h4,rfl,q⟩⟩
theorem gX {i:Nat} {y:Str} {py spos:Pos} (S:yf X x scope cl caps idx) (hc:X.calm=true) (hi:PI X (.Name x px) iter wi)
  (ht:∀ C s₀ H₀ ex,PTs (Z6 X scope cl C (x::caps) s₀ H₀ ex) ifs tt) (he:∀ C s₀ H₀ ex,PE (Z6 X scope cl C (x::caps) s₀ H₀ ex) elt te)
  (hN:X.N.Nodup) (hy:X.N[i]?=some y) (hx:Loc X.env.scope y) (hsw:swapsWith (.ListComp elt [⟨.Name x px,iter,ifs,0⟩] scope pos) (some (.Name y py)) spos.line X.env=pure true)
  (hf:X.fn y=true∨X.env.scope.names.lookup y=some .local:=by first | exact .inl rfl | exact .inr rfl | assumption)
  (hs:∀ x,foldedSetIterable iter X.env x=pure x:=by intro _;rfl):PS X (.Assign [.Name y py] (.ListComp elt [⟨.Name x px,iter,ifs,0⟩] scope pos) spos) (kH (Kj X.K wi tt te idx) (Uv i)):=by
 intro pins s σ H D I h
 rw [exec_Assign_Name_used _ _ _ _ hsw]
 refine wpAny_bind (wpAny_standAt (wpAny_bind ?_))
 show wpAny _ X.A (do let _ <- comprehension (.ListComp elt [⟨.Name x px,iter,ifs,0⟩] scope pos) scope X.env _ (newList []) false (eval iter X.env) (some (assign (.Name y py) X.env))) _ _ s
 refine wpAny_bind (wpAny_mono (yv (use:=some (assign (.Name y py) X.env)) (QQ:=fun _ s'=>SP X pins D .next s') S hc hi ht he I h rfl (fun Da C H' s' m I' q hn hC h1 h2 h3 h4=>?_) hs) (fun _ s' hq=>wpAny_pure (wpAny_pure hq)) fun _ _ e=>e)
 show wpAny _ X.A (assign (.Name y py) X.env (.ref Da)) (fun _ s''=>∃ m,s''.heap.Ns C m/\∀ h',Heap.SameBut C s''.heap h'->SP X pins D .next { s'' with heap:=h' }) _ s'
 refine wpAny_assign_Name (jQ I' hN hy hx (v:=.ref Da) rfl (fun s'' I'' ⟨a,hs,ha⟩=>?_) hf)
 refine ⟨m,hn.sameBut hs ?_,fun h' hs'=>⟨_,H',I''.turned (t':=s''.toks) (fun b o hb e=>hs'.extBut b o hb e) hC h1 (.inr h2) h3 h4,q⟩⟩
 rcases ha with rfl | ha
 ·exact h1
 ·exact Ne.symm (h3 _ _ ha)
end
end L2
namespace D
open PySem PySem.Spec PyProof.Rows L2
section
variable {K:PySem.W.Frag} {Z:Ent} {env:En} {σ:St} {ρ ρ':List Addr} {B B':Addr->Prop} {hp hp':Hs} {H H':Hp}
theorem SOk.set {i:Nat} {d:DV} {v:V} (S:SOk K Z env σ ρ B hp H) (r:RepV K ρ B H d v):SOk K Z (env.set i (.val d)) (σ.set i (some v)) ρ B hp H where
 gr:=S.gr
 zb:=S.zb
 wo:=S.wo
 slot:=fun j e h=>by
  by_cases hj:j=i
  ·subst hj
   have hl:j < env.length:=by have:=(List.getElem?_eq_some_iff.mp h).1;simpa using this
   rw [List.getElem?_set_self hl] at h;cases h
   exact ⟨v,List.getElem?_set_self (by rw [S.len];exact hl),r⟩
  ·rw [List.getElem?_set_ne (Ne.symm hj)] at h ⊢
   exact S.slot j e h
 accs:=fun j ds h=>by
  by_cases hj:j=i
  ·subst hj
   have hl:j < env.length:=by have:=(List.getElem?_eq_some_iff.mp h).1;simpa using this
   rw [List.getElem?_set_self hl] at h;cases h
  ·rw [List.getElem?_set_ne (Ne.symm hj)] at h ⊢
   exact S.accs j ds h
 adis:=fun j k ds es a h1 h2 h3 h4=>by
  have nj:∀ {j:Nat} {ds:List DV},(env.set i (.val d))[j]?=some (.acc ds)->j≠i:=fun {j ds} h e=>by
   subst e
   have hl:j < env.length:=by have:=(List.getElem?_eq_some_iff.mp h).1;simpa using this
   rw [List.getElem?_set_self hl] at h;cases h
  have hj:=nj h1
  have hk:=nj h2
  rw [List.getElem?_set_ne (Ne.symm hj)] at h1 h3
  rw [List.getElem?_set_ne (Ne.symm hk)] at h2 h4
  exact S.adis j k ds es a h1 h2 h3 h4
 len:=by simp [S.len]
end
section
variable {X:Cx} {e a b c:Expr} {f fa fb:DEx} {ca cb:DTx} {pos:Pos} {st:Stmt} {sts rest:List Stmt} {s s':DSx}
theorem FolS.after {K:PySem.W.Frag} {Z:Ent} {ρ ρ1:List Addr} {B B1:Addr->Prop} {H H1:Hp} {fl:Fl} {env':En} {hp':Hs} {D:jb} (g:Gs K ρ B H ρ1 B1 H1) (k:FolS K Z ρ B H fl env' hp' D):FolS K Z ρ1 B1 H1 fl env' hp' D :=
 fun σ' ρ' B' H' g' S=>k σ' ρ' B' H' (g.trans g') S
def Zp:DSx:=fun env=>pure (.nx,env)
def QB (f g:DSx):DSx:=fun env=>do
 let r <- f env
 match r.1 with
 | .nx=>g r.2
 | _=>pure r
def sIf (c:DTx) (f g:DSx):DSx:=fun env=>do if <- c env then f env else g env
def Q7 (f:DEx):DSx:=fun env=>do let d <- f env;pure (.rt d,env)
def Qaf:DSx:=fun env=>pure (.rt .non,env)
def Jp (f:DEx):DSx:=fun env=>do let _ <- f env;pure (.nx,env)
def QP (i:Nat) (f:DEx):DSx:=fun env=>do let d <- f env;pure (.nx,env.set i (.val d))
theorem QN:DSs X [] Zp:=pss_nil.imp fun D σ H ⟨Z,env,ρ,B,hp,fl,env',hp',S,e,k⟩=>by
 obtain ⟨e1,rfl⟩:=Qg e
 cases e1
 exact k σ ρ B H Gs.refl S
theorem vW {K:PySem.W.Frag} {D:jb} {σ:St} {H:Hp} (h:tDS K (QB s s') D σ H):Qcw (tDS K s) (tDS K s') D σ H:=by
 obtain ⟨Z,env,ρ,B,hp,fl,env',hp',S,e,k⟩:=h
 obtain ⟨⟨f1,env1⟩,hp1,e1,e2⟩:=bind_some e
 refine ⟨Z,env,ρ,B,hp,f1,env1,hp1,S,e1,fun σ' ρ' B' H' g S'=>?_⟩
 cases f1 with
 | nx=>exact ⟨Z,env1,ρ',B',hp1,fl,env',hp',S',e2,k.after g⟩
 | rt d=>obtain ⟨z,rfl⟩:=Qg e2;cases z;exact k σ' ρ' B' H' g S'
 | bk=>obtain ⟨z,rfl⟩:=Qg e2;cases z;exact k σ' ρ' B' H' g S'
 | ct=>obtain ⟨z,rfl⟩:=Qg e2;cases z;exact k σ' ρ' B' H' g S'
theorem Qk (h1:DS X st s) (h2:DSs X rest s'):DSs X (st::rest) (QB s s'):=(vO h1 h2).imp fun _ _ _ h=>vW h
theorem Qs (h1:DS X st s):DSs X [st] s:=gY h1
theorem Zb {x y:List Stmt} (hc:DT X c ca) (h1:DSs X x s) (h2:DSs X y s'):DS X (.If c x y pos) (sIf ca s s') :=
 (Qci hc h1 h2).imp fun D σ H ⟨Z,env,ρ,B,hp,fl,env',hp',S,e,k⟩=>by
  obtain ⟨x,hp1,e1,e2⟩:=bind_some e
  refine tDT.run S e1 fun ρ1 B1 H1 g1 S1=>?_
  cases x with
  | true=>exact KI ⟨Z,env,ρ1,B1,hp1,fl,env',hp',S1,e2,k.after (g1.gs S.wo.rb)⟩
  | false=>exact KH ⟨Z,env,ρ1,B1,hp1,fl,env',hp',S1,e2,k.after (g1.gs S.wo.rb)⟩
theorem QF (h:DE X e f):DS X (.Return (some e) pos) (Q7 f) :=
 (Qbj h).imp fun D σ H ⟨Z,env,ρ,B,hp,fl,env',hp',S,e,k⟩=>by
  obtain ⟨d,hp1,e1,e2⟩:=bind_some e
  obtain ⟨z,rfl⟩:=Qg e2;cases z
  exact tD.run S e1 fun v ρ1 B1 H1 g1 S1 r1=>k σ ρ1 B1 H1 (g1.gs S.wo.rb) S1 v r1
theorem Jc (h:DE X e f) (hs:swapsWith e none pos.line X.env=pure false:=by rfl):DS X (.Expr e pos) (Jp f) :=
 (Ka h hs).imp fun D σ H ⟨Z,env,ρ,B,hp,fl,env',hp',S,e,k⟩=>by
  obtain ⟨d,hp1,e1,e2⟩:=bind_some e
  obtain ⟨z,rfl⟩:=Qg e2;cases z
  exact tD.run S e1 fun v ρ1 B1 H1 g1 S1 r1=>k σ ρ1 B1 H1 (g1.gs S.wo.rb) S1
theorem y4 {K:PySem.W.Frag} {D:jb} {σ:St} {H:Hp} {i:Nat} {t:TE} (ht:∀ σ H Q,tD K f σ H Q->t σ H Q) (h:tDS K (QP i f) D σ H):kH t (Uv i) D σ H:=by
 obtain ⟨Z,env,ρ,B,hp,fl,env',hp',S,e,k⟩:=h
 obtain ⟨d,hp1,e1,e2⟩:=bind_some e
 obtain ⟨z,rfl⟩:=Qg e2;cases z
 exact ht _ _ _ (tD.run S e1 fun v ρ1 B1 H1 g1 S1 r1=>k _ ρ1 B1 H1 (g1.gs S.wo.rb) (S1.set r1))
theorem QE (i:Nat) {x:Str} {pos':Pos} (hN:X.N.Nodup) (he:DE X e f) (hi:X.N[i]?=some x:=by rfl) (hx:Loc X.env.scope x:=by first | exact Or.inl rfl | exact Or.inr rfl) (hs:swapsWith e (some (.Name x pos')) pos.line X.env=pure false:=by rfl)
  (hf:X.fn x=true∨X.env.scope.names.lookup x=some .local:=by first | exact .inl rfl | exact .inr rfl | assumption):DS X (.Assign [.Name x pos'] e pos) (QP i f) :=
 (vN hN hi hx he hs hf).imp fun _ _ _ h=>y4 (fun _ _ _ q=>q) h
abbrev DGx:=DV->En->M En
def tDG (K:PySem.W.Frag) (g:DGx):TG:=fun v σ H Q=>∃ Z env ρ B hp d env' hp',SOk K Z env σ ρ B hp H/\RepV K ρ B H d v/\g d env hp=some (env',hp')/\∀ σ' ρ' B' H',Gs K ρ B H ρ' B' H'->SOk K Z env' σ' ρ' B' hp' H'->Q σ' H'
def gN (i:Nat):DGx:=fun d env=>pure (env.set i (.val d))
theorem XE (i:Nat) {x:Str} (hN:X.N.Nodup) (hi:X.N[i]?=some x:=by rfl) (hx:Loc X.env.scope x:=by first | exact Or.inl rfl | exact Or.inr rfl) (hf:X.fn x=true∨X.env.scope.names.lookup x=some .local:=by first | exact .inl rfl | exact .inr rfl | assumption):PG X (.Name x pos) (tDG X.K (gN i)):=by
 intro pins s σ H v u Q I r h
 refine U5 hN hi hx hf pins s σ H v u Q I r ?_
 obtain ⟨Z,env,ρ,B,hp,d,env',hp',S,rd,e,k⟩:=h
 obtain ⟨rfl,rfl⟩:=Qg e
 exact k _ ρ B H Gs.refl (S.set rd)
def uC (K:PySem.W.Frag) (ρ:List Addr) (B:Addr->Prop) (H:Hp) (ds:List DV) (J:It):Prop :=
 ∀ ρ1 B1 H1,Gs K ρ B H ρ1 B1 H1->(∀ b∈ρ1,B1 b)->(∀ a,B1 a->H1 a≠none)->(∀ (i:Nat) (d:DV),ds[i]?=some d->J.go i H1/\∀ x H',J.yld i H1 x H'->RepV K ρ1 B1 H' d x/\(H'=H1∨∃ p o,H1 p=none/\H'=upd H1 p o))/\J.stop ds.length H1
abbrev DIx:=En->M (List DV)
def tDI (K:PySem.W.Frag) (f:DIx):TI:=fun σ H R=>∃ Z env ρ B hp ds hp',SOk K Z env σ ρ B hp H/\f env hp=some (ds,hp')/\∀ J ρ' B' H',Gr K ρ B H ρ' B' H'->WOk K ρ' B' hp' H'->uC K ρ' B' H' ds J->R J H'
def DI (X:Cx) (tg iter:Expr) (f:DIx):Prop:=PI X tg iter (tDI X.K f)
def Qc5:DV->M (List DV)
 | .tup ds=>pure ds
 | _=>failure
theorem gf {K:PySem.W.Frag} {ρ:List Addr} {B:Addr->Prop} {H:Hp} {ds:List DV} {a:Addr} {xs:List V} (nb:¬ B a) (sq:SqL K H a xs) (rl:RepL K ρ B H ds xs):uC K ρ B H ds (Itl K a):=fun ρ1 B1 H1 g _ _=>by
 have sq1:=g.sqL nb sq
 have rl1:=RepL.gs g _ _ rl
 refine ⟨fun i d e=>?_,xs,sq1,by rw [rl1.length];exact Nat.le_refl _⟩
 obtain ⟨x,hx,r⟩:=rl1.get e
 refine ⟨⟨xs,x,sq1,hx⟩,fun y H' ⟨e',q⟩=>?_⟩
 subst e'
 have:=q xs sq1
 rw [hx] at this;cases this
 exact ⟨r,.inl rfl⟩
def Zl (lo:Int) (n:Nat):List DV:=(List.range n).map fun (i:Nat)=>.int (lo+(i:Int))
theorem vc {K:PySem.W.Frag} {ρ:List Addr} {B:Addr->Prop} {H:Hp} {lo:Int} {n:Nat}:uC K ρ B H (Zl lo n) (Itr lo n):=fun ρ1 B1 H1 g _ _=>by
 refine ⟨fun i d e=>?_,by show n<=_;simp [Zl]⟩
 have hi:i < n:=by have:=(List.getElem?_eq_some_iff.mp e).1;simpa [Zl] using this
 refine ⟨hi,fun y H' ⟨e',q⟩=>?_⟩
 subst e' q
 have:d=.int (lo+i):=by simp [Zl,hi] at e;exact e.symm
 subst this
 exact ⟨Zo,.inl rfl⟩
variable {tg iter:Expr}
theorem _root_.L2.PI.imp {wi wi':TI} (h:PI X tg iter wi) (i:∀ σ H R,wi' σ H R->wi σ H R):PI X tg iter wi':=fun pins s σ H R I q=>h pins s σ H R I (i σ H R q)
def yc (j:Int):Bool:=decide (-(2 ^ 62)<=j/\j < 2 ^ 62)
def K5:List DV->M (List DV)
 | [.int j]=>do Qz (yc j);pure (Zl 0 j.toNat)
 | _=>failure
def KF (f:DAx):DIx:=fun env=>do K5 (<- f env)
theorem K6 {ds out:List DV} {hp hp':Hs} (h:K5 ds hp=some (out,hp')):∃ j:Int,ds=[.int j]/\yc j=true/\out=Zl 0 j.toNat/\hp=hp':=by
 unfold K5 at h
 split at h
 ·obtain ⟨u,hp1,e1,e2⟩:=bind_some h
  obtain ⟨h1,rfl⟩:=Qx e1
  obtain ⟨rfl,rfl⟩:=Qg e2
  exact ⟨_,rfl,h1,rfl,rfl⟩
 ·cases h
theorem RepL.ints1 {K:PySem.W.Frag} {ρ:List Addr} {B:Addr->Prop} {H:Hp} {j:Int} {vs:List V} (h:RepL K ρ B H [.int j] vs):vs=[.int j]:=by
 unfold RepL at h
 obtain ⟨x,r,rfl,h1,h2⟩:=h
 unfold RepL at h2
 rw [h1.intI,h2]
theorem RepL.ints2 {K:PySem.W.Frag} {ρ:List Addr} {B:Addr->Prop} {H:Hp} {i j:Int} {vs:List V} (h:RepL K ρ B H [.int i,.int j] vs):vs=[.int i,.int j]:=by
 unfold RepL at h
 obtain ⟨x,r,rfl,h1,h2⟩:=h
 rw [h1.intI,h2.ints1]
theorem YW {x:Expr} {p:Pos} {f:DAx} (hg:Gl X "range") (hm:X.mg "range" = none) (ha:DA X [x] f) (hs:starEach [x] X.env=[(false,eval x X.env)]:=by rfl):DI X tg (.Call (.Name "range" p) [x] [] pos) (KF f) :=
 (K0 hg hm ha hs).imp fun σ H R ⟨Z,env,ρ,B,hp,ds,hp',S,e,k⟩=>by
  obtain ⟨d,hp1,e1,e2⟩:=bind_some e
  obtain ⟨j,rfl,h1,rfl,rfl⟩:=K6 e2
  refine tDA.run S e1 fun vs ρ1 B1 H1 g1 S1 r1=>?_
  have h1':=of_decide_eq_true h1
  exact ⟨j,r1.ints1,h1'.1,h1'.2,k _ ρ1 B1 H1 g1 S1.wo vc⟩
def G1 (b:DV->DSx):List DV->DSx
  | [],env=>pure (.nx,env)
  | d::ds,env=>do
    let r <- b d env
    match r.1 with
    | .nx=>G1 b ds r.2
    | .ct=>G1 b ds r.2
    | .bk=>pure (.nx,r.2)
    | .rt x=>pure (.rt x,r.2)
theorem Qbz {K:PySem.W.Frag} {ρ:List Addr} {B:Addr->Prop} {H:Hp} {p:Addr} {o:HO} (rb:∀ a∈ρ,B a) (h:H p=none):Gs K ρ B H ρ B (upd H p o):=(Gr.laid h).gs rb
end
end D
namespace D
open PySem PySem.Spec PyProof.Rows L2
section
variable {K:PySem.W.Frag} {Z:Ent} {env:En} {σ:St} {ρ ρ':List Addr} {B B':Addr->Prop} {hp hp':Hs} {H H':Hp}
def X2 (B:Addr->Prop) (p:Addr):Addr->Prop:=fun a=>B a∨a=p
theorem Gr.banned {p:Addr} {o:HO} (h:H p=none) (kf:K.lookup p=none):Gr K ρ B H ρ (X2 B p) (upd H p o) where
 pre:=List.prefix_rfl
 ban:=fun _ h=>.inl h
 new:=fun a z=>z.elim .inl fun e=>.inr (e▸⟨h,kf⟩)
 rnew:=fun _ h=>.inl h
 keep:=fun a u _ q=>by rw [QH (Zg q h)];exact q
 trk:=(Gr.laid (K:=K) (ρ:=ρ) (B:=B) h).trk
theorem WOk.banned {p:Addr} {o:HO} (W:WOk K ρ B hp H) (h:H p=none) (kf:K.lookup p=none):WOk K ρ (X2 B p) hp (upd H p o) where
 len:=W.len
 nd:=W.nd
 obj:=fun i a u e q=>ORep.gs ((Gr.banned h kf).gs W.rb) (QH (fun z=>W.bt a (W.rb a (List.mem_of_getElem? e)) (z▸h))) (W.obj i a u e q)
 rb:=fun a h=>.inl (W.rb a h)
 bt:=fun a z q=>by
  have q':=(Gr.laid (K:=K) (ρ:=ρ) (B:=B) h).trk a q
  rcases z with z | rfl
  ·exact W.bt a z q'
  ·rw [QI] at q;cases q
 bk:=fun a z=>z.elim (W.bk a) fun e=>e▸kf
theorem SOk.newAcc {i:Nat} {p:Addr} {ds:List DV} {xs:List V} (S:SOk K Z env σ ρ B hp H) (h:H p=none) (kf:K.lookup p=none) (r:RepL K ρ B H ds xs):SOk K Z (env.set i (.acc ds)) (σ.set i (some (.ref p))) ρ (X2 B p) hp (upd H p (.lst xs)):=by
 have g:Gr K ρ B H ρ (X2 B p) (upd H p (.lst xs)):=Gr.banned h kf
 have W:=S.wo.banned (o:=.lst xs) h kf
 have S1:=S.grow g W
 have np:p∉ρ:=fun z=>S.wo.bt p (S.wo.rb p z) h
 refine ⟨S1.gr,S.zb,W,fun j e q=>?_,fun j es q=>?_,fun j k es es' a h1 h2 h3 h4=>?_,by simp [S.len]⟩
 ·by_cases hj:j=i
  ·subst hj
   have hl:j < env.length:=by have:=(List.getElem?_eq_some_iff.mp q).1;simpa using this
   rw [List.getElem?_set_self hl] at q;cases q
  ·rw [List.getElem?_set_ne (Ne.symm hj)] at q ⊢
   exact S1.slot j e q
 ·by_cases hj:j=i
  ·subst hj
   have hl:j < env.length:=by have:=(List.getElem?_eq_some_iff.mp q).1;simpa using this
   rw [List.getElem?_set_self hl] at q;cases q
   exact ⟨p,xs,List.getElem?_set_self (by rw [S.len];exact hl),QI,S.gr.trk p h,.inr rfl,np,RepL.grow S.wo.rb g _ _ r⟩
  ·rw [List.getElem?_set_ne (Ne.symm hj)] at q ⊢
   exact S1.accs j es q
 ·have at_i:∀ {j:Nat} {es:List DV},(env.set i (.acc ds))[j]?=some (.acc es)->j=i∨(j≠i/\env[j]?=some (.acc es)):=fun {j es} q=>by
   by_cases hj:j=i
   ·exact .inl hj
   ·rw [List.getElem?_set_ne (Ne.symm hj)] at q;exact .inr ⟨hj,q⟩
  have ne_p:∀ {j:Nat} {es:List DV},j≠i->env[j]?=some (.acc es)->(σ.set i (some (.ref p)))[j]?=some (some (.ref a))->a≠p:=fun {j es} hj q z=>by
   rw [List.getElem?_set_ne (Ne.symm hj)] at z
   obtain ⟨a',xs',e1,e2,_⟩:=S.accs j es q
   rw [z] at e1;cases e1
   exact Zg e2 h
  have is_p:∀ {j:Nat} {es:List DV},j=i->(env.set i (.acc ds))[j]?=some (.acc es)->(σ.set i (some (.ref p)))[j]?=some (some (.ref a))->a=p:=fun {j es} e q z=>by
   subst e
   have hl:j < env.length:=by have:=(List.getElem?_eq_some_iff.mp q).1;simpa using this
   rw [List.getElem?_set_self (by rw [S.len];exact hl)] at z;cases z;rfl
  rcases at_i h1 with e1 | ⟨e1,q1⟩<;>rcases at_i h2 with e2 | ⟨e2,q2⟩
  ·rw [e1,e2]
  ·exact absurd (is_p e1 h1 h3) (ne_p e2 q2 h4)
  ·exact absurd (is_p e2 h2 h4) (ne_p e1 q1 h3)
  ·rw [List.getElem?_set_ne (Ne.symm e1)] at h3
   rw [List.getElem?_set_ne (Ne.symm e2)] at h4
   exact S.adis j k es es' a q1 q2 h3 h4
theorem SOk.setAcc {i:Nat} {a:Addr} {ds ds':List DV} {xs':List V} (S:SOk K Z env σ ρ B hp H) (he:env[i]?=some (.acc ds)) (hσ:σ[i]?=some (some (.ref a))) (r:RepL K ρ B H ds' xs') :
  Gs K ρ B H ρ B (upd H a (.lst xs'))/\SOk K Z (env.set i (.acc ds')) σ ρ B hp (upd H a (.lst xs')):=by
 obtain ⟨a',xs0,e1,e2,e3,e4,e5,_⟩:=S.accs i ds he
 rw [hσ] at e1;cases e1
 have trk:∀ b,(upd H a (.lst xs')) b=none->H b=none:=fun b q=>by
  by_cases e:b=a
  ·subst e;rw [QI] at q;cases q
  ·rw [QH e] at q;exact q
 have g:Gs K ρ B H ρ B (upd H a (.lst xs')):=⟨List.prefix_rfl,fun _ h=>.inl h,fun b o nb h=>by rw [QH (show b≠a from fun z=>nb (by rw [z];exact e4))];exact h,trk⟩
 have hl:i < env.length:=(List.getElem?_eq_some_iff.mp he).1
 refine ⟨g,⟨⟨S.gr.pre,S.gr.ban,S.gr.new,S.gr.rnew,fun b o nb h=>?_,fun b q=>S.gr.trk b (trk b q)⟩,S.zb,⟨S.wo.len,S.wo.nd,fun j b o q1 q2=>?_,S.wo.rb,fun b z q=>S.wo.bt b z (trk b q),S.wo.bk⟩,fun j d q=>?_,fun j es q=>?_,fun j k es es' b h1 h2 h3 h4=>?_,by simp [S.len]⟩⟩
 ·have hb:b≠a:=fun z=>by rw [z,e3] at h;cases h
  rw [QH hb];exact S.gr.keep b o nb h
 ·exact ORep.gs g (QH (show b≠a from fun z=>e5 (by rw [<- z];exact List.mem_of_getElem? q1))) (S.wo.obj j b o q1 q2)
 ·have hj:j≠i:=fun z=>by subst z;rw [List.getElem?_set_self hl] at q;cases q
  rw [List.getElem?_set_ne (Ne.symm hj)] at q
  obtain ⟨v,h1,h2⟩:=S.slot j d q
  exact ⟨v,h1,RepV.gs g _ _ h2⟩
 ·by_cases hj:j=i
  ·subst hj
   rw [List.getElem?_set_self hl] at q;cases q
   exact ⟨a,xs',hσ,QI,e3,e4,e5,RepL.gs g _ _ r⟩
  ·rw [List.getElem?_set_ne (Ne.symm hj)] at q
   obtain ⟨b,ys,h1,h2,h3,h4,h5,h6⟩:=S.accs j es q
   have hb:b≠a:=fun z=>hj (S.adis j i es ds a q he (z▸h1) hσ)
   exact ⟨b,ys,h1,by rw [QH hb];exact h2,h3,h4,h5,RepL.gs g _ _ h6⟩
 ·have old:∀ {j:Nat} {es:List DV},(env.set i (.acc ds'))[j]?=some (.acc es)->∃ es,env[j]?=some (.acc es):=fun {j es} q=>by
   by_cases hj:j=i
   ·exact ⟨ds,hj▸he⟩
   ·rw [List.getElem?_set_ne (Ne.symm hj)] at q;exact ⟨es,q⟩
  obtain ⟨_,q1⟩:=old h1
  obtain ⟨_,q2⟩:=old h2
  exact S.adis j k _ _ b q1 q2 h3 h4
theorem SOk.disown {i:Nat} {ds:List DV} (S:SOk K Z env σ ρ B hp H) (he:env[i]?=some (.acc ds)):∃ B',Gs K ρ B H ρ B' H/\SOk K Z (env.set i (.val (.lst ds))) σ ρ B' hp H:=by
 obtain ⟨a,xs,e1,e2,e3,e4,e5,e6⟩:=S.accs i ds he
 have hl:i < env.length:=(List.getElem?_eq_some_iff.mp he).1
 have g:Gs K ρ B H ρ (fun b=>B b/\b≠a) H:=⟨List.prefix_rfl,fun _ h=>.inl h.1,fun _ _ _ h=>h,fun _ h=>h⟩
 refine ⟨fun b=>B b/\b≠a,g,⟨⟨S.gr.pre,fun b z=>⟨S.gr.ban b z,fun q=>S.zb b z (q▸e3)⟩,fun b z=>S.gr.new b z.1,S.gr.rnew,S.gr.keep,S.gr.trk⟩,S.zb,
  ⟨S.wo.len,S.wo.nd,fun j b o q1 q2=>ORep.gs g rfl (S.wo.obj j b o q1 q2),fun b z=>⟨S.wo.rb b z,fun q=>e5 (q▸z)⟩,fun b z=>S.wo.bt b z.1,fun b z=>S.wo.bk b z.1⟩,fun j d q=>?_,fun j es q=>?_,fun j k es es' b h1 h2 h3 h4=>?_,by simp [S.len]⟩⟩
 ·by_cases hj:j=i
  ·subst hj
   rw [List.getElem?_set_self hl] at q;cases q
   exact ⟨_,e1,qI (fun z=>z.2 rfl) (SqL.of e2) (RepL.gs g _ _ e6)⟩
  ·rw [List.getElem?_set_ne (Ne.symm hj)] at q
   obtain ⟨v,h1,h2⟩:=S.slot j d q
   exact ⟨v,h1,RepV.gs g _ _ h2⟩
 ·have hj:j≠i:=fun z=>by subst z;rw [List.getElem?_set_self hl] at q;cases q
  rw [List.getElem?_set_ne (Ne.symm hj)] at q
  obtain ⟨b,ys,h1,h2,h3,h4,h5,h6⟩:=S.accs j es q
  have hb:b≠a:=fun z=>hj (S.adis j i es ds a q he (z▸h1) e1)
  exact ⟨b,ys,h1,h2,h3,⟨h4,hb⟩,h5,RepL.gs g _ _ h6⟩
 ·have nj:∀ {j:Nat} {es:List DV},(env.set i (.val (.lst ds)))[j]?=some (.acc es)->env[j]?=some (.acc es):=fun {j es} q=>by
   have hj:j≠i:=fun z=>by subst z;rw [List.getElem?_set_self hl] at q;cases q
   rw [List.getElem?_set_ne (Ne.symm hj)] at q;exact q
  exact S.adis j k _ _ b (nj h1) (nj h2) h3 h4
end
section
variable {X:Cx} {e a b c:Expr} {f fa fb:DEx} {ca cb:DTx} {pos:Pos} {st:Stmt} {sts rest:List Stmt} {s s':DSx}
def kq (i:Nat):DSx:=fun env=>pure (.nx,env.set i (.acc []))
theorem Qax (i:Nat) {x:Str} {pos' pos'':Pos} (hN:X.N.Nodup) (hi:X.N[i]?=some x:=by rfl) (hx:Loc X.env.scope x:=by first | exact Or.inl rfl | exact Or.inr rfl) (hs:swapsWith (.List [] pos'') (some (.Name x pos')) pos.line X.env=pure false:=by rfl)
  (hf:X.fn x=true∨X.env.scope.names.lookup x=some .local:=by first | exact .inl rfl | exact .inr rfl | assumption):DS X (.Assign [.Name x pos'] (.List [] pos'') pos) (kq i) :=
 (vN hN hi hx (VW pa_nil).kf hs hf).imp fun D σ H ⟨Z,env,ρ,B,hp,fl,env',hp',S,e,k⟩=>by
  obtain ⟨z,rfl⟩:=Qg e;cases z
  refine ⟨Nat.zero_le _,fun p h kf=>?_⟩
  have kp:=kf p _ QI
  exact k _ ρ _ _ ((Gr.banned h kp).gs S.wo.rb) (S.newAcc h kp RepL.nil)
def yB (i:Nat) (env:En):En:=match env[i]? with
 | some (.acc ds)=>env.set i (.val (.lst ds))
 | _=>env
def JI (i:Nat) (f:DSx):DSx:=fun env=>f (yB i env)
theorem vU {K:PySem.W.Frag} {i:Nat} {D:jb} {σ:St} {H:Hp} (h:tDS K (JI i s) D σ H):tDS K s D σ H:=by
  obtain ⟨Z,env,ρ,B,hp,fl,env',hp',S,e,k⟩:=h
  cases q:env[i]? with
  | none=>exact ⟨Z,env,ρ,B,hp,fl,env',hp',S,by simpa [JI,yB,q] using e,k⟩
  | some z =>
    cases z with
    | un=>exact ⟨Z,env,ρ,B,hp,fl,env',hp',S,by simpa [JI,yB,q] using e,k⟩
    | val d=>exact ⟨Z,env,ρ,B,hp,fl,env',hp',S,by simpa [JI,yB,q] using e,k⟩
    | acc ds =>
      obtain ⟨B',g,S'⟩:=S.disown q
      exact ⟨Z,_,ρ,B',hp,fl,env',hp',S',by simpa [JI,yB,q] using e,k.after g⟩
theorem YY (i:Nat) (h:DS X st s):DS X st (JI i s):=L2.PS.imp h fun _ _ _ q=>vU q
def y0 (i:Nat) (f:DEx):DSx:=fun env=>do
 let d <- f env
 match env[i]? with
 | some (.acc ds)=>if ds.length < lim then pure (.nx,env.set i (.acc (ds++[d]))) else failure
 | _=>failure
theorem GI (i:Nat) {x:Str} {p1 p2:Pos} (he:DE X e f) (hi:X.N[i]?=some x:=by rfl) (hv:Vis X.env.scope x:=by first | exact Or.inl rfl | exact Or.inr (Or.inl rfl) | exact Or.inr (Or.inr rfl))
    (hd:(x==("__debug__" : Str))=false:=by decide) (hcd:(x==("__classdict__" : Str))=false:=by decide)
    (hs:∀ t,PE X (.Call (.Attribute (.Name x p1) "append" p2) [e] [] pos) t->PS X (.Expr (.Call (.Attribute (.Name x p1) "append" p2) [e] [] pos) pos) (Qag t):=by intro _ h;exact Ka h)
    (hb:∀ (t:TE) (ta:TA),PE X (.Name x p1) t->PA X [e] ta->PE X (.Call (.Attribute (.Name x p1) "append" p2) [e] [] pos) (tBM X.K "list" Kb t ta):=by intro _ _ h1 h2;exact k8 PySem.F.plainAttrs_list PySem.F.slot_list_append PySem.F.type_list_append qa h1 h2)
    (hst:starEach [e] X.env=(false,eval e X.env)::starEach [] X.env:=by rfl):DS X (.Expr (.Call (.Attribute (.Name x p1) "append" p2) [e] [] pos) pos) (y0 i f) :=
  L2.PS.imp (hs _ (hb _ _ (vK hi hv hd hcd) (XN he pa_nil hst))) fun D σ H ⟨Z,env,ρ,B,hp,fl,env',hp',S,e,k⟩=>by
    obtain ⟨d,hp1,e1,e2⟩:=bind_some e
    cases q:env[i]? with
    | none=>rw [q] at e2;cases e2
    | some z =>
      rw [q] at e2
      cases z with
      | un=>cases e2
      | val _=>cases e2
      | acc ds =>
        by_cases hl:ds.length < lim
        . have e2':(pure (Fl.nx,env.set i (.acc (ds++[d]))):M (Fl×En)) hp1=some ((fl,env'),hp'):=by
            have:(if ds.length < lim then pure (Fl.nx,env.set i (.acc (ds++[d]))) else failure:M (Fl×En)) hp1=some ((fl,env'),hp'):=e2
            rwa [if_pos hl] at this
          obtain ⟨z,rfl⟩:=Qg e2';cases z
          obtain ⟨a,xs,h1,h2,_⟩:=S.accs i ds q
          refine ⟨_,h1,.inl ⟨rfl,xs,SqL.of h2⟩,?_⟩
          refine tD.run S e1 fun v ρ1 B1 H1 g1 S1 r1=>?_
          obtain ⟨a',xs1,h1',h2',_,_,_,rl⟩:=S1.accs i ds q
          rw [h1] at h1';cases h1'
          obtain ⟨g2,S2⟩:=S1.setAcc q h1 (RepL.append rl (RepL.one r1))
          exact ⟨a,xs1,v,rfl,rfl,h2',by rw [<- rl.length];exact Nat.lt_of_lt_of_le hl zq,k _ ρ1 B1 _ ((g1.gs S.wo.rb).trans g2) S2⟩
        . have:(if ds.length < lim then pure (Fl.nx,env.set i (.acc (ds++[d]))) else failure:M (Fl×En)) hp1=some ((fl,env'),hp'):=e2
          rw [if_neg hl] at this;cases this
def GA:Sl->Sl
 | .val d=>.val d
 | _=>.un
def cE (idx:List Nat) (env:En) (d:DV):En:=.val d::idx.map fun i=>GA ((env[i]?).getD .un)
def kG:DTx:=fun _=>pure true
variable {elt iter:Expr} {x:Str} {px:Pos} {ifs:List Expr} {scope:Scope} {cl:List (Str×Addr)} {caps:List Str} {idx:List Nat} {src:DIx} {te:DTx}
theorem cσ_ok {K:PySem.W.Frag} {Z:Ent} {env:En} {σ:St} {ρ ρ1:List Addr} {B B1:Addr->Prop} {hp hp1:Hs} {H H1:Hp} {d:DV} {v:V} (S:SOk K Z env σ ρ B hp H) (g:Gs K ρ B H ρ1 B1 H1) (W:WOk K ρ1 B1 hp1 H1) (r:RepV K ρ1 B1 H1 d v) :
    SOk K ⟨ρ1,B1,H1⟩ (cE idx env d) (cσ idx σ (some v)) ρ1 B1 hp1 H1:=by
  refine ⟨Gr.refl,W.bt,W,fun i e h=>?_,fun i es h=>?_,fun i j es es' a h=>?_,by simp [cE,cσ]⟩
  . cases i with
    | zero =>
      have:d=e:=by simpa [cE] using h
      subst this
      exact ⟨v,by simp [cσ],r⟩
    | succ i =>
      cases q:idx[i]? with
      | none=>simp [cE,q] at h
      | some k =>
        have h':GA ((env[k]?).getD .un)=.val e:=by simpa [cE,q] using h
        cases z:env[k]? with
        | none=>rw [z] at h';cases h'
        | some sl =>
          rw [z] at h'
          cases sl with
          | un=>cases h'
          | acc _=>cases h'
          | val e' =>
            have:e'=e:=by simpa [GA] using h'
            subst this
            obtain ⟨u,h1,h2⟩:=S.slot k e' z
            exact ⟨u,by simp [cσ,q,h1],RepV.gs g _ _ h2⟩
  . exfalso
    cases i with
    | zero=>simp [cE] at h
    | succ i =>
      cases q:idx[i]? with
      | none=>simp [cE,q] at h
      | some k =>
        have h':GA ((env[k]?).getD .un)=.acc es:=by simpa [cE,q] using h
        cases z:(env[k]?).getD .un with
        | un=>rw [z] at h';cases h'
        | acc _=>rw [z] at h';cases h'
        | val _=>rw [z] at h';cases h'
  . exfalso
    cases i with
    | zero=>simp [cE] at h
    | succ i =>
      cases q:idx[i]? with
      | none=>simp [cE,q] at h
      | some k =>
        have h':GA ((env[k]?).getD .un)=.acc es:=by simpa [cE,q] using h
        cases z:(env[k]?).getD .un with
        | un=>rw [z] at h';cases h'
        | acc _=>rw [z] at h';cases h'
        | val _=>rw [z] at h';cases h'
def DTs (X:Cx) (ifs:List Expr) (t:DTx):Prop:=PTs X ifs (tDT X.K t)
theorem Ur:DTs X [] kG:=fun pins s σ H Q I ⟨Z,env,ρ,B,hp,d,hp',S,e,k⟩=>by
 obtain ⟨rfl,rfl⟩:=Qg e
 exact g7 pins s σ H Q I (k ρ B H Gr.refl S.wo)
theorem qC {c:Expr} (h:DT X c te):DTs X [c] te:=g8 h
def Zm (n:Nat) (body:DSx):List DV->M DV:=fun ds=>do
 let r <- body (ds.map .val++List.replicate (n - ds.length) .un)
 match r.1 with
 | .nx=>pure .non
 | .rt d=>pure d
 | _=>failure
def spD (K:PySem.W.Frag) (n:Nat) (F:List DV->M DV):Sp:=fun vs H Q _=>vs.length=n/\∃ ρ B hp ds d hp',WOk K ρ B hp H/\RepL K ρ B H ds vs/\F ds hp=some (d,hp')/\Fol K ρ B H d hp' Q
structure Has (P:Program) (w:World) (K:PySem.W.Frag) (mg:Str->Option Value) (base:Heap) (x:Str) (k n:Nat) (F:List DV->M DV):Prop where
 ex:∃ (g:Addr) (fd:FuncData) (ps:List Str),Xc P w K mg base CX0 k g fd ps (spD K n F)/\Binds K fd ps []/\PySem.W.keepIn K (.ref g)=true/\mg x=some (.ref g)
theorem qe {K:PySem.W.Frag} {ρ:List Addr} {B:Addr->Prop} {hp:Hs} {H:Hp} {ds:List DV} {vs:List V} {N:List Str} (W:WOk K ρ B hp H) (r:RepL K ρ B H ds vs) :
  SOk K ⟨ρ,B,H⟩ (ds.map .val++List.replicate (N.length - ds.length) .un) (L2.Xx N vs) ρ B hp H:=by
 have hl:=r.length
 have at_:∀ {i:Nat} {z:Sl},(ds.map Sl.val++List.replicate (N.length - ds.length) Sl.un)[i]?=some z->z=.un∨∃ d,ds[i]?=some d/\z=.val d:=fun {i z} h=>by
  by_cases hi:i < ds.length
  ·rw [List.getElem?_append_left (by simpa using hi),List.getElem?_map,List.getElem?_eq_getElem hi] at h
   cases h
   exact .inr ⟨_,List.getElem?_eq_getElem hi,rfl⟩
  ·rw [List.getElem?_append_right (by simpa using hi),List.getElem?_replicate] at h
   split at h
   ·cases h;exact .inl rfl
   ·cases h
 refine ⟨Gr.refl,W.bt,W,fun i d h=>?_,fun i es h=>?_,fun i j es es' a h=>?_,by unfold L2.Xx;simp;omega⟩
 ·rcases at_ h with z | ⟨d',q,z⟩
  ·cases z
  ·cases z
   obtain ⟨v,h1,h2⟩:=r.get q
   refine ⟨v,?_,h2⟩
   unfold L2.Xx
   have hi:i < vs.length:=(List.getElem?_eq_some_iff.mp h1).1
   rw [List.getElem?_append_left (by simpa using hi),List.getElem?_map,h1]
   rfl
 ·rcases at_ h with z | ⟨d',q,z⟩<;>cases z
 ·rcases at_ h with z | ⟨d',q,z⟩<;>cases z
theorem GZ {P:Program} {w:World} {K:PySem.W.Frag} {mg:Str->Option Value} {base:Heap} {x:Str} {stm:Stmt} {g:Addr} {fd:FuncData} {N ps:List Str} {k:Nat} {body:DSx} (F:Fun K x x stm g fd) (Sc:QC N ps (Qo stm)) (hm:mg x=some (.ref g))
  (hb:∀ (kV doc pm:Value) (an:Option Addr) (cdv ct:Value) (us:List Value),us.length=ps.length->bindArgs (PySem.W.fnOf x x (Zu stm) (Q3 stm) (Qo stm) .none kV doc pm an cdv ct) ⟨us,[]⟩=pure (ps.zip us))
  (h:∀ (cdv:Value) (A:Around) (outer:List Env) (s:Shared) (H:Hp) (E:XK),Room k (A.deeper (envOfC x (Qo stm) s.heap.objs.size g cdv))->DSs (qv CX0 P w K mg base N x (Qo stm) g cdv A outer s H E).nox (Q3 stm) body) :
  Has P w K mg base x (k+1) ps.length (Zm N.length body):=by
 refine ⟨g,fd,ps,F.ok Sc (fun vs H Q E h=>h.1) (fun cdv A outer s H vs Q E hr sp=>?_),F.binds hb,F.kp,hm⟩
 obtain ⟨hn,ρ,B,hp,ds,d,hp',W,r,e,k⟩:=sp
 obtain ⟨⟨fl,env'⟩,hp1,e1,e2⟩:=bind_some e
 refine ⟨_,h cdv A outer s H E hr,⟨ρ,B,H⟩,_,ρ,B,hp,fl,env',hp1,qe W r,e1,fun σ' ρ' B' H' g' S'=>?_⟩
 cases fl with
 | nx=>obtain ⟨rfl,rfl⟩:=Qg e2;exact k .non ρ' B' H' S'.gr S'.wo Jt
 | rt x=>obtain ⟨rfl,rfl⟩:=Qg e2;exact fun v rv=>k v ρ' B' H' S'.gr S'.wo rv
 | bk=>cases e2
 | ct=>cases e2
def Qv (n:Nat) (F:List DV->M DV) (a:DAx):DEx:=fun env=>do
 let ds <- a env
 Qz (decide (ds.length=n))
 F ds
theorem Qy {y:Str} {k j n:Nat} {F:List DV->M DV} {e:Expr} {es:List Expr} {fa:DAx} {p:Pos} (h:Has X.prog X.w X.K X.mg X.base y j n F) (hr:Room k X.A) (hj:j<=k) (hx:Jw CX0 X E0) (ha:DA X (e::es) fa) (hg:Gl X y:=by rfl)
  (hdb:(y==("__debug__" : Str))=false:=by decide) (he:starEach (e::es) X.env=(false,eval e X.env)::starEach es X.env:=by rfl) (hpl:(backTo pos (starEach es X.env)).any (·.1)=false:=by rfl):DE X (.Call (.Name y p) (e::es) [] pos) (Qv n F fa):=by
 obtain ⟨g,fd,ps,F',hb,hk,hm⟩:=h.ex
 refine L2.PE.imp (gH F' (hr.mono hj) hg hm hk hb .nil hx ha hdb he hpl) fun σ H Q ⟨Z,env,ρ,B,hp,d,hp',S,e,k⟩=>?_
 obtain ⟨ds,hp1,e1,e2⟩:=bind_some e
 obtain ⟨_,hp2,e3,e4⟩:=bind_some e2
 obtain ⟨hl,rfl⟩:=Qx e3
 refine tDA.run S e1 fun vs ρ1 B1 H1 g1 S1 r1=>?_
 refine ⟨by rw [List.append_nil,<- r1.length];exact of_decide_eq_true hl,ρ1,B1,hp1,ds,d,hp',S1.wo,by rw [List.append_nil];exact r1,e4,k.after g1⟩
end
end D
namespace D
open PySem PySem.Spec PyProof.Rows L2
section
variable {X:Cx} {e a b c:Expr} {f fa fb fc:DEx} {ca cb:DTx} {pos:Pos}
def Yc (C:Int->Int->Bool) (g:Int->Int->DV):DV->DV->M DV
 | .int i,.int j=>if C i j then pure (g i j) else failure
 | _,_=>failure
theorem Y2 {C:Int->Int->Bool} {g:Int->Int->DV} {x y d:DV} {hp hp':Hs} (h:Yc C g x y hp=some (d,hp')):∃ i j,x=.int i/\y=.int j/\C i j=true/\d=g i j/\hp=hp':=by
 unfold Yc at h
 split at h
 ·rename_i i j
  by_cases hc:C i j=true
  ·rw [if_pos hc] at h
   obtain ⟨rfl,rfl⟩:=Qg h
   exact ⟨i,j,rfl,rfl,hc,rfl,rfl⟩
  ·rw [if_neg hc] at h;cases h
 ·cases h
theorem VV {g:Value->Value->Sem Value} {C:Int->Int->Bool} {P:Int->Int->Prop} {q:Int->Int->Int} (ho:OpR X g (rI P fun i j=>.int (q i j))) (hC:∀ i j,C i j=true->P i j):P2 X g (Yc C fun i j=>.int (q i j)):=by
 intro pins s σ H x y v u Q I rx ry h
 refine ho pins s σ H x y v u Q I rx ry ?_
 obtain ⟨ρ,B,hp,dx,dy,d,hp',W,r1,r2,e,k⟩:=h
 obtain ⟨i,j,rfl,rfl,hc,rfl,rfl⟩:=Y2 e
 exact ⟨i,j,r1.intI,r2.intI,hC i j hc,k _ ρ B H Gr.refl W Zo⟩
theorem gG {g:Value->Value->Sem Value} {q:Int->Int->Int} (ho:OpR X g (rI0 fun i j=>.int (q i j))):P2 X g (Yc (fun _ _=>true) fun i j=>.int (q i j)):=by
 intro pins s σ H x y v u Q I rx ry h
 refine ho pins s σ H x y v u Q I rx ry ?_
 obtain ⟨ρ,B,hp,dx,dy,d,hp',W,r1,r2,e,k⟩:=h
 obtain ⟨i,j,rfl,rfl,hc,rfl,rfl⟩:=Y2 e
 exact ⟨i,j,r1.intI,r2.intI,k _ ρ B H Gr.refl W Zo⟩
theorem xR {g:Value->Value->Sem Value} {q:Int->Int->Bool} (ho:OpR X g (rI0 fun i j=>.bl (q i j))):P2 X g (Yc (fun _ _=>true) fun i j=>.bl (q i j)):=by
 intro pins s σ H x y v u Q I rx ry h
 refine ho pins s σ H x y v u Q I rx ry ?_
 obtain ⟨ρ,B,hp,dx,dy,d,hp',W,r1,r2,e,k⟩:=h
 obtain ⟨i,j,rfl,rfl,hc,rfl,rfl⟩:=Y2 e
 exact ⟨i,j,r1.intI,r2.intI,k _ ρ B H Gr.refl W Zh⟩
def QbF (i j:Int):Bool:=decide ((-(2 ^ 64) < i/\i < 2 ^ 64)∨(-(2 ^ 64) < j/\j < 2 ^ 64))
def QbE (_ j:Int):Bool:=decide (0 < j)
def QcE (i j:Int):Bool:=decide (0<=j/\j<=1000000/\i.natAbs < 2 ^ 64)
def qg:DV->DV->M DV:=Yc (fun _ _=>true) fun i j=>.int (i - j)
def Xq:DV->DV->M DV:=Yc QbF fun i j=>.int (i * j)
def QY:DV->DV->M DV:=Yc QbE fun i j=>.int (i % j)
def J8:DV->DV->M DV:=Yc QcE fun i j=>.int (i ^ j.toNat)
def ltD:DV->DV->M DV:=Yc (fun _ _=>true) fun i j=>.bl (decide (i < j))
def leD:DV->DV->M DV:=Yc (fun _ _=>true) fun i j=>.bl (decide (i<=j))
def gtD:DV->DV->M DV:=Yc (fun _ _=>true) fun i j=>.bl (decide (j < i))
def geD:DV->DV->M DV:=Yc (fun _ _=>true) fun i j=>.bl (decide (j<=i))
theorem jK:P2 X (binaryOp .Sub) qg:=gG Qa2
theorem XX:P2 X (binaryOp .Mult) Xq:=VV Qa0 fun i j h=>of_decide_eq_true (p:=(-(2 ^ 64) < i/\i < 2 ^ 64)∨(-(2 ^ 64) < j/\j < 2 ^ 64)) h
theorem Q9:P2 X (binaryOp .Mod) QY:=VV QaZ fun _ _ h=>of_decide_eq_true h
theorem qm:P2 X (binaryOp .Pow) J8:=VV Qa1 fun i j h=>of_decide_eq_true (p:=0<=j/\j<=1000000/\i.natAbs < 2 ^ 64) h
theorem xS:P2 X (compareOp .Lt) ltD:=xR Qb3
theorem Qa3:P2 X (compareOp .LtE) leD:=xR Qb2
theorem Qb5:P2 X (compareOp .Gt) gtD:=xR Qb1
def QbZ:DV->M DV
 | .int i=>pure (.int (-i))
 | _=>failure
def YZ (f:DEx):DEx:=fun env=>do QbZ (<- f env)
theorem xh (h:DE X a f):DE X (.UnaryOp .USub a pos) (YZ f):=L2.PE.imp (Qcd Qby h) fun σ H Q ⟨Z,env,ρ,B,hp,d,hp',S,e,k⟩=>by
 obtain ⟨x,hp1,e1,e2⟩:=bind_some e
 refine tD.run S e1 fun v ρ1 B1 H1 g1 S1 r1=>?_
 cases x with
 | int i=>obtain ⟨rfl,rfl⟩:=Qg e2;exact ⟨i,r1.intI,k _ ρ1 B1 H1 g1 S1.wo Zo⟩
 | _=>cases e2
theorem vG:OpR X (binaryOp .Add) (fun x y H Q=>∃ a b ys,x=.ref a/\y=.ref b/\SqT X.K H a []/\SqT X.K H b ys/\ys.length<=sizeLine/\Q (.ref b) H):=by
 intro pins s σ H x y v u Q I rx ry h
 obtain ⟨a,b,ys,rfl,rfl,ha,hb,hz,q⟩:=h
 cases rx
 cases ry
 obtain ⟨its,r1,p1,_⟩:=I.tuple ha
 obtain ⟨its2,r2,p2,_⟩:=I.tuple hb
 obtain ⟨m,F⟩:=I.fr
 have z:its=[]:=by cases r1;rfl
 subst z
 exact add_tuples F (vA (g:=X.base) (L:=X.env.locals)) p1 p2 (fun _=>⟨.ref b,H,I,rfl,q⟩) (fun n=>absurd rfl n) (fun n=>absurd rfl n) (by have:=r2.length;simp;omega)
def Zv:DV->DV->M DV
 | .int i,.int j=>pure (.int (i+j))
 | .tup xs,.tup ys=>do Qz (zT (xs++ys));pure (.tup (xs++ys))
 | .lst xs,.lst ys=>do Qz (zT (xs++ys));pure (.lst (xs++ys))
 | _,_=>failure
theorem ke:OpR X (binaryOp .Add) (fun x y H Q=>∃ l b xs zs,x=.ref l/\y=.ref b/\SqL X.K H l xs/\SqL X.K H b zs/\xs.length+zs.length<=sizeLine/\∀ p,H p=none->Q (.ref p) (upd H p (.lst (xs++zs)))):=by
 intro pins s σ H x y v u Q I rx ry h
 obtain ⟨l,b,xs,zs,rfl,rfl,hl,hb,hz,q⟩:=h
 cases rx
 cases ry
 obtain ⟨its,r1,⟨⟨k1,dd1,da1,sl1⟩,n1,e1,c1,d1,s1⟩,_⟩:=I.list hl
 obtain ⟨its2,r2,⟨⟨k2,dd2,da2,sl2⟩,n2,e2,c2,d2,s2⟩,_⟩:=I.list hb
 simp only at c1 d1 s1 c2 d2 s2
 subst c1 d1 s1 c2 d2 s2
 have ea:its.toArray++its2.toArray=(its++its2).toArray:=by simp
 have hz':its.length+its2.length<=sizeLine:=by rw [<- r1.length,<- r2.length];exact hz
 refine concat_meets (T := "list") ⟨_,e1,rfl⟩ ⟨_,e2,rfl⟩ noFill_list_add seq_list_add PySem.F.slot_list_add PySem.F.entry_list_add (PySem.F.args_list_add_2 _ _) (list_addW l b its.toArray its2.toArray n1 n2 none none sl1 sl2 (by simpa using hz')) ⟨e1,e2,?_⟩
 rw [ea]
 exact ⟨.ref _,_,I.lnew (t':=s.toks) (r1.append r2) (by rw [List.length_append];exact hz),rfl,q _ I.fresh⟩
theorem ZB:P2 X (binaryOp .Add) Zv:=by
 intro pins s σ H x y v u Q I rx ry h
 obtain ⟨ρ,B,hp,dx,dy,d,hp',W,r1,r2,e,k⟩:=h
 unfold Zv at e
 split at e
 ·obtain ⟨rfl,rfl⟩:=Qg e
  exact QaX pins s σ H x y v u Q I rx ry ⟨_,_,r1.intI,r2.intI,k _ ρ B H Gr.refl W Zo⟩
 ·rename_i xs ys
  obtain ⟨_,hp1,e1,e2⟩:=bind_some e
  obtain ⟨hs,rfl⟩:=Qx e1
  obtain ⟨rfl,rfl⟩:=Qg e2
  obtain ⟨a,vs,rfl,n1,q1,l1⟩:=r1.tupI
  obtain ⟨b,ws,rfl,n2,q2,l2⟩:=r2.tupI
  have hz:vs.length+ws.length<=sizeLine:=by
   have:=Xw hs
   rw [List.length_append] at this
   rw [<- l1.length,<- l2.length];exact this
  by_cases hv:vs=[]
  ·subst hv
   have:xs=[]:=by have:=l1.length;cases xs with | nil=>rfl | cons _ _=>simp at this
   subst this
   exact vG pins s σ H _ _ v u Q I rx ry ⟨a,b,ws,rfl,rfl,q1,q2,by simp at hz;exact hz,k _ ρ B H Gr.refl W (XO n2 q2 l2)⟩
  ·refine gE pins s σ H _ _ v u Q I rx ry ⟨a,b,vs,ws,rfl,rfl,q1,q2,hv,hz,fun hw=>?_,fun hw=>Yt W (RepL.append l1 l2) k⟩
   subst hw
   have:ys=[]:=by have:=l2.length;cases ys with | nil=>rfl | cons _ _=>simp at this
   subst this
   rw [List.append_nil] at k
   exact k _ ρ B H Gr.refl W (XO n1 q1 l1)
 ·rename_i xs ys
  obtain ⟨_,hp1,e1,e2⟩:=bind_some e
  obtain ⟨hs,rfl⟩:=Qx e1
  obtain ⟨rfl,rfl⟩:=Qg e2
  obtain ⟨a,vs,rfl,n1,q1,l1⟩:=r1.lstI
  obtain ⟨b,ws,rfl,n2,q2,l2⟩:=r2.lstI
  have hz:vs.length+ws.length<=sizeLine:=by
   have:=Xw hs
   rw [List.length_append] at this
   rw [<- l1.length,<- l2.length];exact this
  exact ke pins s σ H _ _ v u Q I rx ry ⟨a,b,vs,ws,rfl,rfl,q1,q2,hz,XI W (RepL.append l1 l2) k⟩
 ·cases e
def isN:DV->Bool
 | .non=>true
 | _=>false
theorem UJ {K:PySem.W.Frag} {ρ:List Addr} {B:Addr->Prop} {H:Hp} {d:DV} {v:V} (r:RepV K ρ B H d v):decide (v=.non)=isN d:=by
 cases d with
 | non=>rw [r.nonI];rfl
 | bl b=>rw [r.blI];rfl
 | int b=>rw [r.intI];rfl
 | str b=>rw [r.strI];rfl
 | tup b=>obtain ⟨a,xs,rfl,_⟩:=r.tupI;rfl
 | lst b=>obtain ⟨a,xs,rfl,_⟩:=r.lstI;rfl
 | ref b=>obtain ⟨a,rfl,_⟩:=r.refI;rfl
def isD:DV->DV->M DV
 | x,.non=>pure (.bl (isN x))
 | .bl p,.bl q=>pure (.bl (p==q))
 | _,_=>failure
def vb:DV->DV->M DV
 | x,.non=>pure (.bl (!isN x))
 | .bl p,.bl q=>pure (.bl (p != q))
 | _,_=>failure
theorem Qb6:P2 X (compareOp .Is) isD:=by
 intro pins s σ H x y v u Q I rx ry h
 obtain ⟨ρ,B,hp,dx,dy,d,hp',W,r1,r2,e,k⟩:=h
 unfold isD at e
 split at e
 ·obtain ⟨rfl,rfl⟩:=Qg e
  refine QaY pins s σ H x y v u Q I rx ry ⟨r2.nonI,?_⟩
  rw [UJ r1]
  exact k _ ρ B H Gr.refl W Zh
 ·obtain ⟨rfl,rfl⟩:=Qg e
  obtain rfl:=r1.blI
  obtain rfl:=r2.blI
  cases rx;cases ry
  exact is_bool ⟨.bl _,H,I,rfl,k _ ρ B H Gr.refl W Zh⟩
 ·cases e
theorem Qb7:P2 X (compareOp .IsNot) vb:=by
 intro pins s σ H x y v u Q I rx ry h
 obtain ⟨ρ,B,hp,dx,dy,d,hp',W,r1,r2,e,k⟩:=h
 unfold vb at e
 split at e
 ·obtain ⟨rfl,rfl⟩:=Qg e
  refine gF pins s σ H x y v u Q I rx ry ⟨r2.nonI,?_⟩
  rw [UJ r1]
  exact k _ ρ B H Gr.refl W Zh
 ·obtain ⟨rfl,rfl⟩:=Qg e
  obtain rfl:=r1.blI
  obtain rfl:=r2.blI
  cases rx;cases ry
  exact isnot_bool ⟨.bl _,H,I,rfl,k _ ρ B H Gr.refl W Zh⟩
 ·cases e
theorem j5 {K:PySem.W.Frag} {ρ:List Addr} {B:Addr->Prop} {H:Hp} {ds:List DV} {xs:List V} {i:Int} {d:DV} (r:RepL K ρ B H ds xs) (h:atI ds i=some d):∃ x,atI xs i=some x/\RepV K ρ B H d x:=by
  unfold atI at h ⊢
  rw [<- r.length]
  cases q:ixN ds.length i with
  | none=>rw [q] at h;cases h
  | some j =>
    rw [q] at h
    exact r.get h
def ixD:DV->DV->M DV
  | .tup ds,.int i=>match atI ds i with
    | some d=>pure d
    | none=>failure
  | .lst ds,.int i=>match atI ds i with
    | some d=>pure d
    | none=>failure
  | _,_=>failure
theorem Qb8:IxR X (tP2 X.K ixD):=by
  intro value slice pins s σ H x y v u Q I rx ry h hsub
  obtain ⟨ρ,B,hp,dx,dy,d,hp',W,r1,r2,e,k⟩:=h
  unfold ixD at e
  split at e
  . rename_i ds i
    cases q:atI ds i with
    | none=>rw [q] at e;cases e
    | some d' =>
      rw [q] at e
      obtain ⟨rfl,rfl⟩:=Qg e
      obtain ⟨a,xs,rfl,n1,q1,l1⟩:=r1.tupI
      obtain ⟨z,hz,rz⟩:=j5 l1 q
      exact QaG value slice pins s σ H _ _ v u Q I rx ry ⟨a,xs,i,z,rfl,r2.intI,q1,hz,k _ ρ B H Gr.refl W rz⟩ hsub
  . rename_i ds i
    cases q:atI ds i with
    | none=>rw [q] at e;cases e
    | some d' =>
      rw [q] at e
      obtain ⟨rfl,rfl⟩:=Qg e
      obtain ⟨a,xs,rfl,n1,q1,l1⟩:=r1.lstI
      obtain ⟨z,hz,rz⟩:=j5 l1 q
      exact UO value slice pins s σ H _ _ v u Q I rx ry ⟨a,xs,i,z,rfl,r2.intI,q1,hz,k _ ρ B H Gr.refl W rz⟩ hsub
  . cases e
theorem kR (ha:DE X a fa) (hb:DE X b fb) (hs:jW b:=by intro _ _;rfl):DE X (.Subscript a b pos) (Qh ixD fa fb):=L2.PE.imp (k9 Qb8 ha hb hs) fun _ _ _ h=>Xg h
end
end D
namespace D
open PySem PySem.Spec PyProof.Rows L2
mutual
def toP:DV->PyData
 | .non=>.none
 | .bl b=>.bool b
 | .int i=>.int i
 | .str x=>.str x
 | .tup xs=>.tuple (toPs xs)
 | .lst xs=>.list (toPs xs)
 | .ref _=>.none
def toPs:List DV->List PyData
 | []=>[]
 | d::ds=>toP d::toPs ds
end
mutual
def jI:DV->Bool
 | .ref _=>false
 | .tup xs=>noRefs xs
 | .lst xs=>noRefs xs
 | _=>true
def noRefs:List DV->Bool
 | []=>true
 | d::ds=>jI d&&noRefs ds
end
section
variable {X:Cx} {pins:List (Addr×Obj)} {σ:St} {H:Hp} {s:Shared} {ρ:List Addr} {B:Addr->Prop}
mutual
theorem zH (I:Inv X pins σ H s):∀ (d:DV) (v:V) (u:Value),RepV X.K ρ B H d v->RelV v u->jI d=true->∃ as,Reads s.heap u (toP d) as
  | .non,_,_,r,ru,_=>by obtain rfl:=r.nonI;cases ru;exact ⟨[],by unfold toP;exact .none⟩
  | .bl b,_,_,r,ru,_=>by obtain rfl:=r.blI;cases ru;exact ⟨[],by unfold toP;exact .bool b⟩
  | .int i,_,_,r,ru,_=>by obtain rfl:=r.intI;obtain ⟨t,rfl⟩:=ru;exact ⟨[],by unfold toP;exact .int i t⟩
  | .str x,_,_,r,ru,_=>by obtain rfl:=r.strI;obtain ⟨t,rfl⟩:=ru;exact ⟨[],by unfold toP;exact .str x t⟩
  | .ref _,_,_,_,_,n=>by cases n
  | .tup ds,_,_,r,ru,n=>by
    obtain ⟨a,xs,rfl,_,sq,rl⟩:=r.tupI
    cases ru
    obtain ⟨its,rv,⟨o,e,hc,k,hd⟩,_⟩:=I.tuple sq
    obtain ⟨as,q⟩:=reads_all I ds xs its rl rv (by unfold jI at n;exact n)
    exact ⟨_,by unfold toP;exact reads_tuple_at e hc hd (by simpa using q)⟩
  | .lst ds,_,_,r,ru,n=>by
    obtain ⟨a,xs,rfl,_,sq,rl⟩:=r.lstI
    cases ru
    obtain ⟨its,rv,⟨o,k,e,hc,_,hd⟩,_⟩:=I.list sq
    obtain ⟨as,q⟩:=reads_all I ds xs its rl rv (by unfold jI at n;exact n)
    exact ⟨_,by unfold toP;exact reads_list_at e hc hd (by simpa using q)⟩
theorem reads_all (I:Inv X pins σ H s):∀ (ds:List DV) (xs:List V) (us:List Value),RepL X.K ρ B H ds xs->Vals xs us->noRefs ds=true->∃ as,ReadsAll s.heap us (toPs ds) as
  | [],_,_,r,ru,_=>by unfold RepL at r;subst r;cases ru;exact ⟨[],by unfold toPs;exact .nil⟩
  | d::ds,_,_,r,ru,n=>by
    unfold RepL at r
    obtain ⟨x,xs,rfl,r1,r2⟩:=r
    cases ru with
    | cons q1 q2 =>
      unfold noRefs at n
      rw [Bool.and_eq_true] at n
      obtain ⟨as,h1⟩:=zH I d x _ r1 q1 n.1
      obtain ⟨bs,h2⟩:=reads_all I ds xs _ r2 q2 n.2
      exact ⟨_,by unfold toPs;exact .cons h1 h2⟩
end
end
def okP (d:DV):Bool:=jI d&&SeqAt.shaped (toP d)
def eqD:DV->DV->M DV:=fun x y=>do Qz (okP x&&okP y);pure (.bl (PyData.eqv (toP x) (toP y)))
def neD:DV->DV->M DV:=fun x y=>do Qz (okP x&&okP y);pure (.bl (!PyData.eqv (toP x) (toP y)))
section
variable {X:Cx} {e a b c:Expr} {f fa fb fc:DEx} {ca cb:DTx} {pos:Pos}
theorem Qb4 (hu:X.A.units+64 < cLine):P2 X (compareOp .Eq) eqD:=by
 intro pins s σ H x y v u Q I rx ry h
 obtain ⟨ρ,B,hp,dx,dy,d,hp',W,r1,r2,e,k⟩:=h
 obtain ⟨_,hp1,e1,e2⟩:=bind_some e
 obtain ⟨hs,rfl⟩:=Qx e1
 obtain ⟨rfl,rfl⟩:=Qg e2
 simp only [okP,Bool.and_eq_true] at hs
 obtain ⟨as,q1⟩:=zH I dx x v r1 rx hs.1.1
 obtain ⟨bs,q2⟩:=zH I dy y u r2 ry hs.2.1
 exact eq_dataH q1 q2 hs.1.2 hs.2.2 hu ⟨.bl _,H,I,rfl,k _ ρ B H Gr.refl W Zh⟩
def tPn (K:PySem.W.Frag) (g:List DV->M DV):List V->Hp->VK->Prop:=fun xs H Q=>∃ ρ B hp ds d hp',WOk K ρ B hp H/\RepL K ρ B H ds xs/\g ds hp=some (d,hp')/\Fol K ρ B H d hp' Q
def Q1 (g:List DV->M DV) (a:DAx):DEx:=fun env=>do g (<- a env)
theorem yD {K:PySem.W.Frag} {g:List DV->M DV} {fa:DAx} {σ:St} {H:Hp} {Q:VK} (h:tD K (Q1 g fa) σ H Q):tCB (tPn K g) (tDA K fa) σ H Q:=by
 obtain ⟨Z,env,ρ,B,hp,d,hp',S,e,k⟩:=h
 obtain ⟨ds,hp1,e1,e2⟩:=bind_some e
 exact tDA.run S e1 fun vs ρ1 B1 H1 g1 S1 r1=>⟨ρ1,B1,hp1,ds,d,hp',S1.wo,r1,e2,k.after g1⟩
theorem Zr {x:Str} {id:String} {g:List DV->M DV} {e:Expr} {es:List Expr} {fa:DAx} {p:Pos} (hc:Zy X (.builtin id) (tPn X.K g)) (hm:X.mg x=none) (hv:bootBuiltins x=some (.builtin id)) (ha:DA X (e::es) fa) (hg:Gl X x:=by rfl) (hn:x ≠ "__name__" := by decide) (hdb:(x==("__debug__" : Str))=false:=by decide)
  (he:starEach (e::es) X.env=(false,eval e X.env)::starEach es X.env:=by rfl) (hpl:(backTo pos (starEach es X.env)).any (·.1)=false:=by rfl):DE X (.Call (.Name x p) (e::es) [] pos) (Q1 g fa) :=
 L2.PE.imp (zC hc hg hm hv ha hn hdb he hpl) fun _ _ _ h=>yD h
theorem jr {x:Str} {T:String} {g:List DV->M DV} {e:Expr} {es:List Expr} {fa:DAx} {p:Pos} (hc:Zy X (.type T) (tPn X.K g)) (hm:X.mg x=none) (hv:bootBuiltins x=some (.type T)) (ha:DA X (e::es) fa) (hg:Gl X x:=by rfl) (hn:x ≠ "__name__" := by decide) (hdb:(x==("__debug__" : Str))=false:=by decide)
  (he:starEach (e::es) X.env=(false,eval e X.env)::starEach es X.env:=by rfl) (hpl:(backTo pos (starEach es X.env)).any (·.1)=false:=by rfl):DE X (.Call (.Name x p) (e::es) [] pos) (Q1 g fa) :=
 L2.PE.imp (KY hc hg hm hv ha hn hdb he hpl) fun _ _ _ h=>yD h
theorem RepL.oneI {K:PySem.W.Frag} {ρ:List Addr} {B:Addr->Prop} {H:Hp} {d:DV} {vs:List V} (h:RepL K ρ B H [d] vs):∃ v,vs=[v]/\RepV K ρ B H d v:=by
 unfold RepL at h
 obtain ⟨x,r,rfl,h1,h2⟩:=h
 unfold RepL at h2;subst h2
 exact ⟨x,rfl,h1⟩
def KM:List DV->M DV
 | [.tup ds]=>pure (.int ds.length)
 | [.lst ds]=>pure (.int ds.length)
 | _=>failure
theorem kP:Zy X (.builtin "len") (tPn X.K KM):=by
 intro pins s σ H xs us Q I r h
 obtain ⟨ρ,B,hp,ds,d,hp',W,rl,e,k⟩:=h
 unfold KM at e
 split at e
 ·obtain ⟨rfl,rfl⟩:=Qg e
  obtain ⟨v,rfl,rv⟩:=rl.oneI
  obtain ⟨a,ys,rfl,_,sq,l⟩:=rv.tupI
  exact JN pins s σ H _ us Q I r ⟨a,ys,rfl,.inr sq,by rw [<- l.length];exact k _ ρ B H Gr.refl W Zo⟩
 ·obtain ⟨rfl,rfl⟩:=Qg e
  obtain ⟨v,rfl,rv⟩:=rl.oneI
  obtain ⟨a,ys,rfl,_,sq,l⟩:=rv.lstI
  exact JN pins s σ H _ us Q I r ⟨a,ys,rfl,.inl sq,by rw [<- l.length];exact k _ ρ B H Gr.refl W Zo⟩
 ·cases e
def gC:List DV->M DV
 | [.int i,.int j]=>pure (.int (if j < i then j else i))
 | _=>failure
theorem QbG (hc:X.calm=true):Zy X (.builtin "min") (tPn X.K gC):=by
 intro pins s σ H xs us Q I r h
 obtain ⟨ρ,B,hp,ds,d,hp',W,rl,e,k⟩:=h
 unfold gC at e
 split at e
 ·obtain ⟨rfl,rfl⟩:=Qg e
  exact Ku hc pins s σ H xs us Q I r ⟨_,_,rl.ints2,k _ ρ B H Gr.refl W Zo⟩
 ·cases e
def Qbw:List DV->M DV
 | [.lst ds]=>pure (.tup ds)
 | [.tup ds]=>pure (.tup ds)
 | _=>failure
theorem uK:Zy X (.type "tuple") (tPn X.K Qbw):=by
 intro pins s σ H xs us Q I r h
 obtain ⟨ρ,B,hp,ds,d,hp',W,rl,e,k⟩:=h
 unfold Qbw at e
 split at e
 ·obtain ⟨rfl,rfl⟩:=Qg e
  obtain ⟨v,rfl,rv⟩:=rl.oneI
  obtain ⟨a,ys,rfl,_,sq,l⟩:=rv.lstI
  exact Jz pins s σ H _ us Q I r ⟨a,ys,rfl,.inl ⟨sq,Yt W l k⟩⟩
 ·obtain ⟨rfl,rfl⟩:=Qg e
  obtain ⟨v,rfl,rv⟩:=rl.oneI
  obtain ⟨a,ys,rfl,nb,sq,l⟩:=rv.tupI
  exact Jz pins s σ H _ us Q I r ⟨a,ys,rfl,.inr ⟨sq,k _ ρ B H Gr.refl W (XO nb sq l)⟩⟩
 ·cases e
def zX:DV->Option String
 | .non=>some "NoneType"
 | .bl _=>some "bool"
 | .int _=>some "int"
 | .str _=>some "str"
 | .tup _=>some "tuple"
 | .lst _=>some "list"
 | .ref _=>none
def jg (t T:String):Bool:=t==T||(t == "bool" && T == "int")
def qw (T:String) (f:DEx):DEx:=fun env=>do
 match zX (<- f env) with
 | some t=>pure (.bl (jg t T))
 | none=>failure
theorem kO {T:String} (hT:T∈["int", "bool", "tuple", "str", "list"]):Zy X (.builtin "isinstance") (fun xs H Q=>∃ ρ B d x t,xs=[x,.ty T]/\RepV X.K ρ B H d x/\zX d=some t/\Q (.bl (jg t T)) H):=by
  intro pins s σ H xs us Q I r h
  obtain ⟨ρ,B,d,x,t,rfl,rv,ht,q⟩:=h
  obtain ⟨u,w',rfl,ru,rw'⟩:=Vo r
  cases rw'
  have fin:∀ tk,EP X pins σ Q (.bool (jg t T)) { s with toks:=tk }:=fun tk=>⟨.bl _,H,I.tok _,rfl,q⟩
  have kit:PySem.W.kitOne X.K (.type t) (.type T)=some (jg t T):=by
    have:t∈["NoneType", "bool", "int", "str", "tuple", "list"]:=by
      cases d<;>cases ht<;>simp
    simp only [List.mem_cons,List.not_mem_nil,or_false] at this hT
    rcases this with rfl | rfl | rfl | rfl | rfl | rfl<;>rcases hT with rfl | rfl | rfl | rfl | rfl<;>first | rfl | decide | with_unfolding_all rfl | kernel_rfl
  cases d with
  | non=>obtain rfl:=rv.nonI;cases ht;cases ru;exact PySem.W.kia_one PySem.W.kitx_none I.kIn True.intro kit (fun z=>nomatch z) fin
  | bl b=>obtain rfl:=rv.blI;cases ht;cases ru;exact PySem.W.kia_one PySem.W.kitx_bool I.kIn True.intro kit (fun z=>nomatch z) fin
  | int b=>obtain rfl:=rv.intI;cases ht;obtain ⟨tk,rfl⟩:=ru;exact PySem.W.kia_one PySem.W.kitx_int I.kIn True.intro kit (fun z=>nomatch z) fin
  | str b=>obtain rfl:=rv.strI;cases ht;obtain ⟨tk,rfl⟩:=ru;exact PySem.W.kia_one PySem.W.kitx_str I.kIn True.intro kit (fun z=>nomatch z) fin
  | ref b=>cases ht
  | tup b =>
    cases ht
    obtain ⟨a,ys,rfl,_,sq,_⟩:=rv.tupI
    cases ru
    obtain ⟨its,_,⟨o,e1,e2,_⟩,_⟩:=I.tuple sq
    exact PySem.W.kia_one PySem.W.kitx_tuple I.kIn ⟨o,e1,e2⟩ kit (fun z=>nomatch z) fin
  | lst b =>
    cases ht
    obtain ⟨a,ys,rfl,_,sq,_⟩:=rv.lstI
    cases ru
    obtain ⟨its,_,⟨o,k,e1,e2,_⟩,_⟩:=I.list sq
    exact PySem.W.kia_one PySem.W.kitx_list I.kIn ⟨o,e1,e2⟩ kit (fun z=>nomatch z) fin
theorem xf {T:String} {p p':Pos} (hm:X.mg "isinstance" = none) (hm':X.mg (Str.ofString T)=none) (hv:bootBuiltins (Str.ofString T)=some (.type T)) (hT:T∈["int", "bool", "tuple", "str", "list"]) (h:DE X e f) (hg:Gl X "isinstance" := by rfl) (hg':Gl X (Str.ofString T):=by rfl)
    (hn:Str.ofString T ≠ "__name__" := by decide) (hdb:(Str.ofString T==("__debug__" : Str))=false:=by decide) (hs:starEach [e,.Name (Str.ofString T) p'] X.env=(false,eval e X.env)::starEach [.Name (Str.ofString T) p'] X.env:=by rfl)
    (hs2:starEach [.Name (Str.ofString T) p'] X.env=(false,eval (.Name (Str.ofString T) p') X.env)::starEach [] X.env:=by rfl) (hpl:(backTo pos (starEach [.Name (Str.ofString T) p'] X.env)).any (·.1)=false:=by rfl):DE X (.Call (.Name "isinstance" p) [e,.Name (Str.ofString T) p'] [] pos) (qw T f) :=
  L2.PE.imp (zC (kO hT) hg hm boot_isinstance (XN h (XN (U4 (v:=.ty T) hg' hm' hv rfl hn hdb) pa_nil hs2) hs) (by decide) (by decide) hs hpl) fun σ H Q ⟨Z,env,ρ,B,hp,d,hp',S,e,k⟩=>by
    obtain ⟨x,hp1,e1,e2⟩:=bind_some e
    refine tD.run S e1 fun v ρ1 B1 H1 g1 S1 r1=>?_
    cases q:zX x with
    | none=>rw [q] at e2;cases e2
    | some t =>
      rw [q] at e2
      obtain ⟨rfl,rfl⟩:=Qg e2
      exact ⟨ρ1,B1,x,v,t,rfl,r1,q,k _ ρ1 B1 H1 g1 S1.wo Zh⟩
def Z7 (g g':DV->DV->M DV) (fa fb fc:DEx):DEx:=fun env=>do
 let x <- fa env
 let y <- fb env
 let z <- g x y
 if <- asB z then
  let u <- fc env
  g' y u
 else pure (.bl false)
end
end D
namespace D
open PySem PySem.Spec PyProof.Rows L2
section
variable {X:Cx} {e a b c:Expr} {f fa fb fc:DEx} {ca cb:DTx} {pos:Pos}
theorem VJ {K:PySem.W.Frag} {g g':DV->DV->M DV} {σ:St} {H:Hp} {Q:VK} (h:tD K (Z7 g g' fa fb fc) σ H Q):uj (tP2 K g) (tP2 K g') (tD K fa) (tD K fb) (tD K fc) σ H Q:=by
  obtain ⟨Z,env,ρ,B,hp,d,hp',S,e,k⟩:=h
  obtain ⟨x,hp1,e1,e⟩:=bind_some e
  obtain ⟨y,hp2,e2,e⟩:=bind_some e
  obtain ⟨z,hp3,e3,e⟩:=bind_some e
  obtain ⟨t,hp4,e4,e⟩:=bind_some e
  obtain ⟨rfl,rfl⟩:=Xd e4
  refine tD.run S e1 fun v ρ1 B1 H1 g1 S1 r1=>tD.run S1 e2 fun u ρ2 B2 H2 g2 S2 r2=>?_
  refine ⟨ρ2,B2,hp2,x,y,_,_,S2.wo,RepV.grow S1.wo.rb g2 _ _ r1,r2,e3,fun w ρ3 B3 H3 g3 W3 r3=>⟨t,r3.blI,?_⟩⟩
  have S3:=S2.grow g3 W3
  cases t with
  | false =>
    obtain ⟨rfl,rfl⟩:=Qg e
    exact KH (k _ ρ3 B3 H3 (g1.trans (g2.trans g3)) W3 Zh)
  | true =>
    obtain ⟨q,hp5,e5,e6⟩:=bind_some e
    refine KI (tD.run S3 e5 fun p ρ4 B4 H4 g4 S4 r4=>?_)
    exact ⟨ρ4,B4,hp5,y,q,d,hp',S4.wo,RepV.grow S3.wo.rb g4 _ _ (RepV.grow S2.wo.rb g3 _ _ r2),r4,e6,k.after (g1.trans (g2.trans (g3.trans g4)))⟩
theorem qZ {op op':CmpOp} {g g':DV->DV->M DV} (ho:P2 X (compareOp op) g) (ho':P2 X (compareOp op') g') (ha:DE X a fa) (hb:DE X b fb) (hc:DE X c fc) (hm:lastMarks [op,op'] [b,c]=false:=by with_unfolding_all rfl):DT X (.Compare a [op,op'] [b,c] pos) (eB (Z7 g g' fa fb fc)) :=
 L2.PT.imp (vP ho ho' ha hb hc hm) fun σ H Q ⟨Z,env,ρ,B,hp,d,hp',S,e,k⟩=>by
  obtain ⟨x,hp1,e1,e2⟩:=bind_some e
  obtain ⟨rfl,rfl⟩:=Xd e2
  exact VJ (tD.run S e1 fun v ρ1 B1 H1 g1 S1 r1=>⟨d,r1.blI,k ρ1 B1 H1 g1 S1.wo⟩)
abbrev DOx:=En->M (Option Int)
def tDO (K:PySem.W.Frag) (f:DOx):TO:=fun σ H Q=>∃ Z env ρ B hp d hp',SOk K Z env σ ρ B hp H/\f env hp=some (d,hp')/\QbB K ρ B H hp' (Q d)
def DO (X:Cx) (e:Option Expr) (f:DOx):Prop:=PO X e (tDO X.K f)
def U3:DOx:=fun _=>pure none
def asI:DV->M Int
 | .int i=>pure i
 | _=>failure
theorem qO {d:DV} {c:Int} {hp hp':Hs} (h:asI d hp=some (c,hp')):d=.int c/\hp=hp':=by
 cases d with
 | int b=>obtain ⟨rfl,rfl⟩:=Qg h;exact ⟨rfl,rfl⟩
 | _=>cases h
def J5 (f:DEx):DOx:=fun env=>do let i <- asI (<- f env);pure (some i)
theorem uS:DO X none U3:=fun pins s σ H Q I ⟨Z,env,ρ,B,hp,d,hp',S,e,k⟩=>by
 obtain ⟨rfl,rfl⟩:=Qg e
 exact gP pins s σ H Q I (k ρ B H Gr.refl S.wo)
theorem xl (h:DE X e f):DO X (some e) (J5 f):=fun pins s σ H Q I ⟨Z,env,ρ,B,hp,d,hp',S,e,k⟩=>by
 obtain ⟨x,hp1,e1,e2⟩:=bind_some e
 obtain ⟨i,hp2,e3,e4⟩:=bind_some e2
 obtain ⟨rfl,rfl⟩:=qO e3
 obtain ⟨rfl,rfl⟩:=Qg e4
 exact gQ h pins s σ H Q I (tD.run S e1 fun v ρ1 B1 H1 g1 S1 r1=>⟨i,r1.intI,k ρ1 B1 H1 g1 S1.wo⟩)
theorem tDO.run {K:PySem.W.Frag} {f:DOx} {Z:Ent} {env:En} {σ:St} {ρ:List Addr} {B:Addr->Prop} {hp hp1:Hs} {H:Hp} {d:Option Int} {Q:Option Int->Hp->Prop} (S:SOk K Z env σ ρ B hp H) (e:f env hp=some (d,hp1))
  (k:∀ ρ' B' H',Gr K ρ B H ρ' B' H'->SOk K Z env σ ρ' B' hp1 H'->Q d H'):tDO K f σ H Q :=
 ⟨Z,env,ρ,B,hp,d,hp1,S,e,fun ρ' B' H' g W=>k ρ' B' H' g (S.grow g W)⟩
def qu (ds:List DV) (lo hi:Option Int):List DV:=(ds.drop (HT.sIx ds.length 0 lo)).take (HT.sIx ds.length ds.length hi - HT.sIx ds.length 0 lo)
theorem qS {K:PySem.W.Frag} {ρ:List Addr} {B:Addr->Prop} {H:Hp} {ds:List DV} {xs:List V} {lo hi:Option Int} (r:RepL K ρ B H ds xs):RepL K ρ B H (qu ds lo hi) (yw xs lo hi):=by
 unfold qu yw
 rw [r.length]
 exact RepL.take _ (RepL.drop _ r)
def slD (d:DV) (lo hi:Option Int):M DV:=match d with
 | .lst ds=>pure (.lst (qu ds lo hi))
 | .tup ds=>pure (.tup (qu ds lo hi))
 | _=>failure
def eSl (f:DEx) (lo hi:DOx):DEx:=fun env=>do let d <- f env;let l <- lo env;let h <- hi env;slD d l h
def tPs (K:PySem.W.Frag):V->Option Int->Option Int->Hp->VK->Prop:=fun x lo hi H Q=>∃ ρ B hp d r hp',WOk K ρ B hp H/\RepV K ρ B H d x/\slD d lo hi hp=some (r,hp')/\Fol K ρ B H r hp' Q
theorem Vj {prog:Program} {w:World} {A:Around} {E:Value->Shared->Prop} {s:Shared} {t sl:Addr} {items:Array Value} {vl vu:Value} {lo hi:Option Int} {Q:Value->Shared->Prop} (ht:IsTup s.heap t items) (hs:s.heap.IsSliceOf sl vl vu .none) (pl:IsPart vl lo) (pu:IsPart vu hi)
  (h0:HT.sIx items.size 0 lo=0) (h1:HT.sIx items.size items.size hi=items.size) (h:Q (.ref t) s):wpAny (model prog w) A (getItem (.ref t) (.ref sl)) Q E s:=by
 obtain ⟨os,hos,hcs,hds⟩:=id hs
 have hTs:s.TypeIs (.ref sl) "slice" := ⟨os,hos,hcs⟩
 unfold getItem
 try with_reducible refine wpAny_holding ?_
 first | refine wpAny_bind (wpAny_pure ?_) | skip
 refine wpAny_bind (wpAny_sequenceKey ht.typeIs (by decide) ?_)
 refine wpAny_bind (wpAny_callSpecial?_slot (name:=Str.ofString "__getitem__") ht.typeIs PyProof.Rows.slot_tuple_getitem (wpAny_call_entry PyProof.Rows.slot_tuple_getitem ht.typeIs entry_tuple_getitem ?_ (args_tuple_getitem _ _)))
 show wpAny _ _ (Builtin.Tuple.tupleItemsOf (.ref t) >>= _) _ _ s
 refine wpAny_bind (tupleItemsOf_ ht ?_)
 refine wpAny_bind (wpAny_typeOf hTs ?_)
 rw [if_pos (by decide)]
 refine wpAny_bind (HT.sliceApplied_gen hs pl pu ?_)
 have yes:(((HT.sIx items.size 0 lo:Nat):Int)==0&&(1:Int)==1&&(HT.sIx items.size items.size hi - HT.sIx items.size 0 lo)==items.size)=true:=by rw [h0,h1];simp
 show wpAny _ _ (if (((HT.sIx items.size 0 lo:Nat):Int)==0&&(1:Int)==1&&(HT.sIx items.size items.size hi - HT.sIx items.size 0 lo)==items.size)=true then _ else _) _ _ s
 rw [if_pos yes]
 have ex:∀ {Q':Bool->Shared->Prop} {A':Around} {E':Value->Shared->Prop},Q' true s->wpAny (model prog w) A' (Builtin.Tuple.tupleIsExact (.ref t)) Q' E' s:=fun {Q' A' E'} q=>by
  unfold Builtin.Tuple.tupleIsExact
  exact wpAny_bind (wpAny_typeOf ht.typeIs (wpAny_pure (by rw [show (Value.type "tuple" == Value.type "tuple")=true from beq_self_eq_true _];exact q)))
 refine wpAny_bind (ex ?_)
 rw [if_pos rfl]
 first
  | exact wpAny_bind (wpAny_rule (wpAny_pure ⟨_,rfl,wpAny_pure h⟩))
  | exact wpAny_bind (wpAny_rule (wpAny_bind (wpAny_pure (wpAny_pure ⟨_,rfl,wpAny_pure h⟩))))
theorem kD:SlR X (fun x lo hi H Q=>∃ a xs,x=.ref a/\SqT X.K H a xs/\(HT.sIx xs.length 0 lo=0/\HT.sIx xs.length xs.length hi=xs.length)/\Q (.ref a) H):=by
 intro pins s σ H x v vl vu lo hi sl Q I rx hs pl pu h
 obtain ⟨a,xs,rfl,hx,⟨h0,h1⟩,q⟩:=h
 cases rx
 obtain ⟨its,r,ht,hz⟩:=I.tuple hx
 have hlen:its.toArray.size=xs.length:=by rw [List.size_toArray];exact r.length.symm
 exact ⟨"tuple", _,PyProof.Rows.slot_tuple_getitem.lookup,ht.typeIs,Vj ht hs pl pu (by rw [hlen];exact h0) (by rw [hlen];exact h1) ⟨.ref a,H,I,rfl,q⟩⟩
theorem Kw {α:Type} (ds:List α) (i j:Nat) (h0:i=0) (h1:j=ds.length):(ds.drop i).take (j - i)=ds:=by subst h0 h1;simp
theorem QcM:SlR X (tPs X.K):=by
  intro pins s σ H x v vl vu lo hi sl Q I rx hs pl pu h
  obtain ⟨ρ,B,hp,d,r,hp',W,rv,e,k⟩:=h
  cases d with
  | lst ds =>
    obtain ⟨rfl,rfl⟩:=Qg e
    obtain ⟨a,xs,rfl,nb,sq,rl⟩:=rv.lstI
    exact Kh pins s σ H _ v vl vu lo hi sl Q I rx hs pl pu ⟨a,xs,rfl,sq,XI W (qS rl) k⟩
  | tup ds =>
    obtain ⟨rfl,rfl⟩:=Qg e
    obtain ⟨a,xs,rfl,nb,sq,rl⟩:=rv.tupI
    by_cases hw:HT.sIx xs.length 0 lo=0/\HT.sIx xs.length xs.length hi=xs.length
    . refine kD pins s σ H _ v vl vu lo hi sl Q I rx hs pl pu ⟨a,xs,rfl,sq,hw,?_⟩
      have:qu ds lo hi=ds:=by unfold qu;exact Kw ds _ _ (by rw [rl.length];exact hw.1) (by rw [rl.length];exact hw.2)
      rw [this] at k
      exact k _ ρ B H Gr.refl W (XO nb sq rl)
    . exact Qbu pins s σ H _ v vl vu lo hi sl Q I rx hs pl pu ⟨a,xs,rfl,sq,hw,Yt W (qS rl) k⟩
  | non=>cases e
  | bl _=>cases e
  | int _=>cases e
  | str _=>cases e
  | ref _=>cases e
theorem QbI {lo hi:Option Expr} {ol oh:DOx} {p2:Pos} (h:DE X e f) (hl:DO X lo ol) (hh:DO X hi oh):DE X (.Subscript e (.Slice lo hi none p2) pos) (eSl f ol oh) :=
 L2.PE.imp (yV QcM h hl hh) fun σ H Q ⟨Z,env,ρ,B,hp,d,hp',S,e,k⟩=>by
  obtain ⟨x,hp1,e1,e⟩:=bind_some e
  obtain ⟨l,hp2,e2,e⟩:=bind_some e
  obtain ⟨u,hp3,e3,e⟩:=bind_some e
  refine tD.run S e1 fun v ρ1 B1 H1 g1 S1 r1=>tDO.run S1 e2 fun ρ2 B2 H2 g2 S2=>tDO.run S2 e3 fun ρ3 B3 H3 g3 S3=>?_
  exact ⟨ρ3,B3,hp3,x,d,hp',S3.wo,RepV.grow S1.wo.rb (g2.trans g3) _ _ r1,e,k.after (g1.trans (g2.trans g3))⟩
theorem QbN {P:Program} {w:World} {K:PySem.W.Frag} {mg:Str->Option Value} {base:Heap} {x:Str} {stm:Stmt} {g:Addr} {fd:FuncData} {N ps:List Str} {k:Nat} {body:DSx} (F:Fun K x x stm g fd) (Sc:QC N ps (Qo stm))
  (h:∀ (cdv:Value) (A:Around) (outer:List Env) (s:Shared) (H:Hp) (E:XK),Room k (A.deeper (envOfC x (Qo stm) s.heap.objs.size g cdv))->DSs (qv CX0 P w K mg base N x (Qo stm) g cdv A outer s H E).nox (Q3 stm) body) :
  Xc P w K mg base CX0 (k+1) g fd ps (spD K ps.length (Zm N.length body)):=by
 refine F.ok Sc (fun vs H Q E h=>h.1) (fun cdv A outer s H vs Q E hr sp=>?_)
 obtain ⟨hn,ρ,B,hp,ds,d,hp',W,r,e,k⟩:=sp
 obtain ⟨⟨fl,env'⟩,hp1,e1,e2⟩:=bind_some e
 refine ⟨_,h cdv A outer s H E hr,⟨ρ,B,H⟩,_,ρ,B,hp,fl,env',hp1,qe W r,e1,fun σ' ρ' B' H' g' S'=>?_⟩
 cases fl with
 | nx=>obtain ⟨rfl,rfl⟩:=Qg e2;exact k .non ρ' B' H' S'.gr S'.wo Jt
 | rt x=>obtain ⟨rfl,rfl⟩:=Qg e2;exact fun v rv=>k v ρ' B' H' S'.gr S'.wo rv
 | bk=>cases e2
 | ct=>cases e2
theorem yY {K:PySem.W.Frag} {ρ:List Addr} {B:Addr->Prop} {H:Hp}:∀ ns:List Int,RepL K ρ B H (ns.map DV.int) (ns.map V.int)
 | []=>RepL.nil
 | _::r=>RepL.cons Zo (yY r)
theorem QaO {K:PySem.W.Frag} {F:List DV->M DV} {H:Hp} {a:Addr} {ns:List Int} {E:XK} (h:∃ hp',F [.lst (ns.map .int)] []=some (.bl true,hp')) (hS:SqL K H a (ns.map V.int)):spD K 1 F [.ref a] H (fun v _=>v=.bl true) E:=by
 obtain ⟨hp',h⟩:=h
 refine ⟨rfl,[],fun _=>False,[],[.lst (ns.map .int)],.bl true,hp',⟨rfl,List.nodup_nil,fun i a o h=>by simp at h,fun a h=>absurd h (by simp),fun a h=>absurd h (fun z=>z),fun a h=>h.elim⟩,RepL.one (qI (fun z=>z) hS (yY ns)),h,fun v _ _ _ _ _ r=>r.blI⟩
end
end D
namespace L2
open PySem PySem.Spec PyProof.Rows
section
variable {prog:Program} {w:World} {A:Around} {E:Value->Shared->Prop} {s:Shared}
end
end L2
namespace L2
open PySem PySem.Spec PyProof.Rows
section
variable {X:Cx} {pins:List (Addr×Obj)} {σ:L2.St} {H:Hp} {s:Shared} {h':Heap}
end
section
variable {X:Cx} {elts:List Expr} {kt:Nat} {p2:Pos}
end
end L2
namespace D
open PySem PySem.Spec PyProof.Rows L2
section
variable {X:Cx} {elts:List Expr} {kt:Nat} {p2:Pos} {f g:DEx}
def gT (ix:List Nat):DGx:=fun d env=>do
 let ds <- Qc5 d
 Qz (decide (ds.length=ix.length))
 pure ((ix.zip ds).foldl (fun en q=>en.set q.1 (.val q.2)) env)
def zL (f:DEx) (g:DGx):DSx:=fun env=>do let d <- f env;let env' <- g d env;pure (.nx,env')
theorem X5 {tg e:Expr} {g:DGx} {pos:Pos} (he:DE X e f) (hg:PG X tg (tDG X.K g)) (hs:swapsWithSole [tg] e pos.line X.env=pure false:=by rfl) (hw:swappedStores [tg] e X.env=pure none:=by rfl)
  (h1:(assignEach [tg] X.env).map (·.2)=[assign tg X.env]:=by rfl):DS X (.Assign [tg] e pos) (zL f g) :=
 L2.PS.imp (Qbg he hg hs hw h1) fun D σ H ⟨Z,env,ρ,B,hp,fl,env',hp',S,e,k⟩=>by
  obtain ⟨d,hp1,e1,e⟩:=bind_some e
  obtain ⟨env1,hp2,e2,e⟩:=bind_some e
  obtain ⟨z,rfl⟩:=Qg e;cases z
  exact tD.run S e1 fun v ρ1 B1 H1 g1 S1 r1=>⟨Z,env,ρ1,B1,hp1,d,env',hp2,S1,r1,e2,fun σ' ρ' B' H' g' S'=>k σ' ρ' B' H' ((g1.gs S.wo.rb).trans g') S'⟩
end
end D
namespace D
open PySem PySem.Spec PyProof.Rows L2
theorem V2 {lo:Int} {n i:Nat} {d:DV} (h:(Zl lo n)[i]?=some d):i < n/\d=.int (lo+i):=by
 have hi:i < n:=by have:=(List.getElem?_eq_some_iff.mp h).1;simpa [Zl] using this
 refine ⟨hi,?_⟩
 simp [Zl,hi] at h
 exact h.symm
theorem ZV (lo:Int) (n:Nat):(Zl lo n).length=n:=by simp [Zl]
theorem qG (i:Int):okP (.int i)=true:=by rfl
theorem Uu (i j:Int):PyData.eqv (.int i) (.int j)=(i==j):=rfl
theorem xu (i j:Int):eqD (.int i) (.int j)=pure (.bl (i==j)):=by
 simp only [eqD,qG,Bool.and_self,Qz,if_true,pure_bind,toP,Uu]
theorem U0 (i j:Int):neD (.int i) (.int j)=pure (.bl (!(i==j))):=by
 simp only [neD,qG,Bool.and_self,Qz,if_true,pure_bind,toP,Uu]
theorem Gq {α:Type} {xs:List α} {i:Int} (h0:0<=i) (h1:i < xs.length):atI xs i=xs[i.toNat]?:=by
 unfold atI ixN
 rw [if_pos h0,if_pos h1];rfl
theorem Ym (ns:List Int) {i:Int} (h0:0<=i) (h1:i < ns.length):atI (ns.map DV.int) i=some (.int (ns.getD i.toNat 0)):=by
 have hl:i.toNat < ns.length:=by omega
 rw [Gq h0 (by simpa using h1),List.getElem?_map,List.getElem?_eq_getElem hl]
 simp [List.getD_eq_getElem?_getD,hl]
theorem Gu (ns:List Int) (h:ns≠[]):∃ x,ns.getLast?=some x/\atI (ns.map DV.int) (-1)=some (.int x):=by
 obtain ⟨r,x,rfl⟩:∃ r x,ns=r++[x]:=⟨ns.dropLast,ns.getLast h,(List.dropLast_concat_getLast h).symm⟩
 refine ⟨x,by simp,?_⟩
 rw [List.map_append]
 exact yn _ _
def opt:Option Int->DV
 | none=>.non
 | some i=>.int i
end D
namespace D
open PySem PySem.Spec PyProof.Rows L2
theorem Q6 (x y:Int) (h:0 < y):QY (.int x) (.int y)=pure (.int (x % y)):=by simp [QY,Yc,QbE,h]
theorem JX (x y:Int) (h:-(2 ^ 64) < x) (h':x < 2 ^ 64):Xq (.int x) (.int y)=pure (.int (x * y)):=by
 simp only [Xq,Yc,QbF,decide_eq_true (Or.inl (b:=(-(2 ^ 64) < y/\y < 2 ^ 64)) (And.intro h h')),if_true]
theorem yk (x y:Int):Zv (.int x) (.int y)=pure (.int (x+y)):=rfl
theorem YQ (x y:Int):qg (.int x) (.int y)=pure (.int (x - y)):=rfl
theorem UB (x y:Int):gtD (.int x) (.int y)=pure (.bl (decide (y < x))):=rfl
theorem UW (x y:Int):ltD (.int x) (.int y)=pure (.bl (decide (x < y))):=rfl
theorem US (x y:Int):leD (.int x) (.int y)=pure (.bl (decide (x<=y))):=rfl
theorem Uw (x y:Int):geD (.int x) (.int y)=pure (.bl (decide (y<=x))):=rfl
theorem yS (x:Int):QbZ (.int x)=pure (.int (-x)):=rfl
theorem U7:J8 (.int 10) (.int 30)=pure (.int 1000000000000000000000000000000):=rfl
theorem Qaa:J8 (.int 10) (.int 21)=pure (.int 1000000000000000000000):=rfl
theorem Qcg:J8 (.int 10) (.int 9)=pure (.int 1000000000):=rfl
theorem ud {m:Int} (h0:0<=m) (h1:m<=1000000):yc m=true:=decide_eq_true ⟨by omega,by omega⟩
theorem Jg (x y:Int) (h:0 < y):0<=x % y/\x % y < y:=⟨Int.emod_nonneg _ (by omega),Int.emod_lt_of_pos _ h⟩
end D
namespace D
open PySem PySem.Spec PyProof.Rows L2
theorem Ju {f g:DSx} {env env1:En} (h:f env=pure (.nx,env1)):QB f g env=g env1:=by simp only [QB,h,pure_bind]
theorem Kf {f g:DSx} {env env1:En} {d:DV} (h:f env=pure (.rt d,env1)):QB f g env=pure (.rt d,env1):=by simp only [QB,h,pure_bind]
theorem xW {i:Nat} {f:DEx} {env:En} {d:DV} (h:f env=pure d):QP i f env=pure (.nx,env.set i (.val d)):=by simp only [QP,h,pure_bind]
theorem Qae {c:DTx} {f g:DSx} {env:En} (h:c env=pure true):sIf c f g env=f env:=by simp only [sIf,h,pure_bind,if_true]
theorem Qad {c:DTx} {f g:DSx} {env:En} (h:c env=pure false):sIf c f g env=g env:=by simp only [sIf,h,pure_bind,Bool.false_eq_true,if_false]
theorem qL {f:DEx} {env:En} {d:DV} (h:f env=pure d):Q7 f env=pure (.rt d,env):=by simp only [Q7,h,pure_bind]
theorem qJ {n:Nat} {body:DSx} {ds:List DV} {d:DV} {env:En} (h:body (ds.map .val++List.replicate (n - ds.length) .un)=pure (.rt d,env)):Zm n body ds=pure d:=by simp only [Zm,h,pure_bind]
theorem QbJ {f:DEx} {env:En} {b:Bool} (h:f env=pure (.bl b)):eB f env=pure b:=by simp only [eB,h,pure_bind,asB]
theorem QS {g:DV->DV->M DV} {f f':DEx} {env:En} {x y d:DV} (h:f env=pure x) (h':f' env=pure y) (hg:g x y=pure d):Qh g f f' env=pure d:=by simp only [Qh,h,h',pure_bind,hg]
theorem xr {F:List DV->M DV} {f f':DEx} {env:En} {x y d:DV} (h:f env=pure x) (h':f' env=pure y) (hF:F [x,y]=pure d):Qv 2 F (Qa f (Qa f' Qn)) env=pure d:=by simp [Qv,Qa,Qn,h,h',Qz,hF]
end D
namespace D
open PySem PySem.Spec PyProof.Rows L2
section
variable {K:PySem.W.Frag} {ρ:List Addr} {B:Addr->Prop} {hp:Hs} {H:Hp}
theorem Gr.wnew {p:Addr} {o:HO} (h:H p=none) (kf:K.lookup p=none):Gr K ρ B H (ρ++[p]) (X2 B p) (upd H p o) where
 pre:=List.prefix_append _ _
 ban:=fun _ h=>.inl h
 new:=fun a z=>z.elim .inl fun e=>.inr (e▸⟨h,kf⟩)
 rnew:=fun a z=>(List.mem_append.mp z).elim .inl fun q=>.inr (by rw [List.mem_singleton.mp q];exact h)
 keep:=fun a u _ q=>by rw [QH (Zg q h)];exact q
 trk:=(Gr.laid (K:=K) (ρ:=ρ) (B:=B) h).trk
theorem WOk.wnew {p:Addr} {o:HO} {v:OV} (W:WOk K ρ B hp H) (h:H p=none) (kf:K.lookup p=none) (hv:ORep K (ρ++[p]) (X2 B p) (upd H p o) p v):WOk K (ρ++[p]) (X2 B p) (hp++[v]) (upd H p o) where
 len:=by simp [W.len]
 nd:=List.nodup_append.mpr ⟨W.nd,by simp,fun a ha b hb=>by rw [List.mem_singleton.mp hb];exact fun z=>W.bt a (W.rb a ha) (z▸h)⟩
 obj:=fun i a u e q=>by
  by_cases hi:i < ρ.length
  ·rw [List.getElem?_append_left hi] at e
   rw [List.getElem?_append_left (by rw [<- W.len];exact hi)] at q
   exact ORep.gs ((Gr.wnew h kf).gs W.rb) (QH (fun z=>W.bt a (W.rb a (List.mem_of_getElem? e)) (z▸h))) (W.obj i a u e q)
  ·rw [List.getElem?_append_right (by omega)] at e
   rw [List.getElem?_append_right (by rw [<- W.len];omega)] at q
   have hi0:i - ρ.length=0:=by
    have:=(List.getElem?_eq_some_iff.mp e).1
    simp at this;omega
   rw [hi0] at e
   rw [<- W.len,hi0] at q
   simp at e q
   subst e q
   exact hv
 rb:=fun a z=>(List.mem_append.mp z).elim (fun q=>.inl (W.rb a q)) fun q=>.inr (List.mem_singleton.mp q)
 bt:=fun a z q=>by
  have q':=(Gr.laid (K:=K) (ρ:=ρ) (B:=B) h).trk a q
  rcases z with z | rfl
  ·exact W.bt a z q'
  ·rw [QI] at q;cases q
 bk:=fun a z=>z.elim (W.bk a) fun e=>e▸kf
theorem Gr.wset {i:Nat} {a:Addr} {o o':HO} (ha:ρ[i]?=some a) (h:H a=some o):Gr K ρ B H ρ B (upd H a o') where
 pre:=List.prefix_rfl
 ban:=fun _ h=>h
 new:=fun _ h=>.inl h
 rnew:=fun _ h=>.inl h
 keep:=fun b u nb q=>by rw [QH (show b≠a from fun z=>nb (by rw [z];exact List.mem_of_getElem? ha))];exact q
 trk:=fun b q=>by
  by_cases e:b=a
  ·subst e;rw [QI] at q;cases q
  ·rw [QH e] at q;exact q
theorem WOk.wset {i:Nat} {a:Addr} {o o':HO} {v:OV} (W:WOk K ρ B hp H) (ha:ρ[i]?=some a) (h:H a=some o) (hv:ORep K ρ B (upd H a o') a v):WOk K ρ B (hp.set i v) (upd H a o') where
 len:=by simp [W.len]
 nd:=W.nd
 obj:=fun j b u e q=>by
  by_cases hj:j=i
  ·subst hj
   rw [ha] at e;cases e
   have hl:j < hp.length:=by rw [<- W.len];exact (List.getElem?_eq_some_iff.mp ha).1
   rw [List.getElem?_set_self hl] at q;cases q
   exact hv
  ·rw [List.getElem?_set_ne (Ne.symm hj)] at q
   have hb:b≠a:=fun z=>hj (by
    subst z
    exact (List.getElem?_inj (List.getElem?_eq_some_iff.mp e).1 W.nd).mp (e.trans ha.symm))
   exact ORep.gs ((Gr.wset ha h).gs W.rb) (QH hb) (W.obj j b u e q)
 rb:=W.rb
 bt:=fun b z q=>W.bt b z ((Gr.wset (K:=K) (B:=B) ha h).trk b q)
 bk:=W.bk
end
section
variable {X:Cx} {e a b c:Expr} {f fa fb fc:DEx} {pos:Pos}
def Jx (o:OV):M DV:=fun h=>some (.ref h.length,h++[o])
def Q0 (i:Nat):M OV:=fun h=>match h[i]? with
 | some o=>some (o,h)
 | none=>none
def YN (i:Nat) (o:OV):M Unit:=fun h=>some ((),h.set i o)
theorem QX {i:Nat} {o:OV} {hp hp':Hs} (h:Q0 i hp=some (o,hp')):hp[i]?=some o/\hp=hp':=by
 unfold Q0 at h
 cases q:hp[i]? with
 | none=>rw [q] at h;cases h
 | some z=>rw [q] at h;cases h;exact ⟨rfl,rfl⟩
def yF (f:DAx):DEx:=fun env=>do let ds <- f env;Qz (zT ds);Jx (.lst ds)
theorem xx {K:PySem.W.Frag} {ρ:List Addr} {B:Addr->Prop} {H:Hp} {hp:Hs} {ds:List DV} {xs:List V} {Q:VK} (W:WOk K ρ B hp H) (r:RepL K ρ B H ds xs) (k:Fol K ρ B H (.ref hp.length) (hp++[.lst ds]) Q):∀ p,H p=none->Gi K (upd H p (.lst xs))->Q (.ref p) (upd H p (.lst xs)):=fun p hp' kf=>by
 have kp:=kf p _ QI
 have g:Gr K ρ B H (ρ++[p]) (X2 B p) (upd H p (.lst xs)):=Gr.wnew hp' kp
 refine k _ _ _ _ g (W.wnew hp' kp ⟨xs,QI,RepL.grow W.rb g _ _ r⟩) ?_
 unfold RepV
 exact ⟨p,rfl,by rw [<- W.len];simp⟩
theorem xi {es:List Expr} {f:DAx} (h:DA X es f):DE X (.List es pos) (yF f) :=
 L2.PE.imp (VW h).kf fun σ H Q ⟨Z,env,ρ,B,hp,d,hp',S,e,k⟩=>by
  obtain ⟨xs,hp1,e1,e2⟩:=bind_some e
  obtain ⟨_,hp2,e3,e4⟩:=bind_some e2
  obtain ⟨hs,rfl⟩:=Qx e3
  cases e4
  exact tDA.run S e1 fun vs ρ1 B1 H1 g1 S1 r1=>⟨by rw [<- r1.length];exact Xw hs,xx S1.wo r1 (k.after g1)⟩
theorem RepV.refW {K:PySem.W.Frag} {ρ:List Addr} {B:Addr->Prop} {H:Hp} {hp:Hs} {i:Nat} {o:OV} {v:V} (W:WOk K ρ B hp H) (r:RepV K ρ B H (.ref i) v) (h:hp[i]?=some o):∃ a,v=.ref a/\ρ[i]?=some a/\ORep K ρ B H a o:=by
 obtain ⟨a,rfl,e⟩:=r.refI
 exact ⟨a,rfl,e,W.obj i a o e h⟩
def ixW:DV->DV->M DV
  | .ref n,.int i=>do
    match <- Q0 n with
    | .lst ds=>match atI ds i with
      | some d=>pure d
      | none=>failure
    | _=>failure
  | x,y=>ixD x y
def Qbx:List DV->M DV
  | [.ref n]=>do
    match <- Q0 n with
    | .lst ds=>pure (.tup ds)
    | _=>failure
  | xs=>Qbw xs
theorem Gz:Zy X (.type "tuple") (tPn X.K Qbx):=by
  intro pins s σ H xs us Q I r h
  obtain ⟨ρ,B,hp,ds,d,hp',W,rl,e,k⟩:=h
  unfold Qbx at e
  split at e
  . rename_i n
    obtain ⟨o,hp1,e1,e2⟩:=bind_some e
    obtain ⟨e3,rfl⟩:=QX e1
    cases o with
    | dic _=>cases e2
    | ins _ _=>cases e2
    | lst zs =>
      obtain ⟨rfl,rfl⟩:=Qg e2
      obtain ⟨v,rfl,rv⟩:=rl.oneI
      obtain ⟨a,rfl,_,ys,h1,l1⟩:=RepV.refW W rv e3
      exact Jz pins s σ H _ us Q I r ⟨a,ys,rfl,.inl ⟨SqL.of h1,Yt W l1 k⟩⟩
  . exact uK pins s σ H xs us Q I r ⟨ρ,B,hp,_,d,hp',W,rl,e,k⟩
end
end D
namespace D
open PySem PySem.Spec PyProof.Rows L2
end D
namespace D
open PySem PySem.Spec PyProof.Rows L2
def Runs {α:Type} (m:M α) (x:α):Prop:=∀ hp,∃ hp',m hp=some (x,hp')
section
variable {f g:DSx} {env env1 env2:En} {c ca cb:DTx} {e fa fb:DEx} {d x y:DV} {r:Fl×En}
end
theorem Qe {α β:Type} {m:M α} {k:α->M β} {x:α} {hp hp1:Hs} (h:m hp=some (x,hp1)):(m >>= k) hp=k x hp1:=by
 show (m hp).bind (fun p=>k p.1 p.2)=_
 rw [h];rfl
theorem Qi {f g:DSx} {env env1:En} {hp hp1:Hs} (h:f env hp=some ((.nx,env1),hp1)):QB f g env hp=g env1 hp1:=Qe h
theorem QA {i:Nat} {f:DEx} {env:En} {d:DV} {hp hp1:Hs} (h:f env hp=some (d,hp1)):QP i f env hp=some ((.nx,env.set i (.val d)),hp1):=Qe h
theorem JS {ds:List DV} {i:Int} {d:DV} (h:atI ds i=some d):ixD (.lst ds) (.int i)=pure d:=by simp only [ixD,h]
theorem GD (ds:List DV) (m:Nat):D.qu ds none (some (m:Int))=ds.take m:=by
 unfold D.qu
 rw [HT.sIx_nat]
 show (ds.drop 0).take (min m ds.length - 0)=ds.take m
 simp
end D
namespace L2
open PySem PySem.Spec PyProof.Rows
section
variable {X:Cx}
def QcO:R2:=fun x y H Q=>∃ a kvs k v,x=.ref a/\y=kV k/\H a=some (.dK kvs)/\ZY kvs k=some v/\Q v H
theorem gk (hu:X.A.units+1 < cLine):IxR X QcO:=by
 intro value slice pins s σ H x y v u Q I rx ry h hs
 obtain ⟨a,kvs,k,z,rfl,rfl,hH,hv,q⟩:=h
 cases rx
 have g:DGet H a (kV k) (some z):=hv▸DGet.k hH
 exact tail_any (yA I g) PySem.F.slot_dict_getitem.lookup (Kx hu I g ry fun w' s' I' rw'=>⟨z,H,I',rw',q⟩) hs
theorem VT (hu:X.A.units+1 < cLine):OpR X (compareOp .In) (fun x y H Q=>∃ a kvs k,y=.ref a/\x=kV k/\H a=some (.dK kvs)/\Q (.bl (ZY kvs k).isSome) H):=by
 intro pins s σ H x y v u Q I rx ry h
 obtain ⟨a,kvs,k,rfl,rfl,hH,q⟩:=h
 cases ry
 exact QcG hu I (DGet.k hH) rx fun s' I'=>⟨.bl _,H,I',rfl,q⟩
def Qcn:V->V->V->Hp->(Hp->Prop)->Prop:=fun o i v H Q=>∃ a kvs k,o=.ref a/\i=kV k/\H a=some (.dK kvs)/\kvs.length < sizeLine/\Q (upd H a (.dK (J9 kvs k v)))
theorem v7 (hu:X.A.units+1 < cLine):uD X Qcn:=fun pins s σ H o i v ov iv u Q I ro ri rv h=>by
 obtain ⟨a,kvs,k,rfl,rfl,hH,hl,q⟩:=h
 cases ro
 exact Ky hu I (DPut.k hH hl) ri rv fun s' I'=>⟨_,I',q⟩
def Qcm:V->List V->Hp->VK->Prop:=fun x vs H Q=>∃ a kvs k,x=.ref a/\H a=some (.dK kvs)/\((vs=[kV k]/\∃ v,ZY kvs k=some v/\Q v (upd H a (.dK (Yq kvs k)))) ∨
 ∃ z,vs=[kV k,z]/\(∀ v,ZY kvs k=some v->Q v (upd H a (.dK (Yq kvs k))))/\(ZY kvs k=none->Q z H))
theorem xP:MtR X "dict.pop" Qcm:=by
 intro pins s σ H x vs v us Q I rx rv h
 obtain ⟨a,kvs,k,rfl,hH,h⟩:=h
 cases rx
 rcases h with ⟨rfl,w,hw,q⟩ | ⟨z,rfl,q1,q2⟩
 ·obtain ⟨u,rfl,ru⟩:=YR rv
  exact kQ I hH ru hw (.inl rfl) fun w' s' I' rw'=>⟨w,_,I',rw',q⟩
 ·obtain ⟨u,u2,rfl,ru,ru2⟩:=Vo rv
  cases l:ZY kvs k with
  | some w=>exact kQ I hH ru l (.inr ⟨u2,rfl⟩) fun w' s' I' rw'=>⟨w,_,I',rw',q1 w l⟩
  | none=>exact Qar I hH ru l fun s' I'=>⟨z,H,I',ru2,q2 l⟩
def Qcl:V->List V->Hp->VK->Prop:=fun x vs H Q=>∃ a kvs k,x=.ref a/\H a=some (.dK kvs)/\((vs=[kV k]/\Q ((ZY kvs k).getD .non) H)∨∃ z,vs=[kV k,z]/\Q ((ZY kvs k).getD z) H)
theorem UZ (hu:X.A.units+1 < cLine):MtR X "dict.get" Qcl:=by
 intro pins s σ H x vs v us Q I rx rv h
 obtain ⟨a,kvs,k,rfl,hH,h⟩:=h
 cases rx
 rcases h with ⟨rfl,q⟩ | ⟨z,rfl,q⟩
 ·obtain ⟨u,rfl,ru⟩:=YR rv
  exact Qap hu I (DGet.k hH) ru fun w' s' I' rw'=>⟨_,H,I',rw',q⟩
 ·obtain ⟨u,u2,rfl,ru,ru2⟩:=Vo rv
  exact Qaq hu I (DGet.k hH) ru ru2 fun w' s' I' rw'=>⟨_,H,I',rw',q⟩
end
end L2
namespace D
open PySem PySem.Spec PyProof.Rows L2
def jc:DV->Option Key
 | .int i=>some (.inl i)
 | .str x=>some (.inr x)
 | _=>none
def Q8 (kvs:List (Key×DV)) (k:Key):Option DV:=(kvs.find? fun kv=>decide (kv.1=k)).map (·.2)
def ZU (kvs:List (Key×DV)) (k:Key) (d:DV):List (Key×DV) :=
 if (kvs.any fun kv=>decide (kv.1=k))=true then kvs.map (fun kv=>if kv.1=k then (kv.1,d) else kv) else kvs++[(k,d)]
def ZG (kvs:List (Key×DV)) (k:Key):List (Key×DV):=kvs.filter fun kv=>decide (kv.1≠k)
section
variable {K:PySem.W.Frag} {ρ:List Addr} {B:Addr->Prop} {H:Hp} {hp:Hs}
theorem Z3 {d:DV} {k:Key} {v:V} (h:jc d=some k) (r:RepV K ρ B H d v):v=kV k:=by
 cases d<;>simp [jc] at h<;>subst h
 ·exact r.intI
 ·exact r.strI
abbrev RepK (K:PySem.W.Frag) (ρ:List Addr) (B:Addr->Prop) (H:Hp):List (Key×DV)->List (Key×V)->Prop:=Paired fun p q=>p.1=q.1/\RepV K ρ B H p.2 q.2
theorem Kd:∀ {kvs:List (Key×DV)} {xs:List (Key×V)},xs.map (·.1)=kvs.map (·.1)->RepL K ρ B H (kvs.map (·.2)) (xs.map (·.2))->RepK K ρ B H kvs xs
  | [],[],_,_=>.nil
  | [],_::_,e,_=>by simp at e
  | _::_,[],e,_=>by simp at e
  | p::kvs,q::xs,e,r=>by
    simp only [List.map_cons,List.cons.injEq] at e
    simp only [List.map_cons] at r
    unfold RepL at r
    obtain ⟨x,t,e2,h1,h2⟩:=r
    simp only [List.cons.injEq] at e2
    obtain ⟨rfl,rfl⟩:=e2
    exact .cons ⟨e.1.symm,h1⟩ (Kd e.2 h2)
theorem RepK.to {kvs:List (Key×DV)} {xs:List (Key×V)} (r:RepK K ρ B H kvs xs):xs.map (·.1)=kvs.map (·.1)/\RepL K ρ B H (kvs.map (·.2)) (xs.map (·.2)):=by
 induction r with
 | nil=>exact ⟨rfl,RepL.nil⟩
 | cons h _ ih=>exact ⟨by simp [ih.1,h.1],by simpa using RepL.cons h.2 ih.2⟩
theorem RepK.val {kvs:List (Key×DV)} {xs:List (Key×V)} (r:RepK K ρ B H kvs xs) (k:Key):(Q8 kvs k=none/\ZY xs k=none)∨∃ d v,Q8 kvs k=some d/\ZY xs k=some v/\RepV K ρ B H d v:=by
  induction r with
  | nil=>exact .inl ⟨rfl,rfl⟩
  | @cons p q _ _ h _ ih =>
    by_cases e:p.1=k
    . exact .inr ⟨p.2,q.2,by simp [Q8,List.find?_cons,e],by simp [ZY,List.find?_cons,h.1▸e],h.2⟩
    . have e':¬ q.1=k:=h.1▸e
      simpa [Q8,ZY,List.find?_cons,e,e'] using ih
theorem RepK.any {kvs:List (Key×DV)} {xs:List (Key×V)} (r:RepK K ρ B H kvs xs) (k:Key):(kvs.any fun kv=>decide (kv.1=k))=xs.any fun kv=>decide (kv.1=k):=by
 induction r with
 | nil=>rfl
 | cons h _ ih=>simp only [List.any_cons,ih,h.1]
theorem RepK.repl {kvs:List (Key×DV)} {xs:List (Key×V)} (r:RepK K ρ B H kvs xs) (k:Key) {d:DV} {v:V} (rd:RepV K ρ B H d v):RepK K ρ B H (kvs.map fun kv=>if kv.1=k then (kv.1,d) else kv) (xs.map fun kv=>if kv.1=k then (kv.1,v) else kv):=by
  induction r with
  | nil=>exact .nil
  | @cons p q _ _ h _ ih =>
    refine .cons ?_ ih
    dsimp only
    by_cases e:p.1=k
    . rw [if_pos e,if_pos (h.1▸e)];exact ⟨h.1,rd⟩
    . rw [if_neg e,if_neg (h.1▸e)];exact h
theorem RepK.snoc {kvs:List (Key×DV)} {xs:List (Key×V)} (r:RepK K ρ B H kvs xs) {k:Key} {d:DV} {v:V} (rd:RepV K ρ B H d v):RepK K ρ B H (kvs++[(k,d)]) (xs++[(k,v)]):=by
 induction r with
 | nil=>exact .cons ⟨rfl,rd⟩ .nil
 | cons h _ ih=>exact .cons h ih
theorem RepK.put {kvs:List (Key×DV)} {xs:List (Key×V)} (r:RepK K ρ B H kvs xs) (k:Key) {d:DV} {v:V} (rd:RepV K ρ B H d v):RepK K ρ B H (ZU kvs k d) (J9 xs k v):=by
 unfold ZU J9
 rw [r.any k]
 split
 ·exact r.repl k rd
 ·exact r.snoc rd
theorem RepK.drop {kvs:List (Key×DV)} {xs:List (Key×V)} (r:RepK K ρ B H kvs xs) (k:Key):RepK K ρ B H (ZG kvs k) (Yq xs k):=by
  induction r with
  | nil=>exact .nil
  | @cons p q _ _ h _ ih =>
    unfold ZG Yq at ih ⊢
    by_cases e:p.1=k
    . have e':q.1=k:=h.1▸e
      simpa [e,e'] using ih
    . have e':¬ q.1=k:=h.1▸e
      rw [List.filter_cons_of_pos (by simpa using e),List.filter_cons_of_pos (by simpa using e')];exact .cons h ih
theorem RepK.len {kvs:List (Key×DV)} {xs:List (Key×V)} (r:RepK K ρ B H kvs xs):kvs.length=xs.length:=Paired.length r
theorem RepK.gs {ρ':List Addr} {B':Addr->Prop} {H':Hp} {kvs:List (Key×DV)} {xs:List (Key×V)} (g:Gs K ρ B H ρ' B' H') (r:RepK K ρ B H kvs xs):RepK K ρ' B' H' kvs xs:=L2.Paired.mapP r fun _ _ h=>⟨h.1,RepV.gs g _ _ h.2⟩
theorem ORep.dic {a:Addr} {kvs:List (Key×DV)} (h:ORep K ρ B H a (.dic kvs)):∃ xs,H a=some (.dK xs)/\RepK K ρ B H kvs xs:=by
 obtain ⟨xs,e,ek,rl⟩:=h
 exact ⟨xs,e,Kd ek rl⟩
theorem RepK.orep {a:Addr} {kvs:List (Key×DV)} {xs:List (Key×V)} (r:RepK K ρ B H kvs xs) (e:H a=some (.dK xs)):ORep K ρ B H a (.dic kvs):=⟨xs,e,r.to.1,r.to.2⟩
theorem ja {n:Nat} {a:Addr} {xs xs':List (Key×V)} {kvs':List (Key×DV)} (W:WOk K ρ B hp H) (i:ρ[n]?=some a) (e:H a=some (.dK xs)) (r:RepK K ρ B H kvs' xs'):Gr K ρ B H ρ B (upd H a (.dK xs'))/\WOk K ρ B (hp.set n (.dic kvs')) (upd H a (.dK xs')):=by
 have g:Gr K ρ B H ρ B (upd H a (.dK xs')):=Gr.wset i e
 exact ⟨g,W.wset (o':=.dK xs') (v:=.dic kvs') i e ((r.gs (g.gs W.rb)).orep QI)⟩
theorem Xy {n:Nat} {a:Addr} {o:HO} {xs':List V} {ds':List DV} (W:WOk K ρ B hp H) (i:ρ[n]?=some a) (e:H a=some o) (r:RepL K ρ B H ds' xs'):Gr K ρ B H ρ B (upd H a (.lst xs'))/\WOk K ρ B (hp.set n (.lst ds')) (upd H a (.lst xs')):=by
 have g:Gr K ρ B H ρ B (upd H a (.lst xs')):=Gr.wset i e
 exact ⟨g,W.wset (o':=.lst xs') (v:=.lst ds') i e ⟨xs',QI,RepL.grow W.rb g _ _ r⟩⟩
end
section
variable {X:Cx} {e a b c:Expr} {f fa fb fc:DEx} {pos:Pos}
def yU (o:Option DV):M DV:=match o with
 | some d=>pure d
 | none=>failure
theorem XM {o:Option DV} {d:DV} {hp hp':Hs} (h:yU o hp=some (d,hp')):o=some d/\hp=hp':=by
 cases o with
 | none=>cases h
 | some z=>obtain ⟨rfl,rfl⟩:=Qg h;exact ⟨rfl,rfl⟩
def JD (d:DV):M Key:=match jc d with
 | some k=>pure k
 | none=>failure
theorem ZS {d:DV} {k:Key} {hp hp':Hs} (h:JD d hp=some (k,hp')):jc d=some k/\hp=hp':=by
 unfold JD at h
 cases q:jc d with
 | none=>rw [q] at h;cases h
 | some z=>rw [q] at h;obtain ⟨rfl,rfl⟩:=Qg h;exact ⟨rfl,rfl⟩
def ixG:DV->DV->M DV
  | .ref n,y=>do
    match <- Q0 n with
    | .lst ds=>do let i <- asI y;yU (atI ds i)
    | .dic kvs=>do let k <- JD y;yU (Q8 kvs k)
    | _=>failure
  | x,y=>ixD x y
theorem Qb9 (hu:X.A.units+1 < cLine):IxR X (tP2 X.K ixG):=by
  intro value slice pins s σ H x y v u Q I rx ry h hsub
  obtain ⟨ρ,B,hp,dx,dy,d,hp',W,r1,r2,e,k⟩:=h
  unfold ixG at e
  split at e
  . rename_i n
    obtain ⟨o,hp1,e1,e2⟩:=bind_some e
    obtain ⟨e3,rfl⟩:=QX e1
    obtain ⟨a,rfl,i1,ro⟩:=RepV.refW W r1 e3
    cases o with
    | ins _ _=>cases e2
    | dic kvs =>
      obtain ⟨ky,hp2,e4,e5⟩:=bind_some e2
      obtain ⟨hk,rfl⟩:=ZS e4
      obtain ⟨hv,rfl⟩:=XM e5
      obtain ⟨xs,h1,rk⟩:=ro.dic
      rcases rk.val ky with ⟨z,_⟩ | ⟨d',v',z,zv,rz⟩
      . rw [hv] at z;cases z
      . rw [hv] at z;cases z
        exact gk hu value slice pins s σ H _ _ v u Q I rx ry ⟨a,xs,ky,v',rfl,Z3 hk r2,h1,zv,k _ ρ B H Gr.refl W rz⟩ hsub
    | lst ds =>
      obtain ⟨i,hp2,e4,e5⟩:=bind_some e2
      obtain ⟨rfl,rfl⟩:=qO e4
      obtain ⟨hv,rfl⟩:=XM e5
      obtain ⟨xs,h1,l1⟩:=ro
      obtain ⟨z,hz,rz⟩:=j5 l1 hv
      exact UO value slice pins s σ H _ _ v u Q I rx ry ⟨a,xs,i,z,rfl,r2.intI,SqL.of h1,hz,k _ ρ B H Gr.refl W rz⟩ hsub
  . exact Qb8 value slice pins s σ H x y v u Q I rx ry ⟨ρ,B,hp,_,_,d,hp',W,r1,r2,e,k⟩ hsub
theorem Qt (hu:X.A.units+1 < cLine) (ha:DE X a fa) (hb:DE X b fb) (hs:jW b:=by intro _ _;rfl):DE X (.Subscript a b pos) (Qh ixG fa fb):=L2.PE.imp (k9 (Qb9 hu) ha hb hs) fun _ _ _ h=>Xg h
def Zx:List DV->M DV
  | [.ref n]=>do
    match <- Q0 n with
    | .lst ds=>pure (.int ds.length)
    | .dic kvs=>pure (.int kvs.length)
    | _=>failure
  | xs=>KM xs
theorem Jl:Zy X (.builtin "len") (tPn X.K Zx):=by
  intro pins s σ H xs us Q I r h
  obtain ⟨ρ,B,hp,ds,d,hp',W,rl,e,k⟩:=h
  unfold Zx at e
  split at e
  . rename_i n
    obtain ⟨o,hp1,e1,e2⟩:=bind_some e
    obtain ⟨e3,rfl⟩:=QX e1
    obtain ⟨v,rfl,rv⟩:=rl.oneI
    obtain ⟨a,rfl,_,ro⟩:=RepV.refW W rv e3
    cases o with
    | ins _ _=>cases e2
    | lst zs =>
      obtain ⟨rfl,rfl⟩:=Qg e2
      obtain ⟨ys,h1,l1⟩:=ro
      exact JN pins s σ H _ us Q I r ⟨a,ys,rfl,.inl (SqL.of h1),by rw [<- l1.length];exact k _ ρ B H Gr.refl W Zo⟩
    | dic kvs =>
      obtain ⟨rfl,rfl⟩:=Qg e2
      obtain ⟨ys,h1,l1⟩:=ro.dic
      exact Kt pins s σ H _ us Q I r ⟨a,ys,rfl,h1,by rw [<- l1.len];exact k _ ρ B H Gr.refl W Zo⟩
  . exact kP pins s σ H xs us Q I r ⟨ρ,B,hp,_,d,hp',W,rl,e,k⟩
def Qcp:DV->M (List DV)
  | .tup ds=>pure ds
  | .lst ds=>pure ds
  | .ref n=>do
    match <- Q0 n with
    | .lst ds=>pure ds
    | _=>failure
  | _=>failure
theorem vZ {d:DV} {ds:List DV} {hp hp':Hs} {K:PySem.W.Frag} {ρ:List Addr} {B:Addr->Prop} {H:Hp} {v:V} (W:WOk K ρ B hp H) (r:RepV K ρ B H d v) (h:Qcp d hp=some (ds,hp')):hp=hp'/\∃ p xs,v=.ref p/\(SqL K H p xs∨SqT K H p xs)/\RepL K ρ B H ds xs:=by
  cases d with
  | tup xs =>
    obtain ⟨rfl,rfl⟩:=Qg h
    obtain ⟨a,ys,rfl,_,sq,l⟩:=r.tupI
    exact ⟨rfl,a,ys,rfl,.inr sq,l⟩
  | lst xs =>
    obtain ⟨rfl,rfl⟩:=Qg h
    obtain ⟨a,ys,rfl,_,sq,l⟩:=r.lstI
    exact ⟨rfl,a,ys,rfl,.inl sq,l⟩
  | ref n =>
    obtain ⟨o,hp1,e1,e2⟩:=bind_some (show (Q0 n >>= fun o=>(match o with | .lst ds=>pure ds | _=>failure:M (List DV))) hp=some (ds,hp') from h)
    obtain ⟨e3,rfl⟩:=QX e1
    cases o with
    | lst zs =>
      obtain ⟨rfl,rfl⟩:=Qg e2
      obtain ⟨a,rfl,_,ys,h1,l1⟩:=RepV.refW W r e3
      exact ⟨rfl,a,ys,rfl,.inl (SqL.of h1),l1⟩
    | dic _=>cases e2
    | ins _ _=>cases e2
  | non=>cases h
  | bl _=>cases h
  | int _=>cases h
  | str _=>cases h
def vE (g:DV->M DV):List DV->M DV
 | [d]=>g d
 | _=>failure
def KO:List DV->M DV:=vE fun d=>do let ds <- Qcp d;pure (.lst ds)
theorem qc {g:DV->M DV} {ds:List DV} {d:DV} {hp hp':Hs} (h:vE g ds hp=some (d,hp')):∃ x,ds=[x]/\g x hp=some (d,hp'):=by
 unfold vE at h
 split at h
 ·exact ⟨_,rfl,h⟩
 ·cases h
theorem xa:Zy X (.type "list") (tPn X.K KO):=by
 intro pins s σ H xs us Q I r h
 obtain ⟨ρ,B,hp,ds,d,hp',W,rl,e,k⟩:=h
 obtain ⟨x,rfl,e⟩:=qc e
 obtain ⟨zs,hp1,e1,e2⟩:=bind_some e
 obtain ⟨rfl,rfl⟩:=Qg e2
 obtain ⟨v,rfl,rv⟩:=rl.oneI
 obtain ⟨rfl,p,ys,rfl,sq,l⟩:=vZ W rv e1
 exact xb pins s σ H _ us Q I r ⟨p,ys,rfl,sq,XI W l k⟩
end
end D
namespace D
open PySem PySem.Spec PyProof.Rows L2
def drf:Nat->Hs->DV->Option DV
  | 0,_,_=>none
  | n+1,hp,d=>match d with
    | .ref i=>match hp[i]? with
      | some (.lst ds)=>(ds.mapM (drf n hp)).map .lst
      | _=>none
    | .tup ds=>(ds.mapM (drf n hp)).map .tup
    | .lst ds=>(ds.mapM (drf n hp)).map .lst
    | d=>some d
theorem zt {α β:Type} {f:α->Option β} {x:α} {xs:List α} {ys:List β} (h:(x::xs).mapM f=some ys):∃ y zs,f x=some y/\xs.mapM f=some zs/\ys=y::zs:=by
  rw [List.mapM_cons] at h
  cases q:f x with
  | none=>rw [q] at h;cases h
  | some y =>
    cases q2:xs.mapM f with
    | none=>rw [q,q2] at h;cases h
    | some zs=>rw [q,q2] at h;exact ⟨y,zs,rfl,rfl,(Option.some.inj h).symm⟩
section
variable {X:Cx} {pins:List (Addr×Obj)} {σ:St} {H:Hp} {s:Shared} {ρ:List Addr} {B:Addr->Prop} {hp:Hs}
theorem JG (I:Inv X pins σ H s) (W:WOk X.K ρ B hp H):∀ (n:Nat) (d d':DV) (v:V) (u:Value),drf n hp d=some d'->RepV X.K ρ B H d v->RelV v u->∃ as,Reads s.heap u (toP d') as
  | 0,_,_,_,_,h,_,_=>by cases h
  | n+1,d,d',v,u,h,r,ru=>by
    have all:∀ (ds ds':List DV) (xs:List V) (us:List Value),ds.mapM (drf n hp)=some ds'->RepL X.K ρ B H ds xs->Vals xs us->∃ as,ReadsAll s.heap us (toPs ds') as:=by
      intro ds
      induction ds with
      | nil =>
        intro ds' xs us h r ru
        rw [List.mapM_nil] at h;cases h
        unfold RepL at r;subst r;cases ru
        exact ⟨[],by unfold toPs;exact .nil⟩
      | cons x ds ih =>
        intro ds' xs us h r ru
        obtain ⟨y,zs,h1,h2,rfl⟩:=zt h
        unfold RepL at r
        obtain ⟨z,t,rfl,r1,r2⟩:=r
        cases ru with
        | cons q1 q2 =>
          obtain ⟨as,a1⟩:=JG I W n x y z _ h1 r1 q1
          obtain ⟨bs,a2⟩:=ih zs t _ h2 r2 q2
          exact ⟨_,by unfold toPs;exact .cons a1 a2⟩
    have lst:∀ (ds ds':List DV) (a:Addr) (xs:List V),ds.mapM (drf n hp)=some ds'->SqL X.K H a xs->RepL X.K ρ B H ds xs->∃ as,Reads s.heap (.ref a) (toP (.lst ds')) as:=by
      intro ds ds' a xs h sq rl
      obtain ⟨its,rv,⟨o,k,e,hc,_,hd⟩,_⟩:=I.list sq
      obtain ⟨as,q⟩:=all ds ds' xs its h rl rv
      exact ⟨_,by unfold toP;exact reads_list_at e hc hd (by simpa using q)⟩
    unfold drf at h
    cases d with
    | non=>cases h;obtain rfl:=r.nonI;cases ru;exact ⟨[],by unfold toP;exact .none⟩
    | bl b=>cases h;obtain rfl:=r.blI;cases ru;exact ⟨[],by unfold toP;exact .bool b⟩
    | int i=>cases h;obtain rfl:=r.intI;obtain ⟨t,rfl⟩:=ru;exact ⟨[],by unfold toP;exact .int i t⟩
    | str x=>cases h;obtain rfl:=r.strI;obtain ⟨t,rfl⟩:=ru;exact ⟨[],by unfold toP;exact .str x t⟩
    | tup ds =>
      obtain ⟨ds',h1,rfl⟩:=Option.map_eq_some_iff.mp h
      obtain ⟨a,xs,rfl,_,sq,rl⟩:=r.tupI
      cases ru
      obtain ⟨its,rv,⟨o,e,hc,k,hd⟩,_⟩:=I.tuple sq
      obtain ⟨as,q⟩:=all ds ds' xs its h1 rl rv
      exact ⟨_,by unfold toP;exact reads_tuple_at e hc hd (by simpa using q)⟩
    | lst ds =>
      obtain ⟨ds',h1,rfl⟩:=Option.map_eq_some_iff.mp h
      obtain ⟨a,xs,rfl,_,sq,rl⟩:=r.lstI
      cases ru
      exact lst ds ds' a xs h1 sq rl
    | ref i =>
      cases q:hp[i]? with
      | none=>simp only [q] at h;cases h
      | some o =>
        simp only [q] at h
        cases o with
        | dic _=>cases h
        | ins _ _=>cases h
        | lst ds =>
          obtain ⟨ds',h1,rfl⟩:=Option.map_eq_some_iff.mp h
          obtain ⟨a,rfl,_,xs,h2,l⟩:=RepV.refW W r q
          cases ru
          exact lst ds ds' a xs h1 (SqL.of h2) l
end
def xo (d:DV):M DV:=fun hp=>(drf 40 hp d).map fun x=>(x,hp)
theorem js {d d':DV} {hp hp':Hs} (h:xo d hp=some (d',hp')):drf 40 hp d=some d'/\hp=hp':=by
 obtain ⟨x,h1,h2⟩:=Option.map_eq_some_iff.mp h
 cases h2;exact ⟨h1,rfl⟩
def Xl (x y:DV):M Bool:=do
 let x' <- xo x
 let y' <- xo y
 Qz (SeqAt.shaped (toP x')&&SeqAt.shaped (toP y'))
 pure (PyData.eqv (toP x') (toP y'))
def eqG:DV->DV->M DV:=fun x y=>do let b <- Xl x y;pure (.bl b)
def neG:DV->DV->M DV:=fun x y=>do let b <- Xl x y;pure (.bl (!b))
section
variable {X:Cx} {e a b c:Expr} {f fa fb fc:DEx} {ca cb:DTx} {pos:Pos}
theorem jz {x y:DV} {k:Bool} {hp hp':Hs} (h:Xl x y hp=some (k,hp')):∃ x' y',drf 40 hp x=some x'/\drf 40 hp y=some y'/\SeqAt.shaped (toP x')=true/\SeqAt.shaped (toP y')=true/\k=PyData.eqv (toP x') (toP y')/\hp=hp':=by
 obtain ⟨x',hp1,e1,h⟩:=bind_some h
 obtain ⟨y',hp2,e2,h⟩:=bind_some h
 obtain ⟨_,hp3,e3,h⟩:=bind_some h
 obtain ⟨q1,rfl⟩:=js e1
 obtain ⟨q2,rfl⟩:=js e2
 obtain ⟨hs,rfl⟩:=Qx e3
 obtain ⟨rfl,rfl⟩:=Qg h
 rw [Bool.and_eq_true] at hs
 exact ⟨x',y',q1,q2,hs.1,hs.2,rfl,rfl⟩
theorem ZO (hu:X.A.units+64 < cLine):P2 X (compareOp .Eq) eqG:=by
 intro pins s σ H x y v u Q I rx ry h
 obtain ⟨ρ,B,hp,dx,dy,d,hp',W,r1,r2,e,k⟩:=h
 obtain ⟨b,hp1,e1,e2⟩:=bind_some e
 obtain ⟨rfl,rfl⟩:=Qg e2
 obtain ⟨x',y',q1,q2,s1,s2,rfl,rfl⟩:=jz e1
 obtain ⟨as,a1⟩:=JG I W _ _ _ _ _ q1 r1 rx
 obtain ⟨bs,a2⟩:=JG I W _ _ _ _ _ q2 r2 ry
 exact eq_dataH a1 a2 s1 s2 hu ⟨.bl _,H,I,rfl,k _ ρ B H Gr.refl W Zh⟩
theorem jJ (hu:X.A.units+64 < cLine):P2 X (compareOp .NotEq) neG:=by
 intro pins s σ H x y v u Q I rx ry h
 obtain ⟨ρ,B,hp,dx,dy,d,hp',W,r1,r2,e,k⟩:=h
 obtain ⟨b,hp1,e1,e2⟩:=bind_some e
 obtain ⟨rfl,rfl⟩:=Qg e2
 obtain ⟨x',y',q1,q2,s1,s2,rfl,rfl⟩:=jz e1
 obtain ⟨as,a1⟩:=JG I W _ _ _ _ _ q1 r1 rx
 obtain ⟨bs,a2⟩:=JG I W _ _ _ _ _ q2 r2 ry
 exact ne_dataH a1 a2 s1 s2 hu ⟨.bl _,H,I,rfl,k _ ρ B H Gr.refl W Zh⟩
def Zn:DV->Bool
 | .non=>true
 | .bl _=>true
 | .int _=>true
 | .str _=>true
 | _=>false
def eqF:DV->DV->Bool
 | .non,.non=>true
 | .bl a,.bl b=>a==b
 | .bl a,.int b=>(if a then 1 else 0)==b
 | .int a,.bl b=>a==(if b then 1 else 0)
 | .int a,.int b=>a==b
 | .str a,.str b=>a==b
 | _,_=>false
def vOf:DV->V
 | .non=>.non
 | .bl b=>.bl b
 | .int i=>.int i
 | .str x=>.str x
 | _=>.non
theorem Kn {K:PySem.W.Frag} {ρ:List Addr} {B:Addr->Prop} {H:Hp} {d:DV} {v:V} (h:Zn d=true) (r:RepV K ρ B H d v):v=vOf d:=by
 cases d<;>simp [Zn] at h
 ·exact r.nonI
 ·exact r.blI
 ·exact r.intI
 ·exact r.strI
theorem yI {d:DV} (h:Zn d=true):Js (vOf d)=true:=by cases d<;>simp [Zn] at h<;>rfl
theorem uW {d e:DV} (h:Zn d=true) (h':Zn e=true):eqV (vOf d) (vOf e)=eqF d e:=by cases d<;>simp [Zn] at h<;>cases e<;>simp [Zn] at h'<;>rfl
theorem Km {K:PySem.W.Frag} {ρ:List Addr} {B:Addr->Prop} {H:Hp}:∀ {ds:List DV} {xs:List V},ds.all Zn=true->RepL K ρ B H ds xs->xs=ds.map vOf
  | [],_,_,r=>by unfold RepL at r;exact r
  | d::ds,_,h,r=>by
    unfold RepL at r
    obtain ⟨x,t,rfl,r1,r2⟩:=r
    rw [List.all_cons,Bool.and_eq_true] at h
    rw [Kn h.1 r1,Km h.2 r2];rfl
def inB (d:DV) (ds:List DV):Bool:=ds.any fun y=>eqF y d
theorem UE {d:DV} (h:Zn d=true):∀ {ds:List DV},ds.all Zn=true->inV (vOf d) (ds.map vOf)=inB d ds
  | [],_=>rfl
  | x::ds,h'=>by
    rw [List.all_cons,Bool.and_eq_true] at h'
    have ih:=UE h h'.2
    unfold inV inB at ih ⊢
    rw [List.map_cons,List.any_cons,List.any_cons,ih,uW h'.1 h]
theorem ym:∀ {ds:List DV},ds.all Zn=true->(ds.map vOf).all Js=true
  | [],_=>rfl
  | x::ds,h=>by
    rw [List.all_cons,Bool.and_eq_true] at h
    rw [List.map_cons,List.all_cons,yI h.1,ym h.2];rfl
def QaT (x:DV):DV->M Bool
  | .ref n=>do
    match <- Q0 n with
    | .lst ds=>do Qz (Zn x&&ds.all Zn);pure (inB x ds)
    | .dic kvs=>do let k <- JD x;pure (Q8 kvs k).isSome
    | _=>failure
  | .tup ds=>do Qz (Zn x&&ds.all Zn);pure (inB x ds)
  | .lst ds=>do Qz (Zn x&&ds.all Zn);pure (inB x ds)
  | _=>failure
def inG:DV->DV->M DV:=fun x y=>do let b <- QaT x y;pure (.bl b)
theorem VR {x y:DV} {k:Bool} {hp hp':Hs} {K:PySem.W.Frag} {ρ:List Addr} {B:Addr->Prop} {H:Hp} {vx vy:V} (W:WOk K ρ B hp H) (r1:RepV K ρ B H x vx) (r2:RepV K ρ B H y vy) (h:QaT x y hp=some (k,hp')):hp=hp' /\
    ((∃ p xs,vy=.ref p/\(SqL K H p xs∨SqT K H p xs)/\Js vx=true/\xs.all Js=true/\k=inV vx xs)∨∃ a kvs ky,vy=.ref a/\vx=kV ky/\H a=some (.dK kvs)/\k=(ZY kvs ky).isSome):=by
  have seq:∀ (ds:List DV) (xs:List V) (p:Addr),(do Qz (Zn x&&ds.all Zn);pure (inB x ds):M Bool) hp=some (k,hp')->RepL K ρ B H ds xs->(SqL K H p xs∨SqT K H p xs)->vy=.ref p->hp=hp'/\(∃ p xs,vy=.ref p/\(SqL K H p xs∨SqT K H p xs)/\Js vx=true/\xs.all Js=true/\k=inV vx xs):=by
    intro ds xs p h rl sq ev
    obtain ⟨_,hp1,e1,e2⟩:=bind_some h
    obtain ⟨hs,rfl⟩:=Qx e1
    obtain ⟨rfl,rfl⟩:=Qg e2
    rw [Bool.and_eq_true] at hs
    have ex:=Km hs.2 rl
    have e0:=Kn hs.1 r1
    subst ex e0
    exact ⟨rfl,p,_,ev,sq,yI hs.1,ym hs.2,(UE hs.1 hs.2).symm⟩
  cases y with
  | tup ds =>
    obtain ⟨a,xs,rfl,_,sq,rl⟩:=r2.tupI
    exact (seq ds xs a h rl (.inr sq) rfl).imp id .inl
  | lst ds =>
    obtain ⟨a,xs,rfl,_,sq,rl⟩:=r2.lstI
    exact (seq ds xs a h rl (.inl sq) rfl).imp id .inl
  | ref n =>
    obtain ⟨o,hp1,e1,e2⟩:=bind_some h
    obtain ⟨e3,rfl⟩:=QX e1
    obtain ⟨a,rfl,_,ro⟩:=RepV.refW W r2 e3
    cases o with
    | lst ds =>
      obtain ⟨xs,h1,rl⟩:=ro
      exact (seq ds xs a e2 rl (.inl (SqL.of h1)) rfl).imp id .inl
    | dic kvs =>
      obtain ⟨ky,hp2,e4,e5⟩:=bind_some e2
      obtain ⟨hk,rfl⟩:=ZS e4
      obtain ⟨rfl,rfl⟩:=Qg e5
      obtain ⟨xs,h1,rk⟩:=ro.dic
      refine ⟨rfl,.inr ⟨a,xs,ky,rfl,Z3 hk r1,h1,?_⟩⟩
      rcases rk.val ky with ⟨z1,z2⟩ | ⟨_,_,z1,z2,_⟩<;>rw [z1,z2]<;>rfl
    | ins _ _=>cases e2
  | non=>cases h
  | bl _=>cases h
  | int _=>cases h
  | str _=>cases h
theorem k7 (hu:X.A.units+1 < cLine):P2 X (compareOp .In) inG:=by
 intro pins s σ H x y v u Q I rx ry h
 obtain ⟨ρ,B,hp,dx,dy,d,hp',W,r1,r2,e,k⟩:=h
 obtain ⟨b,hp1,e1,e2⟩:=bind_some e
 obtain ⟨rfl,rfl⟩:=Qg e2
 obtain ⟨rfl,h⟩:=VR W r1 r2 e1
 have fin:=k _ ρ B H Gr.refl W (Zh (b:=b))
 rcases h with ⟨p,xs,rfl,sq,f1,f2,rfl⟩ | ⟨a,kvs,ky,rfl,rfl,h1,rfl⟩
 ·exact KU pins s σ H _ _ v u Q I rx ry ⟨p,xs,rfl,sq,f1,f2,fin⟩
 ·exact VT hu pins s σ H _ _ v u Q I rx ry ⟨a,kvs,ky,rfl,rfl,h1,fin⟩
def Qbm (o i d:DV):M Unit:=match o with
  | .ref n=>do
    match <- Q0 n with
    | .lst ds=>do
      let k <- asI i
      match ixN ds.length k with
      | some j=>YN n (.lst (ds.set j d))
      | none=>failure
    | .dic kvs=>do
      let k <- JD i
      Qz (decide (kvs.length < lim))
      YN n (.dic (ZU kvs k d))
    | _=>failure
  | _=>failure
def tP3 (K:PySem.W.Frag) (g:DV->DV->DV->M Unit):uE:=fun o i v H Q=>∃ ρ B hp dO di dv hp',WOk K ρ B hp H/\RepV K ρ B H dO o/\RepV K ρ B H di i/\RepV K ρ B H dv v/\g dO di dv hp=some ((),hp')/\∀ ρ' B' H',Gr K ρ B H ρ' B' H'->WOk K ρ' B' hp' H'->Q H'
theorem RepL.set {K:PySem.W.Frag} {ρ:List Addr} {B:Addr->Prop} {H:Hp} {d:DV} {x:V} (r:RepV K ρ B H d x):∀ {ds:List DV} {xs:List V} (i:Nat),RepL K ρ B H ds xs->RepL K ρ B H (ds.set i d) (xs.set i x)
  | [],_,i,h=>by unfold RepL at h;subst h;exact RepL.nil
  | _::ds,_,0,h=>by
    unfold RepL at h
    obtain ⟨y,t,rfl,_,h2⟩:=h
    exact RepL.cons r h2
  | _::ds,_,i+1,h=>by
    unfold RepL at h
    obtain ⟨y,t,rfl,h1,h2⟩:=h
    exact RepL.cons h1 (RepL.set r i h2)
theorem Qca (hu:X.A.units+1 < cLine):uD X (tP3 X.K Qbm):=by
  intro pins s σ H o i v ov iv u Q I ro ri rv h
  obtain ⟨ρ,B,hp,dO,di,dv,hp',W,r1,r2,r3,e,k⟩:=h
  cases dO with
  | ref n =>
    obtain ⟨ob,hp1,e1,e2⟩:=bind_some e
    obtain ⟨e3,rfl⟩:=QX e1
    obtain ⟨a,rfl,i1,rob⟩:=RepV.refW W r1 e3
    cases ob with
    | ins _ _=>cases e2
    | lst ds =>
      obtain ⟨j,hp2,e4,e5⟩:=bind_some e2
      obtain ⟨rfl,rfl⟩:=qO e4
      obtain ⟨xs,h1,l1⟩:=rob
      cases q:ixN ds.length j with
      | none=>simp only [q] at e5;cases e5
      | some m =>
        simp only [q] at e5
        cases e5
        obtain ⟨g,W'⟩:=Xy W i1 h1 (RepL.set r3 m l1)
        exact set_list pins s σ H _ _ v ov iv u Q I ro ri rv ⟨a,xs,j,m,rfl,r2.intI,h1,by rw [<- l1.length];exact q,k ρ B _ g W'⟩
    | dic kvs =>
      obtain ⟨ky,hp2,e4,e5⟩:=bind_some e2
      obtain ⟨hk,rfl⟩:=ZS e4
      obtain ⟨_,hp3,e6,e7⟩:=bind_some e5
      obtain ⟨hl,rfl⟩:=Qx e6
      cases e7
      obtain ⟨xs,h1,rk⟩:=rob.dic
      obtain ⟨g,W'⟩:=ja W i1 h1 (rk.put ky r3)
      exact v7 hu pins s σ H _ _ v ov iv u Q I ro ri rv ⟨a,xs,ky,rfl,Z3 hk r2,h1,by rw [<- rk.len];exact Nat.lt_of_lt_of_le (of_decide_eq_true hl) zq,k ρ B _ g W'⟩
  | non=>cases e
  | bl _=>cases e
  | int _=>cases e
  | str _=>cases e
  | tup _=>cases e
  | lst _=>cases e
def gSb (f g:DEx):DGx:=fun d env=>do
 let o <- f env
 let i <- g env
 Qbm o i d
 pure env
theorem X4 {o i:Expr} {fo fi:DEx} (hu:X.A.units+1 < cLine) (ho:DE X o fo) (hi:DE X i fi)
  (ha:∀ v,assign (.Subscript o i pos) X.env v=(do
   let ov <- holding [v] (eval o X.env)
   let iv <- holding [v,ov] (eval i X.env)
   standAt pos
   holding [v,ov,iv] (setItem ov iv v)
   release [v,ov,iv] []):=by intro _;rfl):PG X (.Subscript o i pos) (tDG X.K (gSb fo fi)):=by
 intro pins s σ H v u Q I r h
 refine Qbd ho hi (Qca hu) ha pins s σ H v u Q I r ?_
 obtain ⟨Z,env,ρ,B,hp,d,env',hp',S,rd,e,k⟩:=h
 obtain ⟨x,hp1,e1,e⟩:=bind_some e
 obtain ⟨y,hp2,e2,e⟩:=bind_some e
 obtain ⟨z,hp3,e3,e⟩:=bind_some e
 obtain ⟨rfl,rfl⟩:=Qg e
 refine tD.run S e1 fun vx ρ1 B1 H1 g1 S1 r1=>tD.run S1 e2 fun vy ρ2 B2 H2 g2 S2 r2=>?_
 exact ⟨ρ2,B2,hp2,x,y,d,hp3,S2.wo,RepV.grow S1.wo.rb g2 _ _ r1,r2,RepV.grow S.wo.rb (g1.trans g2) _ _ rd,e3,fun ρ3 B3 H3 g3 W3=>k _ ρ3 B3 H3 ((g1.trans (g2.trans g3)).gs S.wo.rb) (S2.grow g3 W3)⟩
def Yz:String->DV->M Unit
  | "list", .lst _=>pure ()
  | "str", .str _=>pure ()
  | T,.ref n=>do
    match <- Q0 n with
    | .lst _=>Qz (T == "list")
    | .dic _=>Qz (T == "dict")
    | _=>failure
  | _,_=>failure
theorem yL {T:String} {d:DV} {hp hp':Hs} {K:PySem.W.Frag} {ρ:List Addr} {B:Addr->Prop} {H:Hp} {v:V} {u:Unit} (W:WOk K ρ B hp H) (r:RepV K ρ B H d v) (h:Yz T d hp=some (u,hp')):hp=hp'/\tyV K T v H:=by
  unfold Yz at h
  split at h
  . obtain ⟨_,rfl⟩:=Qg h
    obtain ⟨a,xs,rfl,_,sq,_⟩:=r.lstI
    exact ⟨rfl,.inl ⟨rfl,xs,sq⟩⟩
  . obtain ⟨_,rfl⟩:=Qg h
    obtain rfl:=r.strI
    exact ⟨rfl,rfl⟩
  . obtain ⟨o,hp1,e1,e2⟩:=bind_some h
    obtain ⟨e3,rfl⟩:=QX e1
    obtain ⟨a,rfl,_,ro⟩:=RepV.refW W r e3
    cases o with
    | lst ds =>
      obtain ⟨hT,rfl⟩:=Qx e2
      obtain ⟨xs,h1,_⟩:=ro
      exact ⟨rfl,.inl ⟨by simpa using hT,xs,SqL.of h1⟩⟩
    | dic kvs =>
      obtain ⟨hT,rfl⟩:=Qx e2
      obtain ⟨xs,h1,_⟩:=ro
      exact ⟨rfl,.inr (.inr (.inl ⟨by simpa using hT,.inl ⟨xs,h1⟩⟩))⟩
    | ins _ _=>cases e2
  . cases h
def tPm (K:PySem.W.Frag) (m:DV->List DV->M DV):V->List V->Hp->VK->Prop:=fun x vs H Q=>∃ ρ B hp dx ds d hp',WOk K ρ B hp H/\RepV K ρ B H dx x/\RepL K ρ B H ds vs/\m dx ds hp=some (d,hp')/\Fol K ρ B H d hp' Q
def Zc (T:String) (m:DV->List DV->M DV) (f:DEx) (a:DAx):DEx:=fun env=>do
 let x <- f env
 Yz T x
 let ds <- a env
 m x ds
theorem ZR {T id:String} {name:Str} {o:Expr} {es:List Expr} {fo:DEx} {fs:DAx} {m:DV->List DV->M DV} {apos cpos:Pos} (hm:MtR X id (tPm X.K m)) (pa:PlainAttrs T) (slot:Slot T name id) (hty:typeOf (.builtin id)=pure (.type "method_descriptor")) (ho:DE X o fo) (ha:DA X (e::es) fs)
  (hbase:attributeBase o name X.env (eval o X.env)=eval o X.env:=by rfl)
  (hfew:((backTo cpos (starEach (e::es) X.env)).all (fun x=>!x.1)&&(backToKw cpos (keywordEach [] X.env)).all (fun x=>x.1.isSome)
   && decide ((e::es).length+([]:List Keyword).length+(if ([]:List Keyword).isEmpty then 0 else 1) < 30))=true:=by rfl)
  (hline:(apos.endLine==cpos.line)=true:=by rfl) (hs:starEach (e::es) X.env=(false,eval e X.env)::starEach es X.env:=by rfl) (hplain:(backTo cpos (starEach es X.env)).any (·.1)=false:=by rfl) :
  DE X (.Call (.Attribute o name apos) (e::es) [] cpos) (Zc T m fo fs) :=
 L2.PE.imp (k8 pa slot hty hm ho ha hbase hfew hline hs hplain) fun σ H Q ⟨Z,env,ρ,B,hp,d,hp',S,e,k⟩=>by
  obtain ⟨x,hp1,e1,ea⟩:=bind_some e
  obtain ⟨_,hp2,e2,eb⟩:=bind_some ea
  obtain ⟨ds,hp3,e3,ec⟩:=bind_some eb
  refine tD.run S e1 fun v ρ1 B1 H1 g1 S1 r1=>?_
  obtain ⟨z,ty⟩:=yL S1.wo r1 e2
  rw [<- z] at e3
  exact ⟨ty,tDA.run S1 e3 fun vs ρ2 B2 H2 g2 S2 r2=>⟨ρ2,B2,hp3,x,ds,d,hp',S2.wo,RepV.grow S1.wo.rb g2 _ _ r1,r2,ec,k.after (g1.trans g2)⟩⟩
theorem uP {T id:String} {name:Str} {o:Expr} {fo:DEx} {m:DV->List DV->M DV} {apos cpos:Pos} (hm:MtR X id (tPm X.K m)) (pa:PlainAttrs T) (slot:Slot T name id) (hty:typeOf (.builtin id)=pure (.type "method_descriptor")) (ho:DE X o fo)
  (hbase:attributeBase o name X.env (eval o X.env)=eval o X.env:=by rfl) (hline:(apos.endLine==cpos.line)=true:=by rfl):DE X (.Call (.Attribute o name apos) [] [] cpos) (Zc T m fo Qn) :=
 L2.PE.imp (Qa5 pa slot hty hm ho hbase hline) fun σ H Q ⟨Z,env,ρ,B,hp,d,hp',S,e,k⟩=>by
  obtain ⟨x,hp1,e1,ea⟩:=bind_some e
  obtain ⟨_,hp2,e2,eb⟩:=bind_some ea
  obtain ⟨ds,hp3,e3,ec⟩:=bind_some eb
  obtain ⟨z1,z2⟩:=Qg e3
  refine tD.run S e1 fun v ρ1 B1 H1 g1 S1 r1=>?_
  obtain ⟨z,ty⟩:=yL S1.wo r1 e2
  rw [<- z1,<- z2,<- z] at ec
  exact ⟨ty,ρ1,B1,hp1,x,[],d,hp',S1.wo,r1,RepL.nil,ec,k.after g1⟩
def onL (x:DV) (k:Nat->List DV->M DV):M DV:=match x with
  | .ref n=>do
    match <- Q0 n with
    | .lst ds=>k n ds
    | _=>failure
  | _=>failure
def onD (x:DV) (k:Nat->List (Key×DV)->M DV):M DV:=match x with
  | .ref n=>do
    match <- Q0 n with
    | .dic ds=>k n ds
    | _=>failure
  | _=>failure
theorem Xs {x d:DV} {k:Nat->List DV->M DV} {hp hp':Hs} (h:onL x k hp=some (d,hp')):∃ n ds,x=.ref n/\hp[n]?=some (.lst ds)/\k n ds hp=some (d,hp'):=by
  cases x with
  | ref n =>
    obtain ⟨o,hp1,e1,e2⟩:=bind_some h
    obtain ⟨e3,rfl⟩:=QX e1
    cases o with
    | lst ds=>exact ⟨n,ds,rfl,e3,e2⟩
    | dic _=>cases e2
    | ins _ _=>cases e2
  | _=>cases h
theorem Xr {x d:DV} {k:Nat->List (Key×DV)->M DV} {hp hp':Hs} (h:onD x k hp=some (d,hp')):∃ n ds,x=.ref n/\hp[n]?=some (.dic ds)/\k n ds hp=some (d,hp'):=by
  cases x with
  | ref n =>
    obtain ⟨o,hp1,e1,e2⟩:=bind_some h
    obtain ⟨e3,rfl⟩:=QX e1
    cases o with
    | dic ds=>exact ⟨n,ds,rfl,e3,e2⟩
    | lst _=>cases e2
    | ins _ _=>cases e2
  | _=>cases h
def Z1 (x:DV):List DV->M DV
 | [d]=>onL x fun n ds=>do Qz (decide (ds.length < lim));YN n (.lst (ds++[d]));pure .non
 | _=>failure
theorem YD:MtR X "list.append" (tPm X.K Z1):=by
 intro pins s σ H x vs v us Q I rx rv h
 obtain ⟨ρ,B,hp,dx,es,d,hp',W,r1,r2,e,k⟩:=h
 unfold Z1 at e
 split at e
 ·rename_i y
  obtain ⟨n,ds,rfl,h0,e⟩:=Xs e
  obtain ⟨_,hp1,e1,e2⟩:=bind_some e
  obtain ⟨hl,rfl⟩:=Qx e1
  cases e2
  obtain ⟨a,rfl,i1,xs,h1,l1⟩:=RepV.refW W r1 h0
  obtain ⟨w,rfl,rw'⟩:=r2.oneI
  obtain ⟨g,W'⟩:=Xy W i1 h1 (RepL.append l1 (RepL.one rw'))
  exact qa pins s σ H _ _ v us Q I rx rv ⟨a,xs,w,rfl,rfl,h1,by rw [<- l1.length];exact Nat.lt_of_lt_of_le (of_decide_eq_true hl) zq,k _ ρ B _ g W' Jt⟩
 ·cases e
def jF (x:DV):List DV->M DV
  | [y]=>onD x fun n kvs=>do
    let k <- JD y
    let d <- yU (Q8 kvs k)
    YN n (.dic (ZG kvs k))
    pure d
  | [y,z]=>onD x fun n kvs=>do
    let k <- JD y
    match Q8 kvs k with
    | some d=>do YN n (.dic (ZG kvs k));pure d
    | none=>pure z
  | _=>failure
theorem vn:MtR X "dict.pop" (tPm X.K jF):=by
 intro pins s σ H x vs v us Q I rx rv h
 obtain ⟨ρ,B,hp,dx,es,d,hp',W,r1,r2,e,k⟩:=h
 unfold jF at e
 split at e
 ·rename_i y
  obtain ⟨n,kvs,rfl,h0,e⟩:=Xr e
  obtain ⟨ky,hp1,e1,e⟩:=bind_some e
  obtain ⟨hk,rfl⟩:=ZS e1
  obtain ⟨d',hp2,e2,e⟩:=bind_some e
  obtain ⟨hv,rfl⟩:=XM e2
  cases e
  obtain ⟨a,rfl,i1,ro⟩:=RepV.refW W r1 h0
  obtain ⟨xs,h1,rk⟩:=ro.dic
  obtain ⟨w,rfl,rw'⟩:=r2.oneI
  obtain rfl:=Z3 hk rw'
  obtain ⟨g,W'⟩:=ja W i1 h1 (rk.drop ky)
  rcases rk.val ky with ⟨z,_⟩ | ⟨d'',v',z,zv,rz⟩
  ·rw [hv] at z;cases z
  ·rw [hv] at z;cases z
   exact xP pins s σ H _ _ v us Q I rx rv ⟨a,xs,ky,rfl,h1,.inl ⟨rfl,v',zv,k _ ρ B _ g W' (RepV.grow W.rb g _ _ rz)⟩⟩
 ·rename_i y z
  obtain ⟨n,kvs,rfl,h0,e⟩:=Xr e
  obtain ⟨ky,hp1,e1,e⟩:=bind_some e
  obtain ⟨hk,rfl⟩:=ZS e1
  obtain ⟨a,rfl,i1,ro⟩:=RepV.refW W r1 h0
  obtain ⟨xs,h1,rk⟩:=ro.dic
  unfold RepL at r2
  obtain ⟨w,t,rfl,rw',r2⟩:=r2
  obtain rfl:=Z3 hk rw'
  obtain ⟨w2,rfl,rw2⟩:=r2.oneI
  rcases rk.val ky with ⟨z1,zv⟩ | ⟨d'',v',z1,zv,rz⟩
  ·rw [z1] at e
   obtain ⟨rfl,rfl⟩:=Qg e
   exact xP pins s σ H _ _ v us Q I rx rv ⟨a,xs,ky,rfl,h1,.inr ⟨w2,rfl,(fun v hv=>by rw [zv] at hv;cases hv),fun _=>k _ ρ B H Gr.refl W rw2⟩⟩
  ·rw [z1] at e
   cases e
   obtain ⟨g,W'⟩:=ja W i1 h1 (rk.drop ky)
   exact xP pins s σ H _ _ v us Q I rx rv ⟨a,xs,ky,rfl,h1,.inr ⟨w2,rfl,(fun v hv=>by rw [zv] at hv;cases hv;exact k _ ρ B _ g W' (RepV.grow W.rb g _ _ rz)),fun hn=>by rw [zv] at hn;cases hn⟩⟩
 ·cases e
def JE (x:DV):List DV->M DV
  | [y]=>onD x fun n kvs=>do
    let k <- JD y
    pure ((Q8 kvs k).getD .non)
  | [y,z]=>onD x fun n kvs=>do
    let k <- JD y
    pure ((Q8 kvs k).getD z)
  | _=>failure
theorem zr (hu:X.A.units+1 < cLine):MtR X "dict.get" (tPm X.K JE):=by
 intro pins s σ H x vs v us Q I rx rv h
 obtain ⟨ρ,B,hp,dx,es,d,hp',W,r1,r2,e,k⟩:=h
 unfold JE at e
 split at e
 ·rename_i y
  obtain ⟨n,kvs,rfl,h0,e⟩:=Xr e
  obtain ⟨ky,hp1,e1,e⟩:=bind_some e
  obtain ⟨hk,rfl⟩:=ZS e1
  obtain ⟨rfl,rfl⟩:=Qg e
  obtain ⟨a,rfl,i1,ro⟩:=RepV.refW W r1 h0
  obtain ⟨xs,h1,rk⟩:=ro.dic
  obtain ⟨w,rfl,rw'⟩:=r2.oneI
  obtain rfl:=Z3 hk rw'
  refine UZ hu pins s σ H _ _ v us Q I rx rv ⟨a,xs,ky,rfl,h1,.inl ⟨rfl,k _ ρ B H Gr.refl W ?_⟩⟩
  rcases rk.val ky with ⟨z1,zv⟩ | ⟨d'',v',z1,zv,rz⟩<;>rw [z1,zv]
  ·exact Jt
  ·exact rz
 ·rename_i y z
  obtain ⟨n,kvs,rfl,h0,e⟩:=Xr e
  obtain ⟨ky,hp1,e1,e⟩:=bind_some e
  obtain ⟨hk,rfl⟩:=ZS e1
  obtain ⟨rfl,rfl⟩:=Qg e
  obtain ⟨a,rfl,i1,ro⟩:=RepV.refW W r1 h0
  obtain ⟨xs,h1,rk⟩:=ro.dic
  unfold RepL at r2
  obtain ⟨w,t,rfl,rw',r2⟩:=r2
  obtain rfl:=Z3 hk rw'
  obtain ⟨w2,rfl,rw2⟩:=r2.oneI
  refine UZ hu pins s σ H _ _ v us Q I rx rv ⟨a,xs,ky,rfl,h1,.inr ⟨w2,rfl,k _ ρ B H Gr.refl W ?_⟩⟩
  rcases rk.val ky with ⟨z1,zv⟩ | ⟨d'',v',z1,zv,rz⟩<;>rw [z1,zv]
  ·exact rw2
  ·exact rz
 ·cases e
end
end D
namespace L2
open PySem PySem.Spec PyProof.Rows
theorem Inv.kfresh {X:Cx} {pins:List (Addr×Obj)} {σ:St} {H:Hp} {s:Shared} (I:Inv X pins σ H s):X.K.lookup s.heap.objs.size=none:=by
 cases q:X.K.lookup s.heap.objs.size with
 | none=>rfl
 | some o=>exact absurd (Heap.lt_size (I.kIn _ o q)) (Nat.lt_irrefl _)
theorem KZ {X:Cx} {pos:Pos}:PE X (.Dict [] [] pos) (fun _ H Q=>∀ p,H p=none->X.K.lookup p=none->Q (.ref p) (upd H p (.dK []))):=fun pins s σ H Q I h =>
 wpAny_Dict_empty ⟨.ref s.heap.objs.size,_,I.laid (a:=s.heap.objs.size) (o:=.dK []) (t':=s.toks) (fun _ _ q=>Heap.get?_push_of_some _ q) (Nat.le_refl _) (GF s.heap I.big),rfl,h _ (I.hok.fresh (Nat.le_refl _)) I.kfresh⟩
end L2
namespace D
open PySem PySem.Spec PyProof.Rows L2
section
variable {X:Cx} {e a b c:Expr} {f fa fb fc:DEx} {ca cb:DTx} {pos:Pos}
def Ye (kvs more:List (Key×DV)):List (Key×DV):=more.foldl (fun acc kv=>ZU acc kv.1 kv.2) kvs
theorem RepK.merge {K:PySem.W.Frag} {ρ:List Addr} {B:Addr->Prop} {H:Hp} {more:List (Key×DV)} {ms:List (Key×V)} (r:RepK K ρ B H more ms):∀ {kvs:List (Key×DV)} {xs:List (Key×V)},RepK K ρ B H kvs xs->RepK K ρ B H (Ye kvs more) (Xp xs ms):=by
  induction r with
  | nil=>intro kvs xs r;exact r
  | @cons p q _ _ h _ ih =>
    intro kvs xs r
    unfold Ye Xp at ih ⊢
    rw [List.foldl_cons,List.foldl_cons,h.1]
    exact ih (r.put q.1 h.2)
def Xi:DEx:=fun _=>Jx (.dic [])
theorem Yp:DE X (.Dict [] [] pos) Xi:=L2.PE.imp KZ fun σ H Q ⟨Z,env,ρ,B,hp,d,hp',S,e,k⟩=>by
 cases e
 intro p hn hk
 have g:Gr X.K ρ B H (ρ++[p]) (X2 B p) (upd H p (.dK [])):=Gr.wnew hn hk
 refine k _ _ _ _ g (S.wo.wnew hn hk (RepK.orep (xs:=[]) .nil QI)) ?_
 unfold RepV
 exact ⟨p,rfl,by rw [<- S.wo.len];simp⟩
abbrev NX:=Nat->M (Option DV)
def Gj (K:PySem.W.Frag) (ρ:List Addr) (B:Addr->Prop) (H:Hp) (nxt:NX) (J:It):Prop :=
  ∀ ρ1 B1 hp1 H1, Gs K ρ B H ρ1 B1 H1 -> WOk K ρ1 B1 hp1 H1 -> ∀ (i : Nat) (o : Option DV) (hp2 : Hs), nxt i hp1 = some (o, hp2) -> hp2 = hp1 /\ match o with
    | none=>J.stop i H1
    | some d=>J.go i H1/\∀ x H',J.yld i H1 x H'->RepV K ρ1 B1 H' d x/\(H'=H1∨∃ p o,H1 p=none/\H'=upd H1 p o)
abbrev DXx:=En->M NX
def tDX (K:PySem.W.Frag) (f:DXx):TI:=fun σ H R=>∃ Z env ρ B hp nxt hp',SOk K Z env σ ρ B hp H/\f env hp=some (nxt,hp')/\∀ J ρ' B' H',Gr K ρ B H ρ' B' H'->WOk K ρ' B' hp' H'->Gj K ρ' B' H' nxt J->R J H'
def DX (X:Cx) (tg iter:Expr) (f:DXx):Prop:=PI X tg iter (tDX X.K f)
def nxD (ds:List DV):NX:=fun i=>if i<=ds.length then pure ds[i]? else failure
def nxW (n:Nat):NX:=fun i=>do
 match <- Q0 n with
 | .lst ds=>pure ds[i]?
 | _=>failure
theorem vD {K:PySem.W.Frag} {ρ:List Addr} {B:Addr->Prop} {H:Hp} {ds:List DV} {J:It} (h:uC K ρ B H ds J):Gj K ρ B H (nxD ds) J:=fun ρ1 B1 hp1 H1 g W i o hp2 e=>by
  unfold nxD at e
  by_cases hi:i<=ds.length
  . rw [if_pos hi] at e
    obtain ⟨rfl,rfl⟩:=Qg e
    obtain ⟨h1,h2⟩:=h ρ1 B1 H1 g W.rb W.bt
    refine ⟨rfl,?_⟩
    cases q:ds[i]? with
    | none =>
      have:i=ds.length:=by have:=List.getElem?_eq_none_iff.mp q;omega
      subst this
      exact h2
    | some d=>exact h1 i d q
  . rw [if_neg hi] at e;cases e
theorem QaV {K:PySem.W.Frag} {ρ:List Addr} {B:Addr->Prop} {H:Hp} {n:Nat} {a:Addr} (ha:ρ[n]?=some a) (kf:∀ H1:Hp,∀ xs ys,H1 a=some (.lst xs)->SqL K H1 a ys->ys=xs):Gj K ρ B H (nxW n) (Itl K a):=fun ρ1 B1 hp1 H1 g W i o hp2 e=>by
  obtain ⟨ob,hp3,e1,e2⟩:=bind_some e
  obtain ⟨e3,rfl⟩:=QX e1
  have ha1:=U9 g.pre ha
  cases ob with
  | dic _=>cases e2
  | ins _ _=>cases e2
  | lst ds =>
    obtain ⟨rfl,rfl⟩:=Qg e2
    obtain ⟨xs,h1,l1⟩:=W.obj n a _ ha1 e3
    refine ⟨rfl,?_⟩
    cases q:ds[i]? with
    | none=>exact ⟨xs,SqL.of h1,by rw [<- l1.length];exact List.getElem?_eq_none_iff.mp q⟩
    | some d =>
      obtain ⟨x,hx,rx⟩:=l1.get q
      refine ⟨⟨xs,x,SqL.of h1,hx⟩,fun y H' ⟨eH,hy⟩=>?_⟩
      subst eH
      have:=hy xs (SqL.of h1)
      rw [hx] at this;cases this
      exact ⟨rx,.inl rfl⟩
theorem uh {K:PySem.W.Frag} {a:Addr} (hk:K.lookup a=none) (H:Hp) (xs ys:List V) (h:H a=some (.lst xs)) (h':SqL K H a ys):ys=xs:=by
 rcases h' with (h' | ⟨o,h'⟩) | ⟨o,_,_,h',_⟩
 ·rw [h] at h';cases h';rfl
 ·rw [h] at h';cases h'
 ·rw [hk] at h';cases h'
def xOf (f:DIx):DXx:=fun env=>do let ds <- f env;pure (nxD ds)
def xLs (f:DEx):DXx:=fun env=>do
  match <- f env with
  | .lst ds=>pure (nxD ds)
  | .ref n=>do
    match <- Q0 n with
    | .lst _=>pure (nxW n)
    | _=>failure
  | _=>failure
variable {tg iter:Expr}
theorem GL {g:DIx} (h:DI X tg iter g):DX X tg iter (xOf g):=L2.PI.imp h fun σ H R ⟨Z,env,ρ,B,hp,nxt,hp',S,e,k⟩=>by
 obtain ⟨ds,hp1,e1,e2⟩:=bind_some e
 obtain ⟨rfl,rfl⟩:=Qg e2
 exact ⟨Z,env,ρ,B,hp,ds,hp1,S,e1,fun J ρ' B' H' g W it=>k J ρ' B' H' g W (vD it)⟩
theorem Jd (h:DE X iter f):DX X tg iter (xLs f):=L2.PI.imp (gO (L2.PE.kf h)) fun σ H R ⟨Z,env,ρ,B,hp,nxt,hp',S,e,k⟩=>by
  obtain ⟨d,hp1,e1,e2⟩:=bind_some e
  refine tD.run S e1 fun v ρ1 B1 H1 g1 S1 r1 kf=>?_
  cases d with
  | lst ds =>
    obtain ⟨rfl,rfl⟩:=Qg e2
    obtain ⟨a,xs,rfl,nb,sq,rl⟩:=r1.lstI
    exact ⟨a,rfl,⟨xs,sq⟩,k _ ρ1 B1 H1 g1 S1.wo (vD (gf nb sq rl))⟩
  | ref n =>
    obtain ⟨o,hp2,e3,e4⟩:=bind_some (show (Q0 n >>= fun o=>(match o with | .lst _=>pure (nxW n) | _=>failure:M NX)) hp1=some (nxt,hp') from e2)
    obtain ⟨e5,e6⟩:=QX e3
    cases o with
    | lst ds =>
      obtain ⟨rfl,z⟩:=Qg e4
      rw [<- z,<- e6] at k
      obtain ⟨a,rfl,i1,xs,h1,_⟩:=RepV.refW S1.wo r1 e5
      exact ⟨a,rfl,⟨xs,SqL.of h1⟩,k _ ρ1 B1 H1 g1 S1.wo (QaV i1 (uh (kf a _ h1)))⟩
    | dic _=>cases e4
    | ins _ _=>cases e4
  | non=>cases e2
  | bl _=>cases e2
  | int _=>cases e2
  | str _=>cases e2
  | tup _=>cases e2
def J7 (nxt:NX) (b:DV->DSx):Nat->Nat->DSx
  | 0,_,_=>failure
  | m+1,i,env=>do
    match <- nxt i with
    | none=>pure (.nx,env)
    | some d=>do
      let r <- b d env
      match r.1 with
      | .nx=>J7 nxt b m (i+1) r.2
      | .ct=>J7 nxt b m (i+1) r.2
      | .bk=>pure (.nx,r.2)
      | .rt x=>pure (.rt x,r.2)
def Xu (f:DXx) (g:DGx) (body:DSx):DSx:=fun env=>do let nxt <- f env;J7 nxt (fun d env=>do let env' <- g d env;body env') 100000 0 env
theorem XF {body:List Stmt} {fi:DXx} {g:DGx} {sb:DSx} (hp:PassesOwn (model X.prog X.w) X.A X.env X.xe) (hc:X.calm=true) (hi:DX X tg iter fi) (hg:PG X tg (tDG X.K g)) (hb:DSs X body sb)
    (hs:∀ x,foldedSetIterable iter X.env x=pure x:=by intro _;rfl):DS X (.For tg iter body [] pos) (Xu fi g sb) :=
  (Qbi hp hc hi hg hb hs).imp fun D σ H ⟨Z,env,ρ,B,hp,fl,env',hp',S,e,k⟩=>by
    obtain ⟨nxt,hp1,e1,e2⟩:=bind_some e
    refine ⟨Z,env,ρ,B,hp,nxt,hp1,S,e1,fun J ρ1 B1 H1 g1 W1 it=>?_⟩
    have k1:=k.after (g1.gs S.wo.rb)
    refine ⟨fun i m σ H=>∃ env ρ B hp,SOk X.K Z env σ ρ B hp H/\Gs X.K ρ1 B1 H1 ρ B H/\J7 nxt (fun d env=>do let env' <- g d env;sb env') m i env hp=some ((fl,env'),hp'),
      ⟨100000,env,ρ1,B1,hp1,S.grow g1 W1,Gs.refl,e2⟩,?_⟩
    rintro i m σ H ⟨env2,ρ2,B2,hp2,S2,g2,e3⟩
    cases m with
    | zero=>cases e3
    | succ m =>
      obtain ⟨o,hpo,eo,e3⟩:=bind_some e3
      obtain ⟨rfl,ito⟩:=it ρ2 B2 hp2 H g2 S2.wo i o hpo eo
      cases o with
      | none =>
        obtain ⟨z,rfl⟩:=Qg e3;cases z
        exact .inl ⟨ito,k1 σ ρ2 B2 H g2 S2⟩
      | some d =>
        obtain ⟨go,yl⟩:=ito
        obtain ⟨⟨f1,env4⟩,hp4,e4,e5⟩:=bind_some e3
        obtain ⟨env3,hp3,e6,e7⟩:=bind_some e4
        refine .inr ⟨go,fun σ' H'=>∃ env ρ B hp,SOk X.K Z env σ' ρ B hp H'/\Gs X.K ρ1 B1 H1 ρ B H'/\J7 nxt (fun d env=>do let env' <- g d env;sb env') m (i+1) env hp=some ((fl,env'),hp'),
          fun σ' H' q=>⟨m,Nat.lt_succ_self m,q⟩,fun x H' y=>?_⟩
        obtain ⟨rx,hx⟩:=yl x H' y
        have S3:SOk X.K Z env2 σ ρ2 B2 hpo H'/\Gs X.K ρ2 B2 H ρ2 B2 H':=by
          rcases hx with rfl | ⟨p,o,hn,rfl⟩
          . exact ⟨S2,Gs.refl⟩
          . exact ⟨S2.grow (Gr.laid hn) (S2.wo.laid hn),Qbz S2.wo.rb hn⟩
        refine ⟨Z,env2,ρ2,B2,hpo,d,env3,hp3,S3.1,rx,e6,fun σ5 ρ5 B5 H5 g5 S5=>⟨Z,env3,ρ5,B5,hp3,f1,env4,hp4,S5,e7,fun σ6 ρ6 B6 H6 g6 S6=>?_⟩⟩
        have G6:=g2.trans (S3.2.trans (g5.trans g6))
        cases f1 with
        | nx=>exact ⟨env4,ρ6,B6,hp4,S6,G6,e5⟩
        | ct=>exact ⟨env4,ρ6,B6,hp4,S6,G6,e5⟩
        | bk=>obtain ⟨z,rfl⟩:=Qg e5;cases z;exact k1 σ6 ρ6 B6 H6 G6 S6
        | rt d=>obtain ⟨z,rfl⟩:=Qg e5;cases z;exact k1 σ6 ρ6 B6 H6 G6 S6
def ZA (nxt:NX) (g:DV->M Bool) (f:DV->M DV):Nat->Nat->M (List DV)
  | 0,_=>failure
  | m+1,i=>do
    match <- nxt i with
    | none=>pure []
    | some d=>do
      if <- g d then
        let y <- f d
        let ys <- ZA nxt g f m (i+1)
        pure (y::ys)
      else ZA nxt g f m (i+1)
def ZH (nw:Bool) (src:DXx) (idx:List Nat) (t:DTx) (f:DEx):DEx:=fun env=>do
 let nxt <- src env
 let out <- ZA nxt (fun d=>t (cE idx env d)) (fun d=>f (cE idx env d)) lim 0
 if nw then Jx (.lst out) else pure (.lst out)
variable {elt:Expr} {x:Str} {px:Pos} {ifs:List Expr} {scope:Scope} {cl:List (Str×Addr)} {caps:List Str} {idx:List Nat} {src:DXx} {te:DTx} {nw:Bool}
theorem q8 {K:PySem.W.Frag} {σ:St} {H:Hp} {Q:VK} (h:tD K (ZH nw src idx te f) σ H Q):Kj K (tDX K src) (tDT K te) (tD K f) idx σ H Q:=by
  obtain ⟨Z,env,ρ,B,hp,d,hp',S,e,k⟩:=h
  obtain ⟨nxt,hp1,e1,e2⟩:=bind_some e
  obtain ⟨out,hp3,e5,e6⟩:=bind_some e2
  refine ⟨Z,env,ρ,B,hp,nxt,hp1,S,e1,fun J ρ1 B1 H1 g1 W1 it D hD hK=>?_⟩
  have g1s:=g1.gs S.wo.rb
  refine ⟨fun i m ys H2=>H2 D=some (.lst ys)/\i+m=lim/\∃ ρ2 B2 hp2 don rst,Gr K ρ1 B1 H1 ρ2 B2 H2/\WOk K ρ2 B2 hp2 H2/\B2 D/\D∉ρ2/\RepL K ρ2 B2 H2 don ys/\don.length<=i /\
    ZA nxt (fun d=>te (cE idx env d)) (fun d=>f (cE idx env d)) m i hp2=some (rst,hp3)/\don++rst=out,?_,?_⟩
  . exact ⟨lim,QI,Nat.zero_add _,ρ1,X2 B1 D,hp1,[],out,Gr.banned hD hK,W1.banned hD hK,.inr rfl,fun z=>W1.bt D (W1.rb D z) hD,RepL.nil,Nat.le_refl _,e5,rfl⟩
  . rintro i m ys H2 ⟨hDs,him,ρ2,B2,hp2,don,rst,g2,W2,bD,nD,rd,dn,e7,e8⟩
    refine ⟨hDs,?_⟩
    cases m with
    | zero=>cases e7
    | succ m =>
      obtain ⟨o,hpo,eo,e7⟩:=bind_some e7
      obtain ⟨rfl,ito⟩:=it ρ2 B2 hp2 H2 (g2.gs W1.rb) W2 i o hpo eo
      cases o with
      | some d0 =>
        obtain ⟨go,yl⟩:=ito
        obtain ⟨b,hp4,e9,e10⟩:=bind_some e7
        refine .inr ⟨go,fun x H3 y=>?_⟩
        obtain ⟨rx,hx⟩:=yl x H3 y
        have S3:Gr K ρ2 B2 H2 ρ2 B2 H3/\WOk K ρ2 B2 hpo H3:=by
          rcases hx with rfl | ⟨p,o,hn,rfl⟩
          . exact ⟨Gr.refl,W2⟩
          . exact ⟨Gr.laid hn,W2.laid hn⟩
        have g3:=g2.trans S3.1
        have C3:=cσ_ok (idx:=idx) S (g1s.trans (g3.gs W1.rb)) S3.2 rx
        refine tDT.run C3 e9 fun ρ4 B4 H4 g4 S4=>?_
        have hD4:H4 D=some (.lst ys):=g4.keep D _ nD (S3.1.keep D _ nD hDs)
        have nD4:D∉ρ4:=fun z=>(g4.rnew D z).elim nD fun q=>by rw [S3.1.keep D _ nD hDs] at q;cases q
        cases b with
        | false =>
          exact KH ⟨m,Nat.lt_succ_self m,hD4,by omega,ρ4,B4,hp4,don,rst,g3.trans g4,S4.wo,g4.ban D bD,nD4,RepL.grow W2.rb (S3.1.trans g4) _ _ rd,by omega,e10,e8⟩
        | true =>
          obtain ⟨z,hp5,e11,e12⟩:=bind_some e10
          obtain ⟨zs,hp6,e13,e14⟩:=bind_some e12
          obtain ⟨rfl,rfl⟩:=Qg e14
          refine KI (tD.run S4 e11 fun v ρ5 B5 H5 g5 S5 r5=>?_)
          have hD5:H5 D=some (.lst ys):=g5.keep D _ nD4 hD4
          have nD5:D∉ρ5:=fun z=>(g5.rnew D z).elim nD4 fun q=>by rw [hD4] at q;cases q
          have bD5:B5 D:=g5.ban D (g4.ban D bD)
          have G5:=g3.trans (g4.trans g5)
          have rd5:=RepL.grow W2.rb (S3.1.trans (g4.trans g5)) _ _ rd
          have trk:∀ b,(upd H5 D (.lst (ys++[v]))) b=none->H5 b=none:=fun b q=>by
            by_cases e:b=D
            . subst e;rw [QI] at q;cases q
            . rw [QH e] at q;exact q
          have g6:Gs K ρ5 B5 H5 ρ5 B5 (upd H5 D (.lst (ys++[v]))):=⟨List.prefix_rfl,fun _ h=>.inl h,fun b o nb h=>by rw [QH (show b≠D from fun z=>nb (by rw [z];exact bD5))];exact h,trk⟩
          refine ⟨hD5,?_,m,Nat.lt_succ_self m,QI,by omega,ρ5,B5,hp5,don++[z],zs,?_,?_,bD5,nD5,RepL.gs g6 _ _ (RepL.append rd5 (RepL.one r5)),by simp;omega,e13,by rw [<- e8];simp⟩
          . have h1:=rd5.length
            have h2:lim < sizeLine:=by decide
            omega
          . exact ⟨G5.pre,G5.ban,G5.new,G5.rnew,fun b o nb h=>by rw [QH (show b≠D from fun q=>by rw [q,hD] at h;cases h)];exact G5.keep b o nb h,fun b q=>G5.trk b (trk b q)⟩
          . exact ⟨S5.wo.len,S5.wo.nd,fun j b o q1 q2=>ORep.gs g6 (QH (show b≠D from fun z=>nD5 (by rw [<- z];exact List.mem_of_getElem? q1))) (S5.wo.obj j b o q1 q2),S5.wo.rb,fun b z q=>S5.wo.bt b z (trk b q),S5.wo.bk⟩
      | none =>
        obtain ⟨z,z'⟩:=Qg e7
        subst z
        subst z'
        refine .inl ⟨ito,?_⟩
        rw [List.append_nil] at e8
        subst e8
        cases nw with
        | false =>
          obtain ⟨rfl,rfl⟩:=Qg (show (pure (.lst don):M DV) hpo=some (d,hp') from e6)
          have gU:Gs K ρ2 B2 H2 ρ2 (fun b=>B2 b/\b≠D) H2:=⟨List.prefix_rfl,fun _ h=>.inl h.1,fun _ _ _ h=>h,fun _ h=>h⟩
          refine k (.ref D) ρ2 (fun b=>B2 b/\b≠D) H2 (g1.trans ⟨g2.pre,fun b z=>⟨g2.ban b z,fun q=>W1.bt b z (q▸hD)⟩,fun b z=>g2.new b z.1,g2.rnew,g2.keep,g2.trk⟩)
            ⟨W2.len,W2.nd,fun j b o q1 q2=>ORep.gs gU rfl (W2.obj j b o q1 q2),fun b z=>⟨W2.rb b z,fun q=>nD (q▸z)⟩,fun b z=>W2.bt b z.1,fun b z=>W2.bk b z.1⟩ (qI (fun z=>z.2 rfl) (SqL.of hDs) (RepL.gs gU _ _ rd))
        | true =>
          cases (show some (DV.ref hpo.length,hpo++[OV.lst don])=some (d,hp') from e6)
          have gU:Gs K ρ2 B2 H2 (ρ2++[D]) B2 H2:=⟨List.prefix_append _ _,fun _ h=>.inl h,fun _ _ _ h=>h,fun _ h=>h⟩
          refine k (.ref D) (ρ2++[D]) B2 H2 (g1.trans ⟨g2.pre.trans (List.prefix_append _ _),g2.ban,g2.new,fun a z=>(List.mem_append.mp z).elim (g2.rnew a) fun q=>.inr (by rw [List.mem_singleton.mp q];exact hD),g2.keep,g2.trk⟩)
            ⟨by simp [W2.len],List.nodup_append.mpr ⟨W2.nd,by simp,fun a ha b hb=>by rw [List.mem_singleton.mp hb];exact fun z=>nD (z▸ha)⟩,fun j b o q1 q2=>?_,fun b z=>(List.mem_append.mp z).elim (W2.rb b) fun q=>by rw [List.mem_singleton.mp q];exact bD,W2.bt,W2.bk⟩ ?_
          . by_cases hi:j < ρ2.length
            . rw [List.getElem?_append_left hi] at q1
              rw [List.getElem?_append_left (by rw [<- W2.len];exact hi)] at q2
              exact ORep.gs gU rfl (W2.obj j b o q1 q2)
            . rw [List.getElem?_append_right (by omega)] at q1
              rw [List.getElem?_append_right (by rw [<- W2.len];omega)] at q2
              have hi0:j - ρ2.length=0:=by
                have:=(List.getElem?_eq_some_iff.mp q1).1
                simp at this;omega
              rw [hi0] at q1
              rw [<- W2.len,hi0] at q2
              simp at q1 q2
              subst q1 q2
              exact ⟨ys,hDs,RepL.gs gU _ _ rd⟩
          . unfold RepV
            exact ⟨D,rfl,by rw [<- W2.len];simp⟩
theorem qT (S:yf X x scope cl caps idx) (hc:X.calm=true) (hi:DX X (.Name x px) iter src)
  (ht:∀ C s₀ H₀ ex,DTs (Z6 X scope cl C (x::caps) s₀ H₀ ex) ifs te) (he:∀ C s₀ H₀ ex,DE (Z6 X scope cl C (x::caps) s₀ H₀ ex) elt f)
  (hs:∀ x,foldedSetIterable iter X.env x=pure x:=by intro _;rfl):DE X (.ListComp elt [⟨.Name x px,iter,ifs,0⟩] scope pos) (ZH nw src idx te f) :=
 L2.PE.imp (gK (tt:=tDT X.K te) (te:=tD X.K f) S hc hi ht he hs) fun _ _ _ h=>q8 h
theorem qY (i:Nat) {y:Str} {py spos:Pos} (hN:X.N.Nodup) (S:yf X x scope cl caps idx) (hc:X.calm=true) (hi:DX X (.Name x px) iter src)
  (ht:∀ C s₀ H₀ ex,DTs (Z6 X scope cl C (x::caps) s₀ H₀ ex) ifs te) (he:∀ C s₀ H₀ ex,DE (Z6 X scope cl C (x::caps) s₀ H₀ ex) elt f)
  (hy:X.N[i]?=some y:=by rfl) (hx:Loc X.env.scope y:=by first | exact Or.inl rfl | exact Or.inr rfl)
  (hsw:swapsWith (.ListComp elt [⟨.Name x px,iter,ifs,0⟩] scope pos) (some (.Name y py)) spos.line X.env=pure true:=by with_unfolding_all rfl)
  (hf:X.fn y=true∨X.env.scope.names.lookup y=some .local:=by first | exact .inl rfl | exact .inr rfl | assumption)
  (hs:∀ x,foldedSetIterable iter X.env x=pure x:=by intro _;rfl):DS X (.Assign [.Name y py] (.ListComp elt [⟨.Name x px,iter,ifs,0⟩] scope pos) spos) (QP i (ZH nw src idx te f)) :=
 L2.PS.imp (gX (tt:=tDT X.K te) (te:=tD X.K f) S hc hi ht he hN hy hx hsw hf hs) fun _ _ _ h=>y4 (fun _ _ _ q=>q8 q) h
end
end D
namespace D
open PySem PySem.Spec PyProof.Rows L2
def WP {α:Type} (m:M α) (hp:Hs) (Q:α->Hs->Prop):Prop:=∃ x hp',m hp=some (x,hp')/\Q x hp'
section
variable {α β:Type} {m:M α} {k:α->M β} {hp:Hs} {Q:α->Hs->Prop} {R:β->Hs->Prop}
theorem WP_pure {x:α}:WP (pure x) hp Q↔Q x hp:=⟨fun ⟨y,h,e,q⟩=>by obtain ⟨rfl,rfl⟩:=Qg e;exact q,fun q=>⟨x,hp,rfl,q⟩⟩
theorem qz:WP (m >>= k) hp R↔WP m hp fun x h=>WP (k x) h R:=⟨fun ⟨y,h,e,q⟩=>by obtain ⟨x,h1,e1,e2⟩:=bind_some e;exact ⟨x,h1,e1,y,h,e2,q⟩,fun ⟨x,h1,e1,y,h,e2,q⟩=>⟨y,h,(Qe e1).trans e2,q⟩⟩
theorem WP.mono {Q':α->Hs->Prop} (h:WP m hp Q) (hq:∀ x h,Q x h->Q' x h):WP m hp Q':=let ⟨x,h1,e,q⟩:=h;⟨x,h1,e,hq x h1 q⟩
theorem WP.of {x:α} {hp':Hs} (e:m hp=some (x,hp')) (q:Q x hp'):WP m hp Q:=⟨x,hp',e,q⟩
end
section
variable {hp:Hs} {env:En} {Q:Fl×En->Hs->Prop}
theorem Qcz {b:DV->DSx} (I:Nat->En->Hs->Prop) (ds:List DV) (h0:I 0 env hp) (hs:∀ (i:Nat) d,ds[i]?=some d->∀ env hp,I i env hp->WP (b d env) hp fun r h=>match r.1 with
    | .nx=>I (i+1) r.2 h
    | .ct=>I (i+1) r.2 h
    | .bk=>Q (.nx,r.2) h
    | .rt x=>Q (.rt x,r.2) h) (he:∀ env hp,I ds.length env hp->Q (.nx,env) hp):WP (G1 b ds env) hp Q:=by
  suffices h:∀ (m i:Nat) env hp,m+i=ds.length->I i env hp->WP (G1 b (ds.drop i) env) hp Q by simpa using h ds.length 0 env hp rfl h0
  intro m
  induction m with
  | zero =>
    intro i env hp e hI
    have:i=ds.length:=by omega
    subst this
    rw [List.drop_length]
    exact WP_pure.mpr (he env hp hI)
  | succ m ih =>
    intro i env hp e hI
    have hlt:i < ds.length:=by omega
    rw [List.drop_eq_getElem_cons hlt,G1,qz]
    refine (hs i ds[i] (List.getElem?_eq_getElem hlt) env hp hI).mono fun r h q=>?_
    obtain ⟨fl,env1⟩:=r
    cases fl with
    | nx=>exact ih (i+1) env1 h (by omega) q
    | ct=>exact ih (i+1) env1 h (by omega) q
    | bk=>exact WP_pure.mpr q
    | rt x=>exact WP_pure.mpr q
theorem jX {nxt:NX} {b:DV->DSx} (ds:List DV) (I:Nat->En->Hs->Prop) (hl:ds.length < 100000) (hn:∀ (i:Nat) env hp,i<=ds.length->I i env hp->nxt i hp=some (ds[i]?,hp)) (h0:I 0 env hp) (hs:∀ (i:Nat) d,ds[i]?=some d->∀ env hp,I i env hp->WP (b d env) hp fun r h=>match r.1 with
    | .nx=>I (i+1) r.2 h
    | .ct=>I (i+1) r.2 h
    | .bk=>Q (.nx,r.2) h
    | .rt x=>Q (.rt x,r.2) h) (he:∀ env hp,I ds.length env hp->Q (.nx,env) hp):WP (J7 nxt b 100000 0 env) hp Q:=by
  suffices h:∀ (m i n:Nat) env hp,m+i=ds.length->m < n->I i env hp->WP (J7 nxt b n i env) hp Q from h ds.length 0 100000 env hp rfl hl h0
  intro m
  induction m with
  | zero =>
    intro i n env hp e hn' hI
    have:i=ds.length:=by omega
    subst this
    obtain ⟨n,rfl⟩:∃ k,n=k+1:=⟨n - 1,by omega⟩
    rw [J7,qz]
    refine WP.of (hn _ env hp (Nat.le_refl _) hI) ?_
    rw [show ds[ds.length]?=none by simp]
    exact WP_pure.mpr (he env hp hI)
  | succ m ih =>
    intro i n env hp e hn' hI
    have hlt:i < ds.length:=by omega
    obtain ⟨n,rfl⟩:∃ k,n=k+1:=⟨n - 1,by omega⟩
    rw [J7,qz]
    refine WP.of (hn i env hp (by omega) hI) ?_
    simp only [List.getElem?_eq_getElem hlt]
    rw [qz]
    refine (hs i ds[i] (List.getElem?_eq_getElem hlt) env hp hI).mono fun r h q=>?_
    obtain ⟨fl,env1⟩:=r
    cases fl with
    | nx=>exact ih (i+1) n env1 h (by omega) (by omega) q
    | ct=>exact ih (i+1) n env1 h (by omega) (by omega) q
    | bk=>exact WP_pure.mpr q
    | rt x=>exact WP_pure.mpr q
theorem qb (ds:List DV) (i:Nat) (h:i<=ds.length) (hp:Hs):nxD ds i hp=some (ds[i]?,hp):=by unfold nxD;rw [if_pos h];rfl
theorem VS {n:Nat} {ds:List DV} {hp:Hs} (h:hp[n]?=some (.lst ds)) (i:Nat):nxW n i hp=some (ds[i]?,hp):=by
 unfold nxW
 have:Q0 n hp=some (.lst ds,hp):=by unfold Q0;rw [h]
 rw [Qe this];rfl
theorem Yk {b:DV->DSx} (ds:List DV) (I:Nat->En->Hs->Prop) (hl:ds.length < 100000) (h0:I 0 env hp) (hs:∀ (i:Nat) d,ds[i]?=some d->∀ env hp,I i env hp->WP (b d env) hp fun r h=>match r.1 with
  | .nx=>I (i+1) r.2 h
  | .ct=>I (i+1) r.2 h
  | .bk=>Q (.nx,r.2) h
  | .rt x=>Q (.rt x,r.2) h) (he:∀ env hp,I ds.length env hp->Q (.nx,env) hp):WP (J7 (nxD ds) b 100000 0 env) hp Q :=
 jX ds I hl (fun i env hp h _=>qb ds i h hp) h0 hs he
end
theorem VD {nxt:NX} {t:DV->M Bool} {f:DV->M DV} {p:Int->Bool} {g:Int->Int} {hp:Hs} (ns:List Int) (hn:∀ i,i<=ns.length->nxt i hp=some ((ns.map DV.int)[i]?,hp)) (ht:∀ x,t (.int x) hp=some (p x,hp)) (hf:∀ x,f (.int x) hp=some (.int (g x),hp)) (hl:ns.length < 100000) :
    ZA nxt t f 100000 0 hp=some (((ns.filter p).map g).map .int,hp):=by
  suffices h:∀ (m i n:Nat),m+i=ns.length->m < n->ZA nxt t f n i hp=some ((((ns.drop i).filter p).map g).map .int,hp) by simpa using h ns.length 0 100000 rfl hl
  intro m
  induction m with
  | zero =>
    intro i n e hn'
    obtain ⟨n,rfl⟩:∃ k,n=k+1:=⟨n - 1,by omega⟩
    have:i=ns.length:=by omega
    subst this
    have e1:=hn ns.length (Nat.le_refl _)
    rw [show (ns.map DV.int)[ns.length]?=none by simp] at e1
    rw [ZA,Qe e1,List.drop_length]
    rfl
  | succ m ih =>
    intro i n e hn'
    obtain ⟨n,rfl⟩:∃ k,n=k+1:=⟨n - 1,by omega⟩
    have hlt:i < ns.length:=by omega
    have e1:=hn i (by omega)
    rw [List.getElem?_map,List.getElem?_eq_getElem hlt] at e1
    have hi:=ih (i+1) n (by omega) (by omega)
    rw [ZA,Qe e1]
    simp only [Option.map_some]
    rw [Qe (ht ns[i]),List.drop_eq_getElem_cons hlt]
    cases q:p ns[i] with
    | false=>rw [List.filter_cons_of_neg (by simp [q])];simpa using hi
    | true =>
      rw [List.filter_cons_of_pos q]
      simp only [if_true]
      rw [Qe (hf ns[i]),Qe hi]
      rfl
theorem Uq (n:Nat) (hp:Hs) (i:Int):drf (n+1) hp (.int i)=some (.int i):=rfl
theorem qB (n:Nat) (hp:Hs) (b:Str):drf (n+1) hp (.str b)=some (.str b):=rfl
theorem Ji {α:Type} {f:α->Option α}:∀ {xs:List α},(∀ x∈xs,f x=some x)->xs.mapM f=some xs
  | [],_=>rfl
  | x::xs,h=>by
    rw [List.mapM_cons,h x (by simp),Ji fun y hy=>h y (List.mem_cons_of_mem _ hy)];rfl
theorem Up {d d':DV} {hp:Hs} (h:drf 40 hp d=some d'):xo d hp=some (d',hp):=by unfold xo;rw [h];rfl
theorem xw {x y x' y':DV} {hp:Hs} (hx:drf 40 hp x=some x') (hy:drf 40 hp y=some y') (s1:okP x'=true) (s2:okP y'=true):Xl x y hp=some (PyData.eqv (toP x') (toP y'),hp):=by
 unfold Xl
 simp only [okP,Bool.and_eq_true] at s1 s2
 rw [Qe (Up hx),Qe (Up hy)]
 simp only [s1.2,s2.2,Bool.and_self,Qz,if_true,pure_bind]
 rfl
theorem GU (i j:Int) (hp:Hs):Xl (.int i) (.int j) hp=some (i==j,hp):=xw (Uq 39 hp i) (Uq 39 hp j) (qG i) (qG j)
end D
namespace D
open PySem PySem.Spec PyProof.Rows L2
theorem ZX (p:Key×DV) (r:List (Key×DV)) (j:Key):Q8 (p::r) j=if p.1=j then some p.2 else Q8 r j:=by
 by_cases e:p.1=j
 ·simp [Q8,List.find?_cons,e]
 ·simp [Q8,List.find?_cons,e]
theorem uv (a b:List (Key×DV)) (j:Key):Q8 (a++b) j=match Q8 a j with
    | some d=>some d
    | none=>Q8 b j:=by
  induction a with
  | nil=>rfl
  | cons p r ih =>
    rw [List.cons_append,ZX,ZX]
    split
    . rfl
    . exact ih
theorem Vk (kvs:List (Key×DV)) (k:Key):(kvs.any fun kv=>decide (kv.1=k))=(Q8 kvs k).isSome:=by
  induction kvs with
  | nil=>rfl
  | cons p r ih =>
    rw [List.any_cons,ZX,ih]
    by_cases e:p.1=k<;>simp [e]
theorem Gg (kvs:List (Key×DV)) (k j:Key) (d:DV):Q8 (kvs.map fun kv=>if kv.1=k then (kv.1,d) else kv) j=(Q8 kvs j).map fun x=>if j=k then d else x:=by
  induction kvs with
  | nil=>rfl
  | cons p r ih =>
    rw [List.map_cons,ZX,ZX,ih]
    by_cases e:p.1=k
    . rw [if_pos e]
      by_cases e2:p.1=j
      . have:j=k:=e2▸e
        simp [e2,this]
      . simp [e2]
    . rw [if_neg e]
      by_cases e2:p.1=j
      . have:¬ j=k:=e2▸e
        simp [e2,this]
      . simp [e2]
theorem Vm (kvs:List (Key×DV)) (k j:Key) (d:DV):Q8 (ZU kvs k d) j=if j=k then some d else Q8 kvs j:=by
  unfold ZU
  rw [Vk]
  cases q:Q8 kvs k with
  | none =>
    rw [if_neg (by simp),uv,ZX]
    by_cases e:j=k
    . subst e;simp [q]
    . rw [if_neg e,if_neg (Ne.symm e)]
      cases Q8 kvs j<;>rfl
  | some x =>
    rw [if_pos (show (some x).isSome=true from rfl),Gg]
    by_cases e:j=k
    . subst e;simp [q]
    . simp only [if_neg e]
      cases Q8 kvs j<;>rfl
theorem yX (kvs:List (Key×DV)) (k:Key) (d:DV):(ZU kvs k d).length<=kvs.length+1:=by
 unfold ZU;split<;>simp
theorem QO {n:Nat} {o:OV} {hp:Hs} (h:hp[n]?=some o):Q0 n hp=some (o,hp):=by unfold Q0;rw [h]
theorem vQ {n:Nat} {kvs:List (Key×DV)} {hp:Hs} {i d:DV} {k:Key} (h:hp[n]?=some (.dic kvs)) (hk:jc i=some k) (hl:kvs.length < 100000):Qbm (.ref n) i d hp=some ((),hp.set n (.dic (ZU kvs k d))):=by
 show (Q0 n >>= _) hp=_
 rw [Qe (QO h)]
 have e1:JD i hp=some (k,hp):=by unfold JD;rw [hk];rfl
 have e2:Qz (decide (kvs.length < lim)) hp=some ((),hp):=by rw [show decide (kvs.length < lim)=true from decide_eq_true hl];rfl
 show (JD i >>= fun k=>Qz (decide (kvs.length < lim)) >>= fun _=>YN n (.dic (ZU kvs k d))) hp=_
 rw [Qe e1,Qe e2];rfl
theorem kr {f:DEx} {g:DGx} {env env':En} {d:DV} {hp hp1 hp2:Hs} (h:f env hp=some (d,hp1)) (h':g d env hp1=some (env',hp2)):zL f g env hp=some ((.nx,env'),hp2):=by
 unfold zL
 rw [Qe h,Qe h'];rfl
theorem Ze {α:Type} {m:M α} {x:α} (h:m=pure x) (hp:Hs):m hp=some (x,hp):=by rw [h];rfl
theorem vV {c:DTx} {f g:DSx} {env:En} {b:Bool} {hp hp1:Hs} (h:c env hp=some (b,hp1)):sIf c f g env hp=if b=true then f env hp1 else g env hp1:=by
 unfold sIf
 rw [Qe h]
 cases b<;>rfl
theorem QU {f:DEx} {env:En} {b:Bool} {hp hp1:Hs} (h:f env hp=some (.bl b,hp1)):eB f env hp=some (b,hp1):=by
 unfold eB
 rw [Qe h];rfl
theorem Qp {g:DV->DV->M DV} {f f':DEx} {env:En} {x y d:DV} {hp hp1 hp2 hp3:Hs} (h:f env hp=some (x,hp1)) (h':f' env hp1=some (y,hp2)) (hg:g x y hp2=some (d,hp3)):Qh g f f' env hp=some (d,hp3):=by
 unfold Qh
 rw [Qe h,Qe h',hg]
theorem QL {f:DEx} {env:En} {d:DV} {hp hp1:Hs} (h:f env hp=some (d,hp1)):Q7 f env hp=some ((.rt d,env),hp1):=by
 unfold Q7
 rw [Qe h];rfl
theorem Z4 {f g:DSx} {env env1:En} {d:DV} {hp hp1:Hs} (h:f env hp=some ((.rt d,env1),hp1)):QB f g env hp=some ((.rt d,env1),hp1):=by
 unfold QB
 rw [Qe h];rfl
theorem ZL {f:DEx} {env:En} {d:DV} {hp hp1:Hs} (h:f env hp=some (d,hp1)):Jp f env hp=some ((.nx,env),hp1):=by
 unfold Jp
 rw [Qe h];rfl
theorem QK {n:Nat} {body:DSx} {ds:List DV} {d:DV} {env:En} {hp hp1:Hs} (h:body (ds.map .val++List.replicate (n - ds.length) .un) hp=some ((.rt d,env),hp1)):Zm n body ds hp=some (d,hp1):=by
 unfold Zm
 rw [Qe h];rfl
theorem JQ {c:DTx} {env:En} {b:Bool} {hp hp1:Hs} (h:c env hp=some (b,hp1)):Xj c env hp=some (!b,hp1):=by
 unfold Xj
 rw [Qe h];rfl
theorem GM {f g:DEx} {env:En} {b:Bool} {hp hp1:Hs} (h:f env hp=some (.bl b,hp1)):jw f g env hp=if b=true then g env hp1 else some (.bl false,hp1):=by
 unfold jw
 rw [Qe h]
 cases b<;>rfl
end D
namespace TS
open PySem PyProof.Rows
def gal:Bool->Keyed->Array Keyed->Nat->Nat->Nat->StateT SortSt Sem (Option Nat):=sortPriv% PySem.Builtin.gallop
def mLo:Array Keyed->Array Keyed->StateT SortSt Sem (Array Keyed):=sortPriv% PySem.Builtin.mergeLo
def mHi:Array Keyed->Array Keyed->StateT SortSt Sem (Array Keyed):=sortPriv% PySem.Builtin.mergeHi
def Yf:Nat->StateT SortSt Sem Unit:=sortPriv% PySem.Builtin.setMinGallop
def mAt:Nat->StateT SortSt Sem Bool:=mergeAt'
structure Cmp where
 key:Keyed->Int
 kd:SortKind
 S:Keyed->Prop
 prog:Program
 w:World
 A:Around
 E:Value->Shared->Prop
 s:Shared
 lt:∀ (st:SortSt) (p q:Keyed) (Q:Option Bool->SortSt->Prop),S p->S q->kindOf st=kd->Q (some (decide (key p < key q))) st->wpS (model prog w) A E s (lt' p q) Q st
variable {C:Cmp}
abbrev W (C:Cmp) {σ α:Type} (m:StateT σ Sem α) (Q:α->σ->Prop) (st:σ):Prop:=wpS (model C.prog C.w) C.A C.E C.s m Q st
def kx (C:Cmp) (xs:Array Keyed) (i:Nat):Int:=((xs[i]?).map C.key).getD 0
structure Ok (C:Cmp) (st:SortSt):Prop where
 kind:kindOf st=C.kd
 fine:failedOf st=none
 mem:∀ p∈(arrOf st).toList,C.S p
theorem QW {xs:Array Keyed} {i:Nat} {Q:Keyed->SortSt->Prop} {st:SortSt} (hi:i < xs.size) (h:Q xs[i] st):W C (elem' xs i) Q st:=by
 rw [elem'_eq,getElem?_pos xs i hi];exact wpS_pure h
theorem Zi (xs:Array Keyed) {i:Nat} (hi:i < xs.size):kx C xs i=C.key xs[i]:=by unfold kx;rw [getElem?_pos xs i hi];rfl
theorem Y7 {st:SortSt} {i j:Nat} {Q:Option Bool->SortSt->Prop} (g:Ok C st) (hi:i < (arrOf st).size) (hj:j < (arrOf st).size) (h:Q (some (decide (kx C (arrOf st) i < kx C (arrOf st) j))) st):W C (ltAt' i j) Q st:=by
 rw [ltAt'_eq]
 refine wpS_bind (wpS_get (wpS_bind (QW hi (wpS_bind (QW hj ?_)))))
 refine C.lt st _ _ Q (g.mem _ (by simp)) (g.mem _ (by simp)) g.kind ?_
 rw [<- Zi _ hi,<- Zi _ hj];exact h
theorem QaB (left:Bool) (key:Keyed) (arr:Array Keyed) (base n hint:Nat):gal left key arr base n hint=(do
  let bey (i:Nat):StateT SortSt Sem (Option Bool):=do
   let x <- elem' arr (base+i)
   if left then lt' x key else return (<- lt' key x).map (!·)
  let mut last:=0
  let mut ofs:=1
  let mut lo:=0
  let mut hi:=0
  let some right <- bey hint | return none
  if right then
   let most:=n - hint
   for _ in [0:n] do
    if ofs≥most then break
    let some more <- bey (hint+ofs) | return none
    if !more then break
    last:=ofs
    ofs:=2 * ofs+1
   lo:=hint+last+1
   hi:=hint+min ofs most
  else
   let most:=hint+1
   for _ in [0:n] do
    if ofs≥most then break
    let some found <- bey (hint - ofs) | return none
    if found then break
    last:=ofs
    ofs:=2 * ofs+1
   lo:=hint+1 - min ofs most
   hi:=hint - last
  for _ in [0:n] do
   if lo≥hi then break
   let m:=lo+(hi - lo) / 2
   let some more <- bey m | return none
   if more then lo:=m+1 else hi:=m
  return some hi):=rfl
def Qal (left:Bool) (key:Keyed) (arr:Array Keyed) (base i:Nat):StateT SortSt Sem (Option Bool):=do
 let x <- elem' arr (base+i)
 if left then lt' x key else return (<- lt' key x).map (!·)
def QbD (left:Bool) (key:Keyed) (arr:Array Keyed) (base n l h:Nat):StateT SortSt Sem (Option Nat):=do
 let mut lo:=l
 let mut hi:=h
 for _ in [0:n] do
  if lo≥hi then break
  let m:=lo+(hi - lo) / 2
  let some more <- Qal left key arr base m | return none
  if more then lo:=m+1 else hi:=m
 return some hi
theorem JC {left:Bool} {key:Keyed} {arr:Array Keyed} {base n hint:Nat} {Q:Option Nat->SortSt->Prop} {st:SortSt} (T:Nat->Bool) (hk:kindOf st=C.kd) (hkey:C.S key) (hS:∀ p∈arr.toList,C.S p) (hb:base+n<=arr.size) (hh:hint < n)
    (hT:∀ i,i < n->T i=if left then decide (kx C arr (base+i) < C.key key) else !decide (C.key key < kx C arr (base+i))) (mono:∀ i j,i<=j->j < n->T j=true->T i=true)
    (h:∀ hi,hi<=n->(∀ i,i < hi->T i=true)->(∀ i,hi<=i->i < n->T i=false)->Q (some hi) st):W C (gal left key arr base n hint) Q st:=by
  have bey:∀ (i:Nat) (R:Option Bool->SortSt->Prop),i < n->R (some (T i)) st->W C (Qal left key arr base i) R st:=by
    intro i R hi hR
    have hlt:base+i < arr.size:=by omega
    unfold Qal
    refine wpS_bind (QW hlt ?_)
    have hm:C.S arr[base+i]:=hS _ (by simp)
    rw [hT i hi,Zi _ hlt] at hR
    cases left with
    | true =>
      simp only [if_true] at hR ⊢
      exact C.lt st _ _ R hm hkey hk hR
    | false =>
      simp only [Bool.false_eq_true,if_false] at hR ⊢
      exact wpS_bind (C.lt st _ _ _ hkey hm hk (wpS_pure hR))
  have bin:∀ lo hi,lo<=hi->hi<=n->(∀ i,i < lo->T i=true)->(∀ i,hi<=i->i < n->T i=false)->W C (QbD left key arr base n lo hi) Q st:=by
    intro lo hi hlh hin hl hr
    unfold QbD
    dsimp only
    refine wpS_bind (wpS_mono (wpS_forRange (I:=fun x c st'=>st'=st/\∃ lo hi,c=(none,lo,hi)/\lo<=hi/\hi<=n/\hi - lo<=n - x/\(∀ i,i < lo->T i=true)/\(∀ i,hi<=i->i < n->T i=false))
      (Q:=fun c st'=>st'=st/\∃ hi lo,c=(none,lo,hi)/\hi<=n/\(∀ i,i < hi->T i=true)/\(∀ i,hi<=i->i < n->T i=false)) ?step ?fin ⟨rfl,lo,hi,rfl,hlh,hin,by omega,hl,hr⟩) ?post)
    case post =>
      rintro c st' ⟨rfl,hi,lo,rfl,h1,h2,h3⟩
      exact wpS_pure (h hi h1 h2 h3)
    case fin =>
      rintro c st' ⟨rfl,lo,hi,rfl,h1,h2,h3,h4,h5⟩
      have:lo=hi:=by omega
      subst this
      exact ⟨rfl,lo,lo,rfl,h2,h4,h5⟩
    case step =>
      rintro x c st' _ hx ⟨rfl,lo,hi,rfl,h1,h2,h3,h4,h5⟩
      dsimp only
      by_cases q:lo≥hi
      . rw [if_pos q]
        have:lo=hi:=by omega
        subst this
        exact wpS_pure ⟨rfl,lo,lo,rfl,h2,h4,h5⟩
      . rw [if_neg q]
        refine wpS_bind (bey _ _ (by omega) ?_)
        dsimp only
        cases hm:T (lo+(hi - lo) / 2) with
        | true =>
          simp only [if_true]
          refine wpS_pure ⟨rfl,_,hi,rfl,by omega,h2,by omega,fun i hi'=>?_,h5⟩
          exact mono i (lo+(hi - lo) / 2) (by omega) (by omega) hm
        | false =>
          simp only [Bool.false_eq_true,if_false]
          refine wpS_pure ⟨rfl,lo,_,rfl,by omega,by omega,by omega,h4,fun i h6 h7=>?_⟩
          cases ht:T i with
          | false=>rfl
          | true=>rw [mono _ i h6 h7 ht] at hm;cases hm
  rw [QaB]
  dsimp only
  refine wpS_bind (bey hint _ hh ?_)
  dsimp only
  cases hr:T hint with
  | true =>
    simp only [if_true]
    refine wpS_bind (wpS_mono (wpS_forRange (I:=fun x c st'=>st'=st/\∃ last ofs,c=(none,last,ofs)/\last < ofs/\x+1<=ofs/\hint+last < n/\T (hint+last)=true)
      (Q:=fun c st'=>st'=st/\∃ last ofs,c=(none,last,ofs)/\last < ofs/\hint+last < n/\T (hint+last)=true/\(n - hint<=ofs∨T (hint+ofs)=false)) ?step ?fin ⟨rfl,0,1,rfl,by omega,by omega,by omega,hr⟩) ?post)
    case fin =>
      rintro c st' ⟨rfl,last,ofs,rfl,h1,h2,h3,h4⟩
      exact ⟨rfl,last,ofs,rfl,h1,h3,h4,.inl (by omega)⟩
    case step =>
      rintro x c st' _ hx ⟨rfl,last,ofs,rfl,h1,h2,h3,h4⟩
      dsimp only
      by_cases q:ofs≥n - hint
      . rw [if_pos q]
        exact wpS_pure ⟨rfl,last,ofs,rfl,h1,h3,h4,.inl q⟩
      . rw [if_neg q]
        refine wpS_bind (bey _ _ (by omega) ?_)
        dsimp only
        cases hm:T (hint+ofs) with
        | true =>
          simp only [Bool.not_true,Bool.false_eq_true,if_false]
          exact wpS_pure ⟨rfl,ofs,2 * ofs+1,rfl,by omega,by omega,by omega,hm⟩
        | false =>
          simp only [Bool.not_false,if_true]
          exact wpS_pure ⟨rfl,last,ofs,rfl,h1,h3,h4,.inr hm⟩
    case post =>
      rintro c st' ⟨rfl,last,ofs,rfl,h1,h2,h3,h4⟩
      dsimp only
      refine bin (hint+last+1) (hint+min ofs (n - hint)) (by omega) (by omega) (fun i hi=>mono i (hint+last) (by omega) h2 h3) fun i h5 h6=>?_
      rcases h4 with q | q
      . omega
      . cases ht:T i with
        | false=>rfl
        | true=>rw [mono _ i (by omega) h6 ht] at q;cases q
  | false =>
    simp only [Bool.false_eq_true,if_false]
    refine wpS_bind (wpS_mono (wpS_forRange (I:=fun x c st'=>st'=st/\∃ last ofs,c=(none,last,ofs)/\last < ofs/\x+1<=ofs/\last<=hint/\T (hint - last)=false)
      (Q:=fun c st'=>st'=st/\∃ last ofs,c=(none,last,ofs)/\last < ofs/\last<=hint/\T (hint - last)=false/\(hint+1<=ofs∨(ofs<=hint/\T (hint - ofs)=true))) ?step ?fin ⟨rfl,0,1,rfl,by omega,by omega,by omega,hr⟩) ?post)
    case fin =>
      rintro c st' ⟨rfl,last,ofs,rfl,h1,h2,h3,h4⟩
      exact ⟨rfl,last,ofs,rfl,h1,h3,h4,.inl (by omega)⟩
    case step =>
      rintro x c st' _ hx ⟨rfl,last,ofs,rfl,h1,h2,h3,h4⟩
      dsimp only
      by_cases q:ofs≥hint+1
      . rw [if_pos q]
        exact wpS_pure ⟨rfl,last,ofs,rfl,h1,h3,h4,.inl q⟩
      . rw [if_neg q]
        refine wpS_bind (bey _ _ (by omega) ?_)
        dsimp only
        cases hm:T (hint - ofs) with
        | true =>
          simp only [if_true]
          exact wpS_pure ⟨rfl,last,ofs,rfl,h1,h3,h4,.inr ⟨by omega,hm⟩⟩
        | false =>
          simp only [Bool.false_eq_true,if_false]
          exact wpS_pure ⟨rfl,ofs,2 * ofs+1,rfl,by omega,by omega,by omega,hm⟩
    case post =>
      rintro c st' ⟨rfl,last,ofs,rfl,h1,h2,h3,h4⟩
      dsimp only
      refine bin (hint+1 - min ofs (hint+1)) (hint - last) (by omega) (by omega) (fun i hi=>?_) fun i h5 h6=>?_
      . rcases h4 with q | ⟨q1,q2⟩
        . omega
        . exact mono i (hint - ofs) (by omega) (by omega) q2
      . cases ht:T i with
        | false=>rfl
        | true=>rw [mono _ i h5 h6 ht] at h3;cases h3
end TS
namespace TS
open PySem PyProof.Rows
variable {C:Cmp}
def Srt (C:Cmp) (l:List Keyed):Prop:=l.Pairwise fun p q=>C.key p<=C.key q
def Sm (st st':SortSt):Prop:=kindOf st'=kindOf st/\arrOf st'=arrOf st/\pendingOf st'=pendingOf st/\failedOf st'=failedOf st
theorem Sm.refl (st:SortSt):Sm st st:=⟨rfl,rfl,rfl,rfl⟩
theorem YM {g:Nat} {st₀ st:SortSt} {Q:Unit->SortSt->Prop} (hs:Sm st₀ st) (h:∀ st',Sm st₀ st'->Q () st'):W C (Yf g) Q st:=by
 show W C (modify (fun s=>SortSt.mk' (kindOf s) (arrOf s) (pendingOf s) g (failedOf s)):StateT SortSt Sem Unit) Q st
 exact wpS_modify (h _ hs)
theorem qd {x:String} {st:SortSt} {Q:Unit->SortSt->Prop} (h:Q () st):W C (liftM (rule x):StateT SortSt Sem Unit) Q st:=wpS_lift (wpAny_rule ⟨rfl,h⟩)
structure MI (C:Cmp) (A B out:List Keyed) (i j:Nat):Prop where
 perm:(out++(A.drop i++B.drop j)).Perm (A++B)
 srt:Srt C out
 low:∀ x∈out,∀ y∈A.drop i++B.drop j,C.key x<=C.key y
section
variable {A B out:List Keyed} {i j:Nat}
theorem Srt.drop (h:Srt C A) (n:Nat):Srt C (A.drop n):=List.Pairwise.sublist (List.drop_sublist _ _) h
theorem Srt.take (h:Srt C A) (n:Nat):Srt C (A.take n):=List.Pairwise.sublist (List.take_sublist _ _) h
theorem Srt.app (h:Srt C A) (h':Srt C B) (hb:∀ x∈A,∀ y∈B,C.key x<=C.key y):Srt C (A++B):=List.pairwise_append.mpr ⟨h,h',hb⟩
theorem MI.takeA (m:MI C A B out i j) (hA:Srt C A) (k:Nat) (h:∀ x∈(A.drop i).take k,∀ y∈B.drop j,C.key x<=C.key y):MI C A B (out++(A.drop i).take k) (i+k) j:=by
 have e:A.drop i=(A.drop i).take k++A.drop (i+k):=by rw [<- List.drop_drop,List.take_append_drop]
 have hd:=hA.drop i
 rw [e] at hd
 obtain ⟨_,_,h3⟩:=List.pairwise_append.mp hd
 refine ⟨?_,m.srt.app ((hA.drop i).take k) fun x hx y hy=>m.low x hx y (List.mem_append_left _ (List.mem_of_mem_take hy)),fun x hx y hy=>?_⟩
 ·have:=m.perm
  rw [e] at this
  simpa [List.append_assoc] using this
 ·rcases List.mem_append.mp hx with q | q
  ·refine m.low x q y ?_
   rcases List.mem_append.mp hy with z | z
   ·exact List.mem_append_left _ (by rw [e];exact List.mem_append_right _ z)
   ·exact List.mem_append_right _ z
  ·rcases List.mem_append.mp hy with z | z
   ·exact h3 x q y z
   ·exact h x q y z
theorem MI.takeB (m:MI C A B out i j) (hB:Srt C B) (k:Nat) (h:∀ x∈(B.drop j).take k,∀ y∈A.drop i,C.key x<=C.key y):MI C A B (out++(B.drop j).take k) i (j+k):=by
 have e:B.drop j=(B.drop j).take k++B.drop (j+k):=by rw [<- List.drop_drop,List.take_append_drop]
 have hd:=hB.drop j
 rw [e] at hd
 obtain ⟨_,_,h3⟩:=List.pairwise_append.mp hd
 refine ⟨?_,m.srt.app ((hB.drop j).take k) fun x hx y hy=>m.low x hx y (List.mem_append_right _ (List.mem_of_mem_take hy)),fun x hx y hy=>?_⟩
 ·refine List.Perm.trans ?_ m.perm
  rw [List.append_assoc]
  refine List.Perm.append_left _ ?_
  generalize (B.drop j).take k=ch at e ⊢
  rw [e,<- List.append_assoc,<- List.append_assoc]
  exact List.Perm.append_right _ List.perm_append_comm
 ·rcases List.mem_append.mp hx with q | q
  ·refine m.low x q y ?_
   rcases List.mem_append.mp hy with z | z
   ·exact List.mem_append_left _ z
   ·exact List.mem_append_right _ (by rw [e];exact List.mem_append_right _ z)
  ·rcases List.mem_append.mp hy with z | z
   ·exact h x q y z
   ·exact h3 x q y z
def Fin (C:Cmp) (A B r:List Keyed):Prop:=Srt C r/\r.Perm (A++B)
theorem MI.endB (m:MI C A B out i j) (hA:Srt C A) (h:B.length<=j):Fin C A B (out++A.drop i++B.drop j):=by
 have e:B.drop j=[]:=List.drop_of_length_le h
 refine ⟨?_,by have:=m.perm;simpa [List.append_assoc] using this⟩
 rw [e,List.append_nil]
 exact m.srt.app (hA.drop i) fun x hx y hy=>m.low x hx y (List.mem_append_left _ hy)
theorem MI.endA (m:MI C A B out i j) (hB:Srt C B) (h:A.length<=i):Fin C A B (out++A.drop i++B.drop j):=by
 have e:A.drop i=[]:=List.drop_of_length_le h
 refine ⟨?_,by have:=m.perm;simpa [List.append_assoc] using this⟩
 rw [e,List.append_nil]
 exact m.srt.app (hB.drop j) fun x hx y hy=>m.low x hx y (List.mem_append_right _ hy)
theorem MI.lastA (m:MI C A B out i j) (hA:Srt C A) (hB:Srt C B) (hl:∀ x∈A.drop (A.length - 1),∀ y∈B,C.key y<=C.key x) (h:i+1=A.length):Fin C A B (out++B.drop j++A.drop i):=by
 have e:A.length - 1=i:=by omega
 rw [e] at hl
 refine ⟨?_,?_⟩
 ·refine (m.srt.app (hB.drop j) fun x hx y hy=>m.low x hx y (List.mem_append_right _ hy)).app (hA.drop i) fun x hx y hy=>?_
  rcases List.mem_append.mp hx with q | q
  ·exact m.low x q y (List.mem_append_left _ hy)
  ·exact hl y hy x (List.mem_of_mem_drop q)
 ·refine List.Perm.trans ?_ m.perm
  rw [List.append_assoc]
  exact List.Perm.append_left _ List.perm_append_comm
end
theorem QaS (a b:Array Keyed):mLo a b=(do
  rule "list.sort.merge-lo"
  let all:=a.size+b.size
  let fin (res:Array Keyed) (i j:Nat):=res++a.extract i a.size++b.extract j b.size
  let lst (res:Array Keyed) (i j:Nat):=res++b.extract j b.size++a.extract i a.size
  let mut res:Array Keyed:=#[<- elem' b 0]
  let mut i:=0
  let mut j:=1
  if j==b.size then return fin res i j
  if i+1==a.size then return lst res i j
  let mut mg:=gallopOf (<- get)
  for _ in [0:all] do
   let mut ac:=0
   let mut bc:=0
   for _ in [0:all] do
    let some bw <- lt' (<- elem' b j) (<- elem' a i) | return fin res i j
    if bw then
     res:=res.push (<- elem' b j);j:=j+1;bc:=bc+1;ac:=0
     if j==b.size then return fin res i j
     if bc≥mg then break
    else
     res:=res.push (<- elem' a i);i:=i+1;ac:=ac+1;bc:=0
     if i+1==a.size then return lst res i j
     if ac≥mg then break
   rule "list.sort.gallop"
   mg:=mg+1
   for _ in [0:all] do
    if mg > 1 then mg:=mg - 1
    Yf mg
    let some k <- gal false (<- elem' b j) a i (a.size - i) 0 | return fin res i j
    ac:=k
    if k > 0 then
     res:=res++a.extract i (i+k);i:=i+k
     if i+1==a.size then return lst res i j
     if i==a.size then return fin res i j
    res:=res.push (<- elem' b j);j:=j+1
    if j==b.size then return fin res i j
    let some k <- gal true (<- elem' a i) b j (b.size - j) 0 | return fin res i j
    bc:=k
    if k > 0 then
     res:=res++b.extract j (j+k);j:=j+k
     if j==b.size then return fin res i j
    res:=res.push (<- elem' a i);i:=i+1
    if i+1==a.size then return lst res i j
    if ac < 7&&bc < 7 then break
   mg:=mg+1
   Yf mg
  unsupported "internal:list.sort.merge-bound"):=rfl
abbrev GS:=Option (Array Keyed)×Array Keyed×Nat×Nat×Nat×Nat×Nat
def lo4 (a b:Array Keyed) (mg ac bc:Nat) (res:Array Keyed) (i j:Nat):StateT SortSt Sem (ForInStep GS):=do
 let x <- elem' a i
 if (i+1+1==a.size)=true then pure (.done (some (res.push x++b.extract j b.size++a.extract (i+1) a.size),res.push x,i+1,j,mg,ac,bc))
 else if (decide (ac < 7)&&decide (bc < 7))=true then pure (.done (none,res.push x,i+1,j,mg,ac,bc)) else pure (.yield (none,res.push x,i+1,j,mg,ac,bc))
def lo3 (a b:Array Keyed) (mg ac bc:Nat) (res:Array Keyed) (i j:Nat):StateT SortSt Sem (ForInStep GS):=do
 let y <- elem' a i
 let z <- gal true y b j (b.size - j) 0
 match z with
 | some k=>(if k > 0 then (if (j+k==b.size)=true then pure (.done (some (res++b.extract j (j+k)++a.extract i a.size++b.extract (j+k) b.size),res++b.extract j (j+k),i,j+k,mg,ac,k)) else lo4 a b mg ac k (res++b.extract j (j+k)) i (j+k)) else lo4 a b mg ac k res i j:StateT SortSt Sem (ForInStep GS))
 | _=>pure (.done (some (res++a.extract i a.size++b.extract j b.size),res,i,j,mg,ac,bc))
def lo2 (a b:Array Keyed) (mg ac bc:Nat) (res:Array Keyed) (i j:Nat):StateT SortSt Sem (ForInStep GS):=do
 let y <- elem' b j
 if (j+1==b.size)=true then pure (.done (some (res.push y++a.extract i a.size++b.extract (j+1) b.size),res.push y,i,j+1,mg,ac,bc))
 else lo3 a b mg ac bc (res.push y) i (j+1)
def lo1 (a b:Array Keyed) (mg ac bc:Nat) (res:Array Keyed) (i j:Nat):StateT SortSt Sem (ForInStep GS):=do
 Yf mg
 let y <- elem' b j
 let z <- gal false y a i (a.size - i) 0
 match z with
 | some k=>(if k > 0 then (if (i+k+1==a.size)=true then pure (.done (some (res++a.extract i (i+k)++b.extract j b.size++a.extract (i+k) a.size),res++a.extract i (i+k),i+k,j,mg,k,bc))
   else if (i+k==a.size)=true then pure (.done (some (res++a.extract i (i+k)++a.extract (i+k) a.size++b.extract j b.size),res++a.extract i (i+k),i+k,j,mg,k,bc))
   else lo2 a b mg k bc (res++a.extract i (i+k)) (i+k) j) else lo2 a b mg k bc res i j:StateT SortSt Sem (ForInStep GS))
 | _=>pure (.done (some (res++a.extract i a.size++b.extract j b.size),res,i,j,mg,ac,bc))
section
variable {a b res:Array Keyed} {i j k:Nat}
theorem ZM (a:Array Keyed) (i:Nat):(a.extract i a.size).toList=a.toList.drop i:=by
 simp [Array.toList_extract,List.extract_eq_take_drop]
 exact List.take_of_length_le (by simp)
theorem jA (a:Array Keyed) (i k:Nat):(a.extract i (i+k)).toList=(a.toList.drop i).take k:=by
 simp [Array.toList_extract,List.extract_eq_take_drop]
theorem Z8 (a:Array Keyed) {i:Nat} (h:i < a.size):(a.toList.drop i).take 1=[a[i]]:=by
 rw [List.drop_eq_getElem_cons (by simpa using h)];simp
theorem Xo {x:Keyed} (h:x∈(a.toList.drop i).take k):∃ t,t < k/\∃ q:i+t < a.size,x=a[i+t]:=by
 obtain ⟨t,ht,e⟩:=List.getElem_of_mem h
 have h1:t < k:=by simp at ht;omega
 have h2:i+t < a.size:=by simp at ht;omega
 exact ⟨t,h1,h2,by rw [<- e];simp [List.getElem_take,List.getElem_drop]⟩
theorem Y8 {x:Keyed} (h:x∈a.toList.drop i):∃ t,i<=t/\∃ q:t < a.size,x=a[t]:=by
 obtain ⟨t,ht,e⟩:=List.getElem_of_mem h
 have h2:i+t < a.size:=by simp at ht;omega
 exact ⟨i+t,by omega,h2,by rw [<- e];simp [List.getElem_drop]⟩
theorem J2 (h:Srt C a.toList) {s t:Nat} (hst:s<=t) (ht:t < a.size):C.key (a[s]'(by omega))<=C.key a[t]:=by
 rcases Nat.lt_or_ge s t with q | q
 ·have:=List.pairwise_iff_getElem.mp h s t (by simp;omega) (by simpa using ht) q
  simpa using this
 ·have:s=t:=by omega
  subst this;exact Int.le_refl _
theorem zW (h:Srt C a.toList) {s t:Nat} (hst:s<=t) (ht:t < a.size):kx C a s<=kx C a t:=by
 rw [Zi a (by omega),Zi a ht];exact J2 h hst ht
end
structure Two (C:Cmp) (a b:Array Keyed):Prop where
 sa:Srt C a.toList
 sb:Srt C b.toList
 ma:∀ p∈a.toList,C.S p
 mb:∀ p∈b.toList,C.S p
 na:1<=a.size
 nb:1<=b.size
 first:∀ y∈a.toList,∀ x∈b.toList.take 1,C.key x<=C.key y
 last:∀ x∈a.toList.drop (a.size - 1),∀ y∈b.toList,C.key y<=C.key x
section
variable {a b:Array Keyed} {st₀:SortSt} {n0:Nat}
def yg (C:Cmp) (a b:Array Keyed) (st₀:SortSt) (r:Option (Array Keyed)) (st':SortSt):Prop:=Sm st₀ st'/\∃ x,r=some x/\Fin C a.toList b.toList x.toList
def GoG (C:Cmp) (a b:Array Keyed) (st₀:SortSt) (n0:Nat) (r:Option (Array Keyed)) (res:Array Keyed) (i j:Nat) (st':SortSt):Prop:=Sm st₀ st'/\r=none/\MI C a.toList b.toList res.toList i j/\i+1 < a.size/\j < b.size/\n0 < i+j
def Ug (C:Cmp) (a b:Array Keyed) (st₀:SortSt) (n0:Nat) (r:ForInStep GS) (st':SortSt):Prop:=match r with
 | .done c=>yg C a b st₀ c.1 st'∨GoG C a b st₀ n0 c.1 c.2.1 c.2.2.1 c.2.2.2.1 st'
 | .yield c=>GoG C a b st₀ n0 c.1 c.2.1 c.2.2.1 c.2.2.2.1 st'
variable {mg ac bc i j:Nat} {res:Array Keyed} {st:SortSt}
theorem kZ (T:Two C a b) (hs:Sm st₀ st) (m:MI C a.toList b.toList res.toList i j) (hi:i+1 < a.size) (hj:j < b.size) (hn:n0<=i+j) (hc:∀ y∈b.toList.drop j,C.key (a[i]'(by omega))<=C.key y):W C (lo4 a b mg ac bc res i j) (Ug C a b st₀ n0) st:=by
 have hi':i < a.size:=by omega
 refine wpS_bind (QW hi' ?_)
 have m':=m.takeA T.sa 1 (fun x hx y hy=>by rw [Z8 a hi'] at hx;rw [List.mem_singleton.mp hx];exact hc y hy)
 rw [Z8 a hi',<- Array.toList_push] at m'
 by_cases q:i+1+1=a.size
 ·rw [if_pos (by simpa using q)]
  refine wpS_pure (.inl ⟨hs,_,rfl,?_⟩)
  rw [Array.toList_append,Array.toList_append,ZM,ZM]
  exact m'.lastA T.sa T.sb (by simpa using T.last) (by simpa using q)
 ·rw [if_neg (by simpa using q)]
  have g:GoG C a b st₀ n0 none (res.push a[i]) (i+1) j st:=⟨hs,rfl,m',by omega,hj,by omega⟩
  split
  ·exact wpS_pure (.inr g)
  ·exact wpS_pure g
theorem QbV (T:Two C a b) (hk:kindOf st=C.kd) (hs:Sm st₀ st) (m:MI C a.toList b.toList res.toList i j) (hi:i+1 < a.size) (hj:j < b.size) (hn:n0<=i+j):W C (lo3 a b mg ac bc res i j) (Ug C a b st₀ n0) st:=by
 have hi':i < a.size:=by omega
 refine wpS_bind (QW hi' (wpS_bind (JC (fun t=>decide (kx C b (j+t) < C.key a[i])) hk (T.ma _ (by simp)) T.mb (by omega) (by omega) (fun t _=>rfl) (fun s t h1 h2 h3=>?_) fun k h1 h2 h3=>?_)))
 ·exact decide_eq_true (Int.lt_of_le_of_lt (zW T.sb (by omega) (by omega)) (of_decide_eq_true h3))
 ·dsimp only
  have lowc:∀ x∈(b.toList.drop j).take k,C.key x < C.key a[i]:=fun x hx=>by
   obtain ⟨t,ht,q,rfl⟩:=Xo hx
   have:=of_decide_eq_true (h2 t ht)
   rwa [Zi b q] at this
  have m':=m.takeB T.sb k (fun x hx y hy=>by
   obtain ⟨t,ht,q,rfl⟩:=Y8 hy
   have:=lowc x hx
   have:=J2 T.sa ht q
   omega)
  have hc:∀ y∈b.toList.drop (j+k),C.key a[i]<=C.key y:=fun y hy=>by
   obtain ⟨t,ht,q,rfl⟩:=Y8 hy
   have:=of_decide_eq_false (h3 (t - j) (by omega) (by omega))
   rw [show j+(t - j)=t by omega,Zi b q] at this
   omega
  by_cases hk0:k > 0
  ·rw [if_pos hk0]
   by_cases q:j+k=b.size
   ·rw [if_pos (by simpa using q)]
    refine wpS_pure (.inl ⟨hs,_,rfl,?_⟩)
    rw [Array.toList_append,Array.toList_append,Array.toList_append,ZM,ZM,jA]
    exact m'.endB T.sa (by simp;omega)
   ·rw [if_neg (by simpa using q)]
    refine kZ T hs ?_ hi (by omega) (by omega) hc
    rw [Array.toList_append,jA];exact m'
  ·rw [if_neg hk0]
   have:k=0:=by omega
   subst this
   exact kZ T hs m hi hj hn hc
theorem kY (T:Two C a b) (hk:kindOf st=C.kd) (hs:Sm st₀ st) (m:MI C a.toList b.toList res.toList i j) (hi:i+1 < a.size) (hj:j < b.size) (hn:n0<=i+j) (hc:∀ y∈a.toList.drop i,C.key b[j]<=C.key y):W C (lo2 a b mg ac bc res i j) (Ug C a b st₀ n0) st:=by
 refine wpS_bind (QW hj ?_)
 have m':=m.takeB T.sb 1 (fun x hx y hy=>by rw [Z8 b hj] at hx;rw [List.mem_singleton.mp hx];exact hc y hy)
 rw [Z8 b hj,<- Array.toList_push] at m'
 by_cases q:j+1=b.size
 ·rw [if_pos (by simpa using q)]
  refine wpS_pure (.inl ⟨hs,_,rfl,?_⟩)
  rw [Array.toList_append,Array.toList_append,ZM,ZM]
  exact m'.endB T.sa (by simp;omega)
 ·rw [if_neg (by simpa using q)]
  exact QbV T hk hs m' hi (by omega) (by omega)
theorem QbU (T:Two C a b) (hk:kindOf st₀=C.kd) (hs:Sm st₀ st) (m:MI C a.toList b.toList res.toList i j) (hi:i+1 < a.size) (hj:j < b.size) (hn:n0<=i+j):W C (lo1 a b mg ac bc res i j) (Ug C a b st₀ n0) st:=by
 refine wpS_bind (YM hs fun st hs=>?_)
 have hk':kindOf st=C.kd:=hs.1.trans hk
 refine wpS_bind (QW hj (wpS_bind (JC (fun t=>!decide (C.key b[j] < kx C a (i+t))) hk' (T.mb _ (by simp)) T.ma (by omega) (by omega) (fun t _=>rfl) (fun s t h1 h2 h3=>?_) fun k h1 h2 h3=>?_)))
 ·have q:=zW T.sa (show i+s<=i+t by omega) (by omega)
  simp only [Bool.not_eq_true',decide_eq_false_iff_not] at h3 ⊢
  omega
 ·dsimp only
  have lowc:∀ x∈(a.toList.drop i).take k,C.key x<=C.key b[j]:=fun x hx=>by
   obtain ⟨t,ht,q,rfl⟩:=Xo hx
   have:=h2 t ht
   simp only [Bool.not_eq_true',decide_eq_false_iff_not] at this
   rw [Zi a q] at this
   omega
  have m':=m.takeA T.sa k (fun x hx y hy=>by
   obtain ⟨t,ht,q,rfl⟩:=Y8 hy
   have:=lowc x hx
   have:=J2 T.sb ht q
   omega)
  have hc:∀ y∈a.toList.drop (i+k),C.key b[j]<=C.key y:=fun y hy=>by
   obtain ⟨t,ht,q,rfl⟩:=Y8 hy
   have:=h3 (t - i) (by omega) (by omega)
   simp only [Bool.not_eq_false',decide_eq_true_eq] at this
   rw [show i+(t - i)=t by omega,Zi a q] at this
   omega
  by_cases hk0:k > 0
  ·rw [if_pos hk0]
   by_cases q:i+k+1=a.size
   ·rw [if_pos (by simpa using q)]
    refine wpS_pure (.inl ⟨hs,_,rfl,?_⟩)
    rw [Array.toList_append,Array.toList_append,Array.toList_append,ZM,ZM,jA]
    exact m'.lastA T.sa T.sb (by simpa using T.last) (by simpa using q)
   ·rw [if_neg (by simpa using q)]
    by_cases q2:i+k=a.size
    ·rw [if_pos (by simpa using q2)]
     refine wpS_pure (.inl ⟨hs,_,rfl,?_⟩)
     rw [Array.toList_append,Array.toList_append,Array.toList_append,ZM,ZM,jA]
     exact m'.endA T.sb (by simp;omega)
    ·rw [if_neg (by simpa using q2)]
     refine kY T hk' hs ?_ (by omega) hj (by omega) hc
     rw [Array.toList_append,jA];exact m'
  ·rw [if_neg hk0]
   have:k=0:=by omega
   subst this
   exact kY T hk' hs m hi hj hn hc
end
end TS
namespace TS
open PySem PyProof.Rows
variable {C:Cmp} {a b:Array Keyed}
theorem mi0 (T:Two C a b):MI C a.toList b.toList [b[0]'T.nb] 0 1:=by
 have m:MI C a.toList b.toList [] 0 0:=⟨by simp,List.Pairwise.nil,fun x hx=>by simp at hx⟩
 have:=m.takeB T.sb 1 (fun x hx y hy=>T.first y (by simpa using hy) x (by simpa using hx))
 rw [Z8 b T.nb] at this
 simpa using this
theorem ex4 {α β γ δ:Type} {P:α->β->γ->δ->Prop} {G:Prop} (k:∀ a b c d,P a b c d->G):(∃ a b c d,P a b c d)->G:=fun ⟨a,b,c,d,h⟩=>k a b c d h
theorem ex5 {α β γ δ ε:Type} {P:α->β->γ->δ->ε->Prop} {G:Prop} (k:∀ a b c d e,P a b c d e->G):(∃ a b c d e,P a b c d e)->G:=fun ⟨a,b,c,d,e,h⟩=>k a b c d e h
theorem ex6 {α β γ δ ε ζ:Type} {P:α->β->γ->δ->ε->ζ->Prop} {G:Prop} (k:∀ a b c d e f,P a b c d e f->G):(∃ a b c d e f,P a b c d e f)->G:=fun ⟨a,b,c,d,e,f,h⟩=>k a b c d e f h
theorem QbX {st:SortSt} {Q:Array Keyed->SortSt->Prop} (T:Two C a b) (hk:kindOf st=C.kd) (h:∀ r st',Sm st st'->Fin C a.toList b.toList r.toList->Q r st'):W C (mLo a b) Q st:=by
  have na:=T.na
  have nb:=T.nb
  have m0:=mi0 T
  rw [QaS]
  dsimp only
  refine wpS_bind (qd (wpS_bind (QW T.nb ?_)))
  by_cases q:1=b.size
  . rw [if_pos (by simpa using q)]
    refine wpS_pure (h _ st (Sm.refl _) ?_)
    rw [Array.toList_append,Array.toList_append,ZM,ZM]
    exact m0.endB T.sa (by simp;omega)
  rw [if_neg (by simpa using q)]
  by_cases q:0+1=a.size
  . rw [if_pos (by simpa using q)]
    refine wpS_pure (h _ st (Sm.refl _) ?_)
    rw [Array.toList_append,Array.toList_append,ZM,ZM]
    exact m0.lastA T.sa T.sb (by simpa using T.last) (by simpa using q)
  rw [if_neg (by simpa using q)]
  refine wpS_bind (wpS_get ?_)
  refine wpS_bind (wpS_mono (wpS_forRange (I:=fun x c st'=>∃ res i j mg,c=(none,res,i,j,mg)/\GoG C a b st x none res i j st') (Q:=fun c st'=>yg C a b st c.1 st') ?step ?fin ⟨_,_,_,_,rfl,Sm.refl _,rfl,m0,by omega,by omega,by omega⟩) ?post)
  case post =>
    rintro ⟨c1,c2⟩ st' ⟨hs,x,rfl,hf⟩
    exact wpS_pure (h x st' hs hf)
  case fin =>
    rintro c st' ⟨res,i,j,mg,rfl,hs,_,m,h1,h2,h3⟩
    omega
  case step =>
    intro x c st' _ hx
    refine ex4 fun res i j mg z=>?_
    have e:=z.1
    subst e
    have hs:=z.2.1
    have m:=z.2.2.2.1
    have h1:=z.2.2.2.2.1
    have h2:=z.2.2.2.2.2.1
    have h3:=z.2.2.2.2.2.2
    dsimp only
    refine wpS_bind (wpS_mono (wpS_forRange (I:=fun y c st''=>∃ res i j ac bc,c=(none,res,i,j,ac,bc)/\GoG C a b st (x+y) none res i j st'')
      (Q:=fun c st''=>yg C a b st c.1 st''∨∃ res i j ac bc,c=(none,res,i,j,ac,bc)/\GoG C a b st (x+1) none res i j st'') ?step1 ?fin1 ⟨_,_,_,_,_,rfl,hs,rfl,m,h1,h2,h3⟩) ?post1)
    case fin1 =>
      rintro c st'' ⟨res,i,j,ac,bc,rfl,hs,_,m,h1,h2,h3⟩
      omega
    case step1 =>
      intro y c st'' _ hy
      refine ex5 fun res i j ac bc z=>?_
      have e:=z.1
      subst e
      have hs:=z.2.1
      have m:=z.2.2.2.1
      have h1:=z.2.2.2.2.1
      have h2:=z.2.2.2.2.2.1
      have h3:=z.2.2.2.2.2.2
      dsimp only
      have hi:i < a.size:=by omega
      refine wpS_bind (QW h2 (wpS_bind (QW hi (wpS_bind (C.lt st'' _ _ _ (T.mb _ (by simp)) (T.ma _ (by simp)) (hs.1.trans hk) ?_)))))
      dsimp only
      by_cases hlt:C.key b[j] < C.key a[i]
      . simp only [hlt,decide_true,if_true]
        refine wpS_bind (QW h2 ?_)
        have m':=m.takeB T.sb 1 (fun x hx y hy=>by
          rw [Z8 b h2] at hx;rw [List.mem_singleton.mp hx]
          obtain ⟨t,ht,q,rfl⟩:=Y8 hy
          have:=J2 T.sa ht q
          omega)
        rw [Z8 b h2,<- Array.toList_push] at m'
        by_cases q:j+1=b.size
        . rw [if_pos (by simpa using q)]
          refine wpS_pure (.inl ⟨hs,_,rfl,?_⟩)
          rw [Array.toList_append,Array.toList_append,ZM,ZM]
          exact m'.endB T.sa (by simp;omega)
        . rw [if_neg (by simpa using q)]
          split
          . exact wpS_pure (.inr ⟨_,_,_,_,_,rfl,hs,rfl,m',h1,by omega,by omega⟩)
          . exact wpS_pure ⟨_,_,_,_,_,rfl,hs,rfl,m',h1,by omega,by omega⟩
      . simp only [hlt,decide_false,Bool.false_eq_true,if_false]
        refine wpS_bind (QW hi ?_)
        have m':=m.takeA T.sa 1 (fun x hx y hy=>by
          rw [Z8 a hi] at hx;rw [List.mem_singleton.mp hx]
          obtain ⟨t,ht,q,rfl⟩:=Y8 hy
          have:=J2 T.sb ht q
          omega)
        rw [Z8 a hi,<- Array.toList_push] at m'
        by_cases q:i+1+1=a.size
        . rw [if_pos (by simpa using q)]
          refine wpS_pure (.inl ⟨hs,_,rfl,?_⟩)
          rw [Array.toList_append,Array.toList_append,ZM,ZM]
          exact m'.lastA T.sa T.sb (by simpa using T.last) (by simpa using q)
        . rw [if_neg (by simpa using q)]
          split
          . exact wpS_pure (.inr ⟨_,_,_,_,_,rfl,hs,rfl,m',by omega,h2,by omega⟩)
          . exact wpS_pure ⟨_,_,_,_,_,rfl,hs,rfl,m',by omega,h2,by omega⟩
    case post1 =>
      intro c st'' z0
      refine z0.elim (fun z0=>?_) (ex5 fun res i j ac bc z=>?_)
      . obtain ⟨c1,c2⟩:=c
        obtain ⟨hs,r,hr,hf⟩:=z0
        simp only at hr
        subst hr
        exact wpS_pure ⟨hs,r,rfl,hf⟩
      . have e:=z.1
        subst e
        have hs:=z.2.1
        have m:=z.2.2.2.1
        have h1:=z.2.2.2.2.1
        have h2:=z.2.2.2.2.2.1
        have h3:=z.2.2.2.2.2.2
        dsimp only
        refine wpS_bind (qd ?_)
        refine wpS_bind (wpS_mono (wpS_forRange (I:=fun y c st3=>∃ res i j mg ac bc,c=(none,res,i,j,mg,ac,bc)/\GoG C a b st (x+1+y) none res i j st3)
          (Q:=fun c st3=>yg C a b st c.1 st3∨∃ res i j mg ac bc,c=(none,res,i,j,mg,ac,bc)/\GoG C a b st (x+1) none res i j st3) ?step2 ?fin2 ⟨_,_,_,_,_,_,rfl,hs,rfl,m,h1,h2,by omega⟩) ?post2)
        case fin2 =>
          rintro c st3 ⟨res,i,j,mg,ac,bc,rfl,hs,_,m,h1,h2,h3⟩
          omega
        case step2 =>
          intro y c st3 _ hy
          refine ex6 fun res i j mg ac bc z=>?_
          have e:=z.1
          subst e
          have hs:=z.2.1
          have m:=z.2.2.2.1
          have h1:=z.2.2.2.2.1
          have h2:=z.2.2.2.2.2.1
          have h3:=z.2.2.2.2.2.2
          dsimp only
          have key:=fun mg=>QbU (mg:=mg) (ac:=ac) (bc:=bc) (n0:=x+1+(y+1)) T hk hs m h1 h2 (by omega)
          rcases Nat.lt_or_ge 1 mg with hm | hm
          . rw [if_pos hm]
            refine wpS_mono (key (mg - 1)) ?_
            intro r st4 hr
            cases r with
            | done c =>
              obtain ⟨c1,c2,c3,c4,c5,c6,c7⟩:=c
              rcases hr with q | q
              . exact .inl q
              . obtain ⟨g1,g2,g3,g4,g5,g6⟩:=q
                simp only at g2 g3 g4 g5 g6
                subst g2
                exact .inr ⟨_,_,_,_,_,_,rfl,g1,rfl,g3,g4,g5,by omega⟩
            | yield c =>
              obtain ⟨c1,c2,c3,c4,c5,c6,c7⟩:=c
              obtain ⟨g1,g2,g3,g4,g5,g6⟩:=hr
              simp only at g2 g3 g4 g5 g6
              subst g2
              exact ⟨_,_,_,_,_,_,rfl,g1,rfl,g3,g4,g5,g6⟩
          . rw [if_neg (by omega)]
            refine wpS_mono (key mg) ?_
            intro r st4 hr
            cases r with
            | done c =>
              obtain ⟨c1,c2,c3,c4,c5,c6,c7⟩:=c
              rcases hr with q | q
              . exact .inl q
              . obtain ⟨g1,g2,g3,g4,g5,g6⟩:=q
                simp only at g2 g3 g4 g5 g6
                subst g2
                exact .inr ⟨_,_,_,_,_,_,rfl,g1,rfl,g3,g4,g5,by omega⟩
            | yield c =>
              obtain ⟨c1,c2,c3,c4,c5,c6,c7⟩:=c
              obtain ⟨g1,g2,g3,g4,g5,g6⟩:=hr
              simp only at g2 g3 g4 g5 g6
              subst g2
              exact ⟨_,_,_,_,_,_,rfl,g1,rfl,g3,g4,g5,g6⟩
        case post2 =>
          intro c st3 z0
          refine z0.elim (fun z0=>?_) (ex6 fun res i j mg ac bc z=>?_)
          . obtain ⟨c1,c2⟩:=c
            obtain ⟨hs,r,hr,hf⟩:=z0
            simp only at hr
            subst hr
            exact wpS_pure ⟨hs,r,rfl,hf⟩
          . have e:=z.1
            subst e
            have hs:=z.2.1
            have m:=z.2.2.2.1
            have h1:=z.2.2.2.2.1
            have h2:=z.2.2.2.2.2.1
            have h3:=z.2.2.2.2.2.2
            dsimp only
            refine wpS_bind (YM hs fun st4 hs4=>?_)
            exact wpS_pure ⟨_,_,_,_,rfl,hs4,rfl,m,h1,h2,h3⟩
end TS
namespace TS
open PySem PyProof.Rows
variable {C:Cmp}
structure MH (C:Cmp) (A B R:List Keyed) (p q:Nat):Prop where
 perm:(A.take p++B.take q++R).Perm (A++B)
 srt:Srt C R
 high:∀ x∈A.take p++B.take q,∀ y∈R,C.key x<=C.key y
section
variable {A B R:List Keyed} {p q:Nat}
theorem GC (A:List Keyed) {p r:Nat} (h:r<=p):A.take p=A.take r++(A.take p).drop r:=by
 have:A.take r=(A.take p).take r:=by rw [List.take_take,Nat.min_eq_left h]
 rw [this,List.take_append_drop]
theorem MH.takeA (m:MH C A B R p q) (hA:Srt C A) {r:Nat} (hr:r<=p) (h:∀ y∈(A.take p).drop r,∀ x∈B.take q,C.key x<=C.key y):MH C A B ((A.take p).drop r++R) r q:=by
 have e:=GC A hr
 have hd:=hA.take p
 rw [e] at hd
 obtain ⟨_,_,h3⟩:=List.pairwise_append.mp hd
 have sc:Srt C ((A.take p).drop r):=(hA.take p).drop r
 have mm:∀ y∈(A.take p).drop r,y∈A.take p:=fun y hy=>List.mem_of_mem_drop hy
 generalize (A.take p).drop r=ch at e h h3 sc mm ⊢
 refine ⟨?_,sc.app m.srt fun x hx y hy=>m.high x (List.mem_append_left _ (mm x hx)) y hy,fun x hx y hy=>?_⟩
 ·refine List.Perm.trans ?_ m.perm
  rw [e]
  simp only [List.append_assoc]
  refine List.Perm.append_left _ ?_
  rw [<- List.append_assoc,<- List.append_assoc]
  exact List.Perm.append_right _ List.perm_append_comm
 ·rcases List.mem_append.mp hy with z | z
  ·rcases List.mem_append.mp hx with w | w
   ·exact h3 x w y z
   ·exact h y z x w
  ·refine m.high x ?_ y z
   rcases List.mem_append.mp hx with w | w
   ·exact List.mem_append_left _ (by rw [e];exact List.mem_append_left _ w)
   ·exact List.mem_append_right _ w
theorem MH.takeB (m:MH C A B R p q) (hB:Srt C B) {r:Nat} (hr:r<=q) (h:∀ y∈(B.take q).drop r,∀ x∈A.take p,C.key x<=C.key y):MH C A B ((B.take q).drop r++R) p r:=by
 have e:=GC B hr
 have hd:=hB.take q
 rw [e] at hd
 obtain ⟨_,_,h3⟩:=List.pairwise_append.mp hd
 have sc:Srt C ((B.take q).drop r):=(hB.take q).drop r
 have mm:∀ y∈(B.take q).drop r,y∈B.take q:=fun y hy=>List.mem_of_mem_drop hy
 generalize (B.take q).drop r=ch at e h h3 sc mm ⊢
 refine ⟨?_,sc.app m.srt fun x hx y hy=>m.high x (List.mem_append_right _ (mm x hx)) y hy,fun x hx y hy=>?_⟩
 ·have:=m.perm
  rw [e] at this
  simpa [List.append_assoc] using this
 ·rcases List.mem_append.mp hy with z | z
  ·rcases List.mem_append.mp hx with w | w
   ·exact h y z x w
   ·exact h3 x w y z
  ·refine m.high x ?_ y z
   rcases List.mem_append.mp hx with w | w
   ·exact List.mem_append_left _ w
   ·exact List.mem_append_right _ (by rw [e];exact List.mem_append_left _ w)
theorem MH.endA (m:MH C A B R p q) (hp:p=0) (hB:Srt C B):Fin C A B (A.take p++B.take q++R):=by
 subst hp
 exact ⟨by simpa using (hB.take q).app m.srt fun x hx y hy=>m.high x (List.mem_append_right _ hx) y hy,m.perm⟩
theorem MH.endB (m:MH C A B R p q) (hq:q=0) (hA:Srt C A):Fin C A B (A.take p++B.take q++R):=by
 subst hq
 exact ⟨by simpa using (hA.take p).app m.srt fun x hx y hy=>m.high x (List.mem_append_left _ hx) y hy,m.perm⟩
theorem MH.firstB (m:MH C A B R p q) (hq:q=1) (hA:Srt C A) (hB:Srt C B) (hf:∀ y∈A,∀ x∈B.take 1,C.key x<=C.key y):Fin C A B (B.take q++A.take p++R):=by
 subst hq
 refine ⟨((hB.take 1).app (hA.take p) fun x hx y hy=>hf y (List.mem_of_mem_take hy) x hx).app m.srt fun x hx y hy=>?_,?_⟩
 ·refine m.high x ?_ y hy
  rcases List.mem_append.mp hx with w | w
  ·exact List.mem_append_right _ w
  ·exact List.mem_append_left _ w
 ·exact (List.Perm.append_right _ List.perm_append_comm).trans m.perm
end
theorem QaR (a b:Array Keyed):mHi a b=(do
  rule "list.sort.merge-hi"
  let all:=a.size+b.size
  let fin (res:Array Keyed) (p q:Nat):=a.extract 0 p++b.extract 0 q++res.reverse
  let fst (res:Array Keyed) (p q:Nat):=b.extract 0 q++a.extract 0 p++res.reverse
  let mut p:=a.size - 1
  let mut q:=b.size
  let mut res:Array Keyed:=#[<- elem' a p]
  if p==0 then return fin res p q
  if q==1 then return fst res p q
  let mut mg:=gallopOf (<- get)
  for _ in [0:all] do
   let mut ac:=0
   let mut bc:=0
   for _ in [0:all] do
    let some aw <- lt' (<- elem' b (q - 1)) (<- elem' a (p - 1)) | return fin res p q
    if aw then
     p:=p - 1;res:=res.push (<- elem' a p);ac:=ac+1;bc:=0
     if p==0 then return fin res p q
     if ac≥mg then break
    else
     q:=q - 1;res:=res.push (<- elem' b q);bc:=bc+1;ac:=0
     if q==1 then return fst res p q
     if bc≥mg then break
   rule "list.sort.gallop"
   mg:=mg+1
   for _ in [0:all] do
    if mg > 1 then mg:=mg - 1
    Yf mg
    let some t <- gal false (<- elem' b (q - 1)) a 0 p (p - 1) | return fin res p q
    let k:=p - t
    ac:=k
    if k > 0 then
     res:=res++(a.extract t p).reverse;p:=t
     if p==0 then return fin res p q
    q:=q - 1;res:=res.push (<- elem' b q)
    if q==1 then return fst res p q
    let some t <- gal true (<- elem' a (p - 1)) b 0 q (q - 1) | return fin res p q
    let k:=q - t
    bc:=k
    if k > 0 then
     res:=res++(b.extract t q).reverse;q:=t
     if q==1 then return fst res p q
     if q==0 then return fin res p q
    p:=p - 1;res:=res.push (<- elem' a p)
    if p==0 then return fin res p q
    if ac < 7&&bc < 7 then break
   mg:=mg+1
   Yf mg
  unsupported "internal:list.sort.merge-bound"):=rfl
abbrev HS:=Option (Array Keyed)×Nat×Nat×Array Keyed×Nat×Nat×Nat
def hi4 (a b:Array Keyed) (mg ac bc:Nat) (res:Array Keyed) (p q:Nat):StateT SortSt Sem (ForInStep HS):=do
 let x <- elem' a (p - 1)
 if (p - 1==0)=true then pure (.done (some (a.extract 0 (p - 1)++b.extract 0 q++(res.push x).reverse),p - 1,q,res.push x,mg,ac,bc))
 else if (decide (ac < 7)&&decide (bc < 7))=true then pure (.done (none,p - 1,q,res.push x,mg,ac,bc)) else pure (.yield (none,p - 1,q,res.push x,mg,ac,bc))
def hi3 (a b:Array Keyed) (mg ac bc:Nat) (res:Array Keyed) (p q:Nat):StateT SortSt Sem (ForInStep HS):=do
 let y <- elem' a (p - 1)
 let z <- gal true y b 0 q (q - 1)
 match z with
 | some t=>(if q - t > 0 then (if (t==1)=true then pure (.done (some (b.extract 0 t++a.extract 0 p++(res++(b.extract t q).reverse).reverse),p,t,res++(b.extract t q).reverse,mg,ac,q - t))
   else if (t==0)=true then pure (.done (some (a.extract 0 p++b.extract 0 t++(res++(b.extract t q).reverse).reverse),p,t,res++(b.extract t q).reverse,mg,ac,q - t))
   else hi4 a b mg ac (q - t) (res++(b.extract t q).reverse) p t) else hi4 a b mg ac (q - t) res p q:StateT SortSt Sem (ForInStep HS))
 | _=>pure (.done (some (a.extract 0 p++b.extract 0 q++res.reverse),p,q,res,mg,ac,bc))
def hi2 (a b:Array Keyed) (mg ac bc:Nat) (res:Array Keyed) (p q:Nat):StateT SortSt Sem (ForInStep HS):=do
 let y <- elem' b (q - 1)
 if (q - 1==1)=true then pure (.done (some (b.extract 0 (q - 1)++a.extract 0 p++(res.push y).reverse),p,q - 1,res.push y,mg,ac,bc))
 else hi3 a b mg ac bc (res.push y) p (q - 1)
def hi1 (a b:Array Keyed) (mg ac bc:Nat) (res:Array Keyed) (p q:Nat):StateT SortSt Sem (ForInStep HS):=do
 Yf mg
 let y <- elem' b (q - 1)
 let z <- gal false y a 0 p (p - 1)
 match z with
 | some t=>(if p - t > 0 then (if (t==0)=true then pure (.done (some (a.extract 0 t++b.extract 0 q++(res++(a.extract t p).reverse).reverse),t,q,res++(a.extract t p).reverse,mg,p - t,bc))
   else hi2 a b mg (p - t) bc (res++(a.extract t p).reverse) t q) else hi2 a b mg (p - t) bc res p q:StateT SortSt Sem (ForInStep HS))
 | _=>pure (.done (some (a.extract 0 p++b.extract 0 q++res.reverse),p,q,res,mg,ac,bc))
section
variable {a b res:Array Keyed} {p q r:Nat}
theorem J6 (a:Array Keyed) (p:Nat):(a.extract 0 p).toList=a.toList.take p:=by
 simp [Array.toList_extract,List.extract_eq_take_drop]
theorem GW (a:Array Keyed) (r p:Nat):(a.extract r p).toList=(a.toList.take p).drop r:=by
 rw [Array.toList_extract,List.extract_eq_take_drop,List.drop_take]
theorem qK (x:Keyed):(res.push x).toList.reverse=x::res.toList.reverse:=by simp
theorem vT (ch:Array Keyed):(res++ch.reverse).toList.reverse=ch.toList++res.toList.reverse:=by simp
theorem J3 (a:Array Keyed) {p:Nat} (h0:1<=p) (h:p<=a.size):(a.toList.take p).drop (p - 1)=[a[p - 1]'(by omega)]:=by
 rw [List.drop_take,show p - (p - 1)=1 by omega]
 exact Z8 a (by omega)
theorem UY {x:Keyed} (h:x∈(a.toList.take p).drop r):∃ t,r<=t/\t < p/\∃ z:t < a.size,x=a[t]:=by
 obtain ⟨t,ht,e⟩:=List.getElem_of_mem h
 have h1:r+t < p/\r+t < a.size:=by simp at ht;omega
 exact ⟨r+t,by omega,h1.1,h1.2,by rw [<- e];simp [List.getElem_take,List.getElem_drop]⟩
theorem Y9 {x:Keyed} (h:x∈a.toList.take p):∃ t,t < p/\∃ z:t < a.size,x=a[t]:=by
 obtain ⟨t,ht,e⟩:=List.getElem_of_mem h
 have h1:t < p/\t < a.size:=by simp at ht;omega
 exact ⟨t,h1.1,h1.2,by rw [<- e];simp [List.getElem_take]⟩
end
section
variable {a b:Array Keyed} {st₀:SortSt} {n0:Nat}
def GoH (C:Cmp) (a b:Array Keyed) (st₀:SortSt) (n0:Nat) (r:Option (Array Keyed)) (res:Array Keyed) (p q:Nat) (st':SortSt):Prop:=Sm st₀ st'/\r=none/\MH C a.toList b.toList res.toList.reverse p q/\(1<=p/\p<=a.size)/\(2<=q/\q<=b.size)/\n0+p+q < a.size+b.size
def Uh (C:Cmp) (a b:Array Keyed) (st₀:SortSt) (n0:Nat) (r:ForInStep HS) (st':SortSt):Prop:=match r with
 | .done c=>yg C a b st₀ c.1 st'∨GoH C a b st₀ n0 c.1 c.2.2.2.1 c.2.1 c.2.2.1 st'
 | .yield c=>GoH C a b st₀ n0 c.1 c.2.2.2.1 c.2.1 c.2.2.1 st'
variable {mg ac bc p q:Nat} {res:Array Keyed} {st:SortSt}
theorem kX (T:Two C a b) (hs:Sm st₀ st) (m:MH C a.toList b.toList res.toList.reverse p q) (hp:1<=p/\p<=a.size) (hq:2<=q/\q<=b.size) (hn:n0+p+q<=a.size+b.size) (hc:∀ x∈b.toList.take q,C.key x<=C.key (a[p - 1]'(by omega))):W C (hi4 a b mg ac bc res p q) (Uh C a b st₀ n0) st:=by
 have hp':p - 1 < a.size:=by omega
 refine wpS_bind (QW hp' ?_)
 have m':=m.takeA T.sa (r:=p - 1) (by omega) (fun y hy x hx=>by rw [J3 a hp.1 hp.2] at hy;rw [List.mem_singleton.mp hy];exact hc x hx)
 rw [J3 a hp.1 hp.2,List.singleton_append,<- qK] at m'
 by_cases z:p - 1=0
 ·rw [if_pos (by simpa using z)]
  refine wpS_pure (.inl ⟨hs,_,rfl,?_⟩)
  rw [Array.toList_append,Array.toList_append,J6,J6,Array.toList_reverse]
  exact m'.endA z T.sb
 ·rw [if_neg (by simpa using z)]
  have g:GoH C a b st₀ n0 none (res.push a[p - 1]) (p - 1) q st:=⟨hs,rfl,m',by omega,hq,by omega⟩
  split
  ·exact wpS_pure (.inr g)
  ·exact wpS_pure g
theorem QbQ (T:Two C a b) (hk:kindOf st=C.kd) (hs:Sm st₀ st) (m:MH C a.toList b.toList res.toList.reverse p q) (hp:1<=p/\p<=a.size) (hq:2<=q/\q<=b.size) (hn:n0+p+q<=a.size+b.size):W C (hi3 a b mg ac bc res p q) (Uh C a b st₀ n0) st:=by
 have hp':p - 1 < a.size:=by omega
 refine wpS_bind (QW hp' (wpS_bind (JC (fun t=>decide (kx C b (0+t) < C.key a[p - 1])) hk (T.ma _ (by simp)) T.mb (by omega) (by omega) (fun t _=>rfl) (fun s t h1 h2 h3=>?_) fun t h1 h2 h3=>?_)))
 ·exact decide_eq_true (Int.lt_of_le_of_lt (zW T.sb (by omega) (by omega)) (of_decide_eq_true h3))
 ·dsimp only
  have m':=m.takeB T.sb h1 (fun y hy x hx=>by
   obtain ⟨u,hu1,hu2,z,rfl⟩:=UY hy
   have e:=of_decide_eq_false (h3 u hu1 hu2)
   rw [Nat.zero_add,Zi b z] at e
   obtain ⟨v,hv,z2,rfl⟩:=Y9 hx
   have:=J2 T.sa (show v<=p - 1 by omega) hp'
   omega)
  have hc:∀ x∈b.toList.take t,C.key x<=C.key a[p - 1]:=fun x hx=>by
   obtain ⟨v,hv,z2,rfl⟩:=Y9 hx
   have e:=of_decide_eq_true (h2 v hv)
   rw [Nat.zero_add,Zi b z2] at e
   omega
  rw [<- GW,<- vT] at m'
  by_cases hk0:q - t > 0
  ·rw [if_pos hk0]
   by_cases z:t=1
   ·rw [if_pos (by simpa using z)]
    refine wpS_pure (.inl ⟨hs,_,rfl,?_⟩)
    rw [Array.toList_append,Array.toList_append,J6,J6,Array.toList_reverse]
    exact m'.firstB z T.sa T.sb T.first
   ·rw [if_neg (by simpa using z)]
    by_cases z2:t=0
    ·rw [if_pos (by simpa using z2)]
     refine wpS_pure (.inl ⟨hs,_,rfl,?_⟩)
     rw [Array.toList_append,Array.toList_append,J6,J6,Array.toList_reverse]
     exact m'.endB z2 T.sa
    ·rw [if_neg (by simpa using z2)]
     exact kX T hs m' hp (by omega) (by omega) hc
  ·rw [if_neg hk0]
   have:t=q:=by omega
   subst this
   exact kX T hs m hp hq hn hc
theorem kW (T:Two C a b) (hk:kindOf st=C.kd) (hs:Sm st₀ st) (m:MH C a.toList b.toList res.toList.reverse p q) (hp:1<=p/\p<=a.size) (hq:2<=q/\q<=b.size) (hn:n0+p+q<=a.size+b.size) (hc:∀ x∈a.toList.take p,C.key x<=C.key (b[q - 1]'(by omega))):W C (hi2 a b mg ac bc res p q) (Uh C a b st₀ n0) st:=by
 have hq':q - 1 < b.size:=by omega
 refine wpS_bind (QW hq' ?_)
 have m':=m.takeB T.sb (r:=q - 1) (by omega) (fun y hy x hx=>by rw [J3 b (by omega) hq.2] at hy;rw [List.mem_singleton.mp hy];exact hc x hx)
 rw [J3 b (by omega) hq.2,List.singleton_append,<- qK] at m'
 by_cases z:q - 1=1
 ·rw [if_pos (by simpa using z)]
  refine wpS_pure (.inl ⟨hs,_,rfl,?_⟩)
  rw [Array.toList_append,Array.toList_append,J6,J6,Array.toList_reverse]
  exact m'.firstB z T.sa T.sb T.first
 ·rw [if_neg (by simpa using z)]
  exact QbQ T hk hs m' hp (by omega) (by omega)
theorem QbP (T:Two C a b) (hk:kindOf st₀=C.kd) (hs:Sm st₀ st) (m:MH C a.toList b.toList res.toList.reverse p q) (hp:1<=p/\p<=a.size) (hq:2<=q/\q<=b.size) (hn:n0+p+q<=a.size+b.size):W C (hi1 a b mg ac bc res p q) (Uh C a b st₀ n0) st:=by
 refine wpS_bind (YM hs fun st hs=>?_)
 have hk':kindOf st=C.kd:=hs.1.trans hk
 have hq':q - 1 < b.size:=by omega
 refine wpS_bind (QW hq' (wpS_bind (JC (fun t=>!decide (C.key b[q - 1] < kx C a (0+t))) hk' (T.mb _ (by simp)) T.ma (by omega) (by omega) (fun t _=>rfl) (fun s t h1 h2 h3=>?_) fun t h1 h2 h3=>?_)))
 ·have e:=zW T.sa (show 0+s<=0+t by omega) (by omega)
  simp only [Bool.not_eq_true',decide_eq_false_iff_not] at h3 ⊢
  omega
 ·dsimp only
  have m':=m.takeA T.sa h1 (fun y hy x hx=>by
   obtain ⟨u,hu1,hu2,z,rfl⟩:=UY hy
   have e:=h3 u hu1 hu2
   simp only [Bool.not_eq_false',decide_eq_true_eq] at e
   rw [Nat.zero_add,Zi a z] at e
   obtain ⟨v,hv,z2,rfl⟩:=Y9 hx
   have:=J2 T.sb (show v<=q - 1 by omega) hq'
   omega)
  have hc:∀ x∈a.toList.take t,C.key x<=C.key b[q - 1]:=fun x hx=>by
   obtain ⟨v,hv,z2,rfl⟩:=Y9 hx
   have e:=h2 v hv
   simp only [Bool.not_eq_true',decide_eq_false_iff_not] at e
   rw [Nat.zero_add,Zi a z2] at e
   omega
  rw [<- GW,<- vT] at m'
  by_cases hk0:p - t > 0
  ·rw [if_pos hk0]
   by_cases z:t=0
   ·rw [if_pos (by simpa using z)]
    refine wpS_pure (.inl ⟨hs,_,rfl,?_⟩)
    rw [Array.toList_append,Array.toList_append,J6,J6,Array.toList_reverse]
    exact m'.endA z T.sb
   ·rw [if_neg (by simpa using z)]
    exact kW T hk' hs m' (by omega) hq (by omega) hc
  ·rw [if_neg hk0]
   have:t=p:=by omega
   subst this
   exact kW T hk' hs m hp hq hn hc
theorem mh0 (T:Two C a b):MH C a.toList b.toList [a[a.size - 1]'(by have:=T.na;omega)] (a.size - 1) b.size:=by
 have na:=T.na
 have ea:a.toList.take a.size=a.toList:=List.take_of_length_le (by simp)
 have eb:b.toList.take b.size=b.toList:=List.take_of_length_le (by simp)
 have m:MH C a.toList b.toList [] a.size b.size:=⟨by rw [ea,eb,List.append_nil],List.Pairwise.nil,fun x hx y hy=>by simp at hy⟩
 have:=m.takeA T.sa (r:=a.size - 1) (by omega) (fun y hy x hx=>T.last y (by rw [ea] at hy;exact hy) x (List.mem_of_mem_take hx))
 rw [J3 a na (Nat.le_refl _)] at this
 simpa using this
theorem QbW {Q:Array Keyed->SortSt->Prop} (T:Two C a b) (hk:kindOf st=C.kd) (h:∀ r st',Sm st st'->Fin C a.toList b.toList r.toList->Q r st'):W C (mHi a b) Q st:=by
  have na:=T.na
  have nb:=T.nb
  have m0:=mh0 T
  have hl:a.size - 1 < a.size:=by omega
  rw [QaR]
  dsimp only
  refine wpS_bind (qd (wpS_bind (QW hl ?_)))
  have m1:MH C a.toList b.toList (#[a[a.size - 1]]).toList.reverse (a.size - 1) b.size:=m0
  by_cases z:a.size - 1=0
  . rw [if_pos (by simpa using z)]
    refine wpS_pure (h _ st (Sm.refl _) ?_)
    rw [Array.toList_append,Array.toList_append,J6,J6,Array.toList_reverse]
    exact m1.endA z T.sb
  rw [if_neg (by simpa using z)]
  by_cases z:b.size=1
  . rw [if_pos (by simpa using z)]
    refine wpS_pure (h _ st (Sm.refl _) ?_)
    rw [Array.toList_append,Array.toList_append,J6,J6,Array.toList_reverse]
    exact m1.firstB z T.sa T.sb T.first
  rw [if_neg (by simpa using z)]
  refine wpS_bind (wpS_get ?_)
  refine wpS_bind (wpS_mono (wpS_forRange (I:=fun x c st'=>∃ p q res mg,c=(none,p,q,res,mg)/\GoH C a b st x none res p q st') (Q:=fun c st'=>yg C a b st c.1 st') ?step ?fin ⟨_,_,_,_,rfl,Sm.refl _,rfl,m1,by omega,by omega,by omega⟩) ?post)
  case post =>
    rintro ⟨c1,c2⟩ st' ⟨hs,x,rfl,hf⟩
    exact wpS_pure (h x st' hs hf)
  case fin =>
    rintro c st' ⟨p,q,res,mg,rfl,hs,_,m,h1,h2,h3⟩
    omega
  case step =>
    intro x c st' _ hx
    refine ex4 fun p q res mg z=>?_
    have e:=z.1
    subst e
    have hs:=z.2.1
    have m:=z.2.2.2.1
    have h1:=z.2.2.2.2.1
    have h2:=z.2.2.2.2.2.1
    have h3:=z.2.2.2.2.2.2
    dsimp only
    refine wpS_bind (wpS_mono (wpS_forRange (I:=fun y c st''=>∃ p q res ac bc,c=(none,p,q,res,ac,bc)/\GoH C a b st (x+y) none res p q st'')
      (Q:=fun c st''=>yg C a b st c.1 st''∨∃ p q res ac bc,c=(none,p,q,res,ac,bc)/\GoH C a b st (x+1) none res p q st'') ?step1 ?fin1 ⟨_,_,_,_,_,rfl,hs,rfl,m,h1,h2,h3⟩) ?post1)
    case fin1 =>
      rintro c st'' ⟨p,q,res,ac,bc,rfl,hs,_,m,h1,h2,h3⟩
      omega
    case step1 =>
      intro y c st'' _ hy
      refine ex5 fun p q res ac bc z=>?_
      have e:=z.1
      subst e
      have hs:=z.2.1
      have m:=z.2.2.2.1
      have h1:=z.2.2.2.2.1
      have h2:=z.2.2.2.2.2.1
      have h3:=z.2.2.2.2.2.2
      dsimp only
      have hp':p - 1 < a.size:=by omega
      have hq':q - 1 < b.size:=by omega
      refine wpS_bind (QW hq' (wpS_bind (QW hp' (wpS_bind (C.lt st'' _ _ _ (T.mb _ (by simp)) (T.ma _ (by simp)) (hs.1.trans hk) ?_)))))
      dsimp only
      by_cases hlt:C.key b[q - 1] < C.key a[p - 1]
      . simp only [hlt,decide_true,if_true]
        refine wpS_bind (QW hp' ?_)
        have m':=m.takeA T.sa (r:=p - 1) (by omega) (fun y hy x hx=>by
          rw [J3 a h1.1 h1.2] at hy;rw [List.mem_singleton.mp hy]
          obtain ⟨v,hv,z2,rfl⟩:=Y9 hx
          have:=J2 T.sb (show v<=q - 1 by omega) hq'
          omega)
        rw [J3 a h1.1 h1.2,List.singleton_append,<- qK] at m'
        by_cases z:p - 1=0
        . rw [if_pos (by simpa using z)]
          refine wpS_pure (.inl ⟨hs,_,rfl,?_⟩)
          rw [Array.toList_append,Array.toList_append,J6,J6,Array.toList_reverse]
          exact m'.endA z T.sb
        . rw [if_neg (by simpa using z)]
          split
          . exact wpS_pure (.inr ⟨_,_,_,_,_,rfl,hs,rfl,m',by omega,h2,by omega⟩)
          . exact wpS_pure ⟨_,_,_,_,_,rfl,hs,rfl,m',by omega,h2,by omega⟩
      . simp only [hlt,decide_false,Bool.false_eq_true,if_false]
        refine wpS_bind (QW hq' ?_)
        have m':=m.takeB T.sb (r:=q - 1) (by omega) (fun y hy x hx=>by
          rw [J3 b (by omega) h2.2] at hy;rw [List.mem_singleton.mp hy]
          obtain ⟨v,hv,z2,rfl⟩:=Y9 hx
          have:=J2 T.sa (show v<=p - 1 by omega) hp'
          omega)
        rw [J3 b (by omega) h2.2,List.singleton_append,<- qK] at m'
        by_cases z:q - 1=1
        . rw [if_pos (by simpa using z)]
          refine wpS_pure (.inl ⟨hs,_,rfl,?_⟩)
          rw [Array.toList_append,Array.toList_append,J6,J6,Array.toList_reverse]
          exact m'.firstB z T.sa T.sb T.first
        . rw [if_neg (by simpa using z)]
          split
          . exact wpS_pure (.inr ⟨_,_,_,_,_,rfl,hs,rfl,m',h1,by omega,by omega⟩)
          . exact wpS_pure ⟨_,_,_,_,_,rfl,hs,rfl,m',h1,by omega,by omega⟩
    case post1 =>
      intro c st'' z0
      refine z0.elim (fun z0=>?_) (ex5 fun p q res ac bc z=>?_)
      . obtain ⟨c1,c2⟩:=c
        obtain ⟨hs,r,hr,hf⟩:=z0
        simp only at hr
        subst hr
        exact wpS_pure ⟨hs,r,rfl,hf⟩
      . have e:=z.1
        subst e
        have hs:=z.2.1
        have m:=z.2.2.2.1
        have h1:=z.2.2.2.2.1
        have h2:=z.2.2.2.2.2.1
        have h3:=z.2.2.2.2.2.2
        dsimp only
        refine wpS_bind (qd ?_)
        refine wpS_bind (wpS_mono (wpS_forRange (I:=fun y c st3=>∃ p q res mg ac bc,c=(none,p,q,res,mg,ac,bc)/\GoH C a b st (x+1+y) none res p q st3)
          (Q:=fun c st3=>yg C a b st c.1 st3∨∃ p q res mg ac bc,c=(none,p,q,res,mg,ac,bc)/\GoH C a b st (x+1) none res p q st3) ?step2 ?fin2 ⟨_,_,_,_,_,_,rfl,hs,rfl,m,h1,h2,by omega⟩) ?post2)
        case fin2 =>
          rintro c st3 ⟨p,q,res,mg,ac,bc,rfl,hs,_,m,h1,h2,h3⟩
          omega
        case step2 =>
          intro y c st3 _ hy
          refine ex6 fun p q res mg ac bc z=>?_
          have e:=z.1
          subst e
          have hs:=z.2.1
          have m:=z.2.2.2.1
          have h1:=z.2.2.2.2.1
          have h2:=z.2.2.2.2.2.1
          have h3:=z.2.2.2.2.2.2
          dsimp only
          have key:=fun mg=>QbP (mg:=mg) (ac:=ac) (bc:=bc) (n0:=x+1+(y+1)) T hk hs m h1 h2 (by omega)
          rcases Nat.lt_or_ge 1 mg with hm | hm
          . rw [if_pos hm]
            refine wpS_mono (key (mg - 1)) ?_
            intro r st4 hr
            cases r with
            | done c =>
              obtain ⟨c1,c2,c3,c4,c5,c6,c7⟩:=c
              rcases hr with z | z
              . exact .inl z
              . obtain ⟨g1,g2,g3,g4,g5,g6⟩:=z
                simp only at g2 g3 g4 g5 g6
                subst g2
                exact .inr ⟨_,_,_,_,_,_,rfl,g1,rfl,g3,g4,g5,by omega⟩
            | yield c =>
              obtain ⟨c1,c2,c3,c4,c5,c6,c7⟩:=c
              obtain ⟨g1,g2,g3,g4,g5,g6⟩:=hr
              simp only at g2 g3 g4 g5 g6
              subst g2
              exact ⟨_,_,_,_,_,_,rfl,g1,rfl,g3,g4,g5,g6⟩
          . rw [if_neg (by omega)]
            refine wpS_mono (key mg) ?_
            intro r st4 hr
            cases r with
            | done c =>
              obtain ⟨c1,c2,c3,c4,c5,c6,c7⟩:=c
              rcases hr with z | z
              . exact .inl z
              . obtain ⟨g1,g2,g3,g4,g5,g6⟩:=z
                simp only at g2 g3 g4 g5 g6
                subst g2
                exact .inr ⟨_,_,_,_,_,_,rfl,g1,rfl,g3,g4,g5,by omega⟩
            | yield c =>
              obtain ⟨c1,c2,c3,c4,c5,c6,c7⟩:=c
              obtain ⟨g1,g2,g3,g4,g5,g6⟩:=hr
              simp only at g2 g3 g4 g5 g6
              subst g2
              exact ⟨_,_,_,_,_,_,rfl,g1,rfl,g3,g4,g5,g6⟩
        case post2 =>
          intro c st3 z0
          refine z0.elim (fun z0=>?_) (ex6 fun p q res mg ac bc z=>?_)
          . obtain ⟨c1,c2⟩:=c
            obtain ⟨hs,r,hr,hf⟩:=z0
            simp only at hr
            subst hr
            exact wpS_pure ⟨hs,r,rfl,hf⟩
          . have e:=z.1
            subst e
            have hs:=z.2.1
            have m:=z.2.2.2.1
            have h1:=z.2.2.2.2.1
            have h2:=z.2.2.2.2.2.1
            have h3:=z.2.2.2.2.2.2
            dsimp only
            refine wpS_bind (YM hs fun st4 hs4=>?_)
            exact wpS_pure ⟨_,_,_,_,rfl,hs4,rfl,m,h1,h2,h3⟩
end
end TS
namespace TS
open PySem PyProof.Rows
variable {C:Cmp}
def seg (L:List Keyed) (s n:Nat):List Keyed:=(L.drop s).take n
theorem Jh {L:List Keyed} {s n:Nat} (h:s+n<=L.length):(seg L s n).length=n:=by simp [seg];omega
theorem jN (L:List Keyed) (s n:Nat):L=L.take s++seg L s n++L.drop (s+n):=by
 unfold seg
 rw [List.append_assoc,<- List.drop_drop,List.take_append_drop,List.take_append_drop]
theorem qM (L:List Keyed) (s n m:Nat):seg L s (n+m)=seg L s n++seg L (s+n) m:=by
 unfold seg
 rw [<- List.drop_drop,List.take_add]
theorem kz {P M M' R:List Keyed} {s n:Nat} (h:s+n<=P.length):seg (P++M++R) s n=seg (P++M'++R) s n:=by
 unfold seg
 have:∀ T:List Keyed,((P++T).drop s).take n=(P.drop s).take n:=fun T=>by
  rw [List.drop_append_of_le_length (by omega),List.take_append_of_le_length (by simp;omega)]
 rw [List.append_assoc,List.append_assoc,this,this]
theorem vX {P M M' R:List Keyed} {s n:Nat} (hl:M.length=M'.length) (h:P.length+M.length<=s):seg (P++M++R) s n=seg (P++M'++R) s n:=by
 unfold seg
 have e:∀ T:List Keyed,T.length<=s->(T++R).drop s=R.drop (s - T.length):=fun T hT=>by rw [List.drop_append,List.drop_of_length_le hT,List.nil_append]
 rw [e (P++M) (by rw [List.length_append];omega),e (P++M') (by rw [List.length_append];omega),List.length_append,List.length_append,hl]
theorem ku {P M R:List Keyed} {s n:Nat} (h:s=P.length) (hn:n=M.length):seg (P++M++R) s n=M:=by
 subst h hn
 unfold seg
 rw [List.append_assoc,List.drop_left,List.take_left]
theorem ya {arr:Array Keyed} {s n i j:Nat} (h:Srt C (seg arr.toList s n)) (hn:s+n<=arr.size) (hij:i<=j) (hj:j < n):kx C arr (s+i)<=kx C arr (s+j):=by
 rcases Nat.lt_or_ge i j with q | q
 ·have hl:(seg arr.toList s n).length=n:=Jh (by simpa using hn)
  have:=List.pairwise_iff_getElem.mp h i j (by omega) (by omega) q
  rw [Zi arr (by omega),Zi arr (by omega)]
  simpa [seg,List.getElem_take,List.getElem_drop] using this
 ·have:i=j:=by omega
  subst this;exact Int.le_refl _
theorem kE {arr:Array Keyed} {s n:Nat} (hn:s+n<=arr.size) (h:∀ i j,i<=j->j < n->kx C arr (s+i)<=kx C arr (s+j)):Srt C (seg arr.toList s n):=by
 refine List.pairwise_iff_getElem.mpr fun i j hi hj hij=>?_
 have hl:(seg arr.toList s n).length=n:=Jh (by simpa using hn)
 have:=h i j (by omega) (by omega)
 rw [Zi arr (by omega),Zi arr (by omega)] at this
 simpa [seg,List.getElem_take,List.getElem_drop] using this
def Runs (C:Cmp) (L:List Keyed):List (Nat×Nat×Nat)->Nat->Nat->Prop
 | [],s,e=>s=e
 | (x,n,_)::r,s,e=>x=s/\1<=n/\Srt C (seg L s n)/\Runs C L r (s+n) e
theorem Runs.le {L:List Keyed}:∀ {r:List (Nat×Nat×Nat)} {s e:Nat},Runs C L r s e->s+r.length<=e
 | [],_,_,h=>by cases h;simp
 | (x,n,_)::r,s,e,⟨_,h1,_,h2⟩=>by have:=Runs.le h2;simp;omega
theorem Runs.congr {L L':List Keyed}:∀ {r:List (Nat×Nat×Nat)} {s e:Nat},Runs C L r s e->(∀ a n,s<=a->a+n<=e->seg L' a n=seg L a n)->Runs C L' r s e
  | [],_,_,h,_=>h
  | (x,n,_)::r,s,e,⟨h0,h1,h2,h3⟩,q=>by
    have hle:=h3.le
    exact ⟨h0,h1,by rw [q s n (Nat.le_refl _) (by omega)];exact h2,h3.congr fun a m ha hm=>q a m (by omega) hm⟩
theorem Runs.app {L:List Keyed}:∀ {r r':List (Nat×Nat×Nat)} {s e:Nat},Runs C L (r++r') s e↔∃ m,Runs C L r s m/\Runs C L r' m e
  | [],r',s,e=>⟨fun h=>⟨s,rfl,h⟩,fun ⟨m,h1,h2⟩=>by cases h1;exact h2⟩
  | (x,n,_)::r,r',s,e=>by
    constructor
    . rintro ⟨h0,h1,h2,h3⟩
      obtain ⟨m,q1,q2⟩:=Runs.app.mp h3
      exact ⟨m,⟨h0,h1,h2,q1⟩,q2⟩
    . rintro ⟨m,⟨h0,h1,h2,h3⟩,q⟩
      exact ⟨h0,h1,h2,Runs.app.mpr ⟨m,h3,q⟩⟩
structure G (C:Cmp) (L0:List Keyed) (st:SortSt) (lo:Nat):Prop where
 kind:kindOf st=C.kd
 fine:failedOf st=none
 perm:(arrOf st).toList.Perm L0
 runs:Runs C (arrOf st).toList (pendingOf st).toList 0 lo
 le:lo<=(arrOf st).size
theorem yJ (off:Nat):∀ (M:List Keyed) (j0:Nat) (arr:Array Keyed),off+j0+M.length<=arr.size->((M.zipIdx j0).foldl (fun a x=>a.setIfInBounds (off+x.2) x.1) arr).toList=arr.toList.take (off+j0)++M++arr.toList.drop (off+j0+M.length)
  | [],j0,arr,h=>by simp
  | m::M,j0,arr,h=>by
    rw [List.zipIdx_cons,List.foldl_cons]
    have h':off+j0 < arr.size:=by simp at h;omega
    rw [yJ off M (j0+1) _ (by simp at h ⊢;omega)]
    have e:(arr.setIfInBounds (off+j0) m).toList=arr.toList.take (off+j0)++m::arr.toList.drop (off+j0+1):=by
      rw [Array.toList_setIfInBounds,List.set_eq_take_append_cons_drop,if_pos (by simpa using h')]
    have hl:(arr.toList.take (off+j0)).length=off+j0:=by simp;omega
    have t1:(arr.toList.take (off+j0)++m::arr.toList.drop (off+j0+1)).take (off+(j0+1))=arr.toList.take (off+j0)++[m]:=by
      rw [List.take_append,hl,show off+(j0+1) - (off+j0)=1 by omega,List.take_of_length_le (by omega)];simp
    have t2:(arr.toList.take (off+j0)++m::arr.toList.drop (off+j0+1)).drop (off+(j0+1)+M.length)=arr.toList.drop (off+j0+(m::M).length):=by
      rw [List.drop_append,hl,List.drop_of_length_le (by omega),show off+(j0+1)+M.length - (off+j0)=M.length+1 by omega]
      simp [List.drop_drop]
      congr 1
      omega
    show _=_
    rw [e,t1,t2]
    simp
theorem QaQ (i:Nat):mAt i=(do
  let s <- get
  let (some (sa,na,pw),some (sb,nb,_)):=((pendingOf s)[i]?,(pendingOf s)[i+1]?) | unsupported "internal:list.sort.pending"
  set (setPending s (((pendingOf s).setIfInBounds i (sa,na+nb,pw)).eraseIdxIfInBounds (i+1)))
  let some k <- gal false (<- elem' (arrOf s) sb) (arrOf s) sa na 0 | return false
  let (sa,na):=(sa+k,na - k)
  if na==0 then return true
  let some nb <- gal true (<- elem' (arrOf s) (sa+na - 1)) (arrOf s) sb nb (nb - 1) | return false
  if nb==0 then return true
  let x:=(arrOf s).extract sa sb
  let y:=(arrOf s).extract sb (sb+nb)
  let both <- if na<=nb then mLo x y else mHi x y
  modify fun s=>setArr s (both.toList.zipIdx.foldl (fun a x=>a.setIfInBounds (sa+x.2) x.1) (arrOf s))
  return (failedOf (<- get)).isNone):=rfl
theorem GX (a:Array Keyed) (s n:Nat):(a.extract s (s+n)).toList=seg a.toList s n:=jA a s n
theorem uw {σ:Type} {s' st:σ} {Q:PUnit->σ->Prop} (h:Q ⟨⟩ s'):W C (set s':StateT σ Sem PUnit) Q st:=by
 show wpS _ _ _ _ _ Q st
 unfold wpS
 rw [StateT.run_set];exact wpAny_pure ⟨rfl,h⟩
theorem k4 {L0:List Keyed} {st:SortSt} {lo i:Nat} {Q:Bool->SortSt->Prop} (hS:∀ p∈L0,C.S p) (g:G C L0 st lo) (hi:i+1 < (pendingOf st).size) (h:∀ st',G C L0 st' lo->(pendingOf st').size+1=(pendingOf st).size->(arrOf st').toList.drop lo=(arrOf st).toList.drop lo->Q true st'):W C (mAt i) Q st:=by
 have memS:∀ p∈(arrOf st).toList,C.S p:=fun p hp=>hS p (g.perm.mem_iff.mp hp)
 have e1:(pendingOf st)[i]?=some (pendingOf st)[i]:=getElem?_pos _ i (by omega)
 have e2:(pendingOf st)[i+1]?=some (pendingOf st)[i+1]:=getElem?_pos _ (i+1) hi
 obtain ⟨⟨sa,na,pw⟩,ea⟩:∃ x,(pendingOf st)[i]=x:=⟨_,rfl⟩
 obtain ⟨⟨sb,nb,pw2⟩,eb⟩:∃ x,(pendingOf st)[i+1]=x:=⟨_,rfl⟩
 rw [ea] at e1
 rw [eb] at e2
 have split:(pendingOf st).toList=(pendingOf st).toList.take i++(sa,na,pw)::(sb,nb,pw2)::(pendingOf st).toList.drop (i+2):=by
  have l1:i < (pendingOf st).toList.length:=by simp;omega
  have l2:i+1 < (pendingOf st).toList.length:=by simpa using hi
  conv=>lhs;rw [<- List.take_append_drop i (pendingOf st).toList,List.drop_eq_getElem_cons l1,List.drop_eq_getElem_cons l2]
  simp [ea,eb]
 have newp:(((pendingOf st).setIfInBounds i (sa,na+nb,pw)).eraseIdxIfInBounds (i+1)).toList=(pendingOf st).toList.take i++(sa,na+nb,pw)::(pendingOf st).toList.drop (i+2):=by
  have l1:i < (pendingOf st).toList.length:=by simp;omega
  have:∀ (x:Array (Nat×Nat×Nat)) k,(x.eraseIdxIfInBounds k).toList=x.toList.eraseIdx k:=fun x k=>by
   have e:x=x.toList.toArray:=by simp
   conv=>lhs;rw [e,List.eraseIdxIfInBounds_toArray]
  rw [this,Array.toList_setIfInBounds,List.set_eq_take_append_cons_drop,if_pos l1]
  have l3:((pendingOf st).toList.take i).length=i:=by simp;omega
  rw [List.eraseIdx_append_of_length_le (by omega),l3,show i+1 - i=1 by omega]
  rw [List.drop_eq_getElem_cons (by simpa using hi)]
  rfl
 have r:=g.runs
 rw [split] at r
 obtain ⟨m,r1,⟨hsa,hna,sA,hsb,hnb,sB,r2⟩⟩:=Runs.app.mp r
 subst hsa hsb
 have hle:=r2.le
 have hsz:=g.le
 have hlen:(arrOf st).toList.length=(arrOf st).size:=by simp
 have lr1:=r1.le
 generalize hL:(arrOf st).toList=L at *
 have done:∀ (st':SortSt) (M:List Keyed),kindOf st'=kindOf st->failedOf st'=failedOf st->pendingOf st'=((pendingOf st).setIfInBounds i (sa,na+nb,pw)).eraseIdxIfInBounds (i+1)->(arrOf st').toList=L.take sa++M++L.drop (sa+(na+nb))->Srt C M->M.Perm (seg L sa na++seg L (sa+na) nb)->Q true st':=by
  intro st' M q1 q2 q3 q4 q5 q6
  have hM:M.length=na+nb:=by rw [q6.length_eq,List.length_append,Jh (by omega),Jh (by omega)]
  have hT:(L.take sa).length=sa:=by simp;omega
  have hOld:=jN L sa (na+nb)
  have hseg:(seg L sa (na+nb)).length=M.length:=by rw [Jh (by omega),hM]
  refine h st' ⟨q1.trans g.kind,q2.trans g.fine,?_,?_,?_⟩ ?_ ?_
  ·rw [q4]
   refine List.Perm.trans ?_ (show L.Perm L0 from hL▸g.perm)
   conv=>rhs;rw [hOld,qM]
   exact List.Perm.append_right _ (List.Perm.append_left _ q6)
  ·rw [q3,newp,q4]
   refine Runs.app.mpr ⟨sa,r1.congr fun a n ha hn=>?_,rfl,by omega,?_,?_⟩
   ·conv=>rhs;rw [hOld]
    exact kz (by rw [hT];omega)
   ·rw [ku hT.symm hM.symm];exact q5
   ·have r2':Runs C L ((pendingOf st).toList.drop (i+2)) (sa+(na+nb)) lo:=by rw [<- Nat.add_assoc];exact r2
    refine r2'.congr fun a n ha hn=>?_
    conv=>rhs;rw [hOld]
    exact vX hseg.symm (by rw [hT,hM];omega)
  ·have:(arrOf st').size=(arrOf st).size:=by
    have e:=congrArg List.length q4
    rw [List.length_append,List.length_append,hM,hT,List.length_drop] at e
    rw [<- Array.length_toList,e];omega
   omega
  ·have e:=congrArg List.length newp
   rw [<- q3] at e
   have e0:=congrArg List.length split
   simp at e e0
   omega
  ·have d:L.drop lo=(L.drop (sa+(na+nb))).drop (lo - (sa+(na+nb))):=by rw [List.drop_drop];congr 1;omega
   have hl:(L.take sa++M).length=sa+(na+nb):=by rw [List.length_append,hT,hM]
   rw [q4,d,List.drop_append,hl,List.drop_eq_nil_of_le (by rw [hl];omega),List.nil_append]
 rw [QaQ]
 refine wpS_bind (wpS_get ?_)
 simp only [e1,e2]
 refine wpS_bind (uw ?_)
 have kd:kindOf (setPending st (((pendingOf st).setIfInBounds i (sa,na+nb,pw)).eraseIdxIfInBounds (i+1)))=C.kd:=g.kind
 generalize hst:setPending st (((pendingOf st).setIfInBounds i (sa,na+nb,pw)).eraseIdxIfInBounds (i+1))=st1 at kd
 have h1k:kindOf st1=kindOf st:=by rw [<- hst]
 have h1f:failedOf st1=failedOf st:=by rw [<- hst]
 have h1p:pendingOf st1=((pendingOf st).setIfInBounds i (sa,na+nb,pw)).eraseIdxIfInBounds (i+1):=by rw [<- hst]
 have h1a:arrOf st1=arrOf st:=by rw [<- hst]
 have hbs:sa+na < (arrOf st).size:=by omega
 have sA':Srt C (seg (arrOf st).toList sa na):=by rw [hL];exact sA
 have sB':Srt C (seg (arrOf st).toList (sa+na) nb):=by rw [hL];exact sB
 have memS':∀ p∈(arrOf st).toList,C.S p:=by rw [hL];exact memS
 have b0:∀ y∈seg L (sa+na) nb,C.key (arrOf st)[sa+na]<=C.key y:=fun y hy=>by
  rw [<- hL] at hy
  obtain ⟨t,ht,z,rfl⟩:=Xo hy
  have:=ya sB' (by omega) (Nat.zero_le t) ht
  rw [Nat.add_zero,Zi _ hbs,Zi _ z] at this
  exact this
 refine wpS_bind (QW hbs (wpS_bind (JC (fun t=>!decide (C.key (arrOf st)[sa+na] < kx C (arrOf st) (sa+t))) kd (memS' _ (by simp)) memS' (by omega) (by omega) (fun t _=>rfl) (fun s t h1 h2 h3=>?_) fun k h1 h2 h3=>?_)))
 ·have q:=ya sA' (by omega) h1 h2
  simp only [Bool.not_eq_true',decide_eq_false_iff_not] at h3 ⊢
  omega
 dsimp only
 have A1:∀ x∈seg L sa k,C.key x<=C.key (arrOf st)[sa+na]:=fun x hx=>by
  rw [<- hL] at hx
  obtain ⟨t,ht,z,rfl⟩:=Xo hx
  have e:=h2 t ht
  simp only [Bool.not_eq_true',decide_eq_false_iff_not] at e
  rw [Zi _ z] at e
  omega
 have A2:∀ x∈seg L (sa+k) (na - k),C.key (arrOf st)[sa+na] < C.key x:=fun x hx=>by
  rw [<- hL] at hx
  obtain ⟨t,ht,z,rfl⟩:=Xo hx
  have e:=h3 (k+t) (by omega) (by omega)
  simp only [Bool.not_eq_false',decide_eq_true_eq] at e
  rw [<- Nat.add_assoc,Zi _ z] at e
  exact e
 have eA:seg L sa na=seg L sa k++seg L (sa+k) (na - k):=by rw [<- qM,show k+(na - k)=na by omega]
 have same:(arrOf st1).toList=L.take sa++(seg L sa na++seg L (sa+na) nb)++L.drop (sa+(na+nb)):=by
  rw [h1a,hL,<- qM];exact jN L sa (na+nb)
 by_cases hz:na - k=0
 ·rw [if_pos (by simpa using hz)]
  have hk':k=na:=by omega
  subst hk'
  exact wpS_pure (done st1 _ h1k h1f h1p same (sA.app sB fun x hx y hy=>Int.le_trans (A1 x hx) (b0 y hy)) (List.Perm.refl _))
 rw [if_neg (by simpa using hz)]
 have hla:sa+k+(na - k) - 1 < (arrOf st).size:=by omega
 have eidx:sa+k+(na - k) - 1=sa+(na - 1):=by omega
 have kl:∀ x∈seg L sa na,C.key x<=C.key ((arrOf st)[sa+k+(na - k) - 1]'hla):=fun x hx=>by
  rw [<- hL] at hx
  obtain ⟨t,ht,z,rfl⟩:=Xo hx
  have e:=ya sA' (by omega) (show t<=na - 1 by omega) (by omega)
  rw [Zi _ z,<- eidx,Zi _ hla] at e
  exact e
 refine wpS_bind (QW hla (wpS_bind (JC (fun t=>decide (kx C (arrOf st) (sa+na+t) < C.key ((arrOf st)[sa+k+(na - k) - 1]'hla))) kd (memS' _ (by simp)) memS' (by omega) (by omega) (fun t _=>rfl) (fun s t h1 h2 h3=>?_) fun nb' g1 g2 g3=>?_)))
 ·exact decide_eq_true (Int.lt_of_le_of_lt (ya sB' (by omega) h1 h2) (of_decide_eq_true h3))
 dsimp only
 generalize hal:C.key ((arrOf st)[sa+k+(na - k) - 1]'hla)=al at kl g2 g3
 have B1:∀ y∈seg L (sa+na) nb',C.key y < al:=fun y hy=>by
  rw [<- hL] at hy
  obtain ⟨t,ht,z,rfl⟩:=Xo hy
  have e:=of_decide_eq_true (g2 t ht)
  rwa [Zi _ z] at e
 have B2:∀ y∈seg L (sa+na+nb') (nb - nb'),al<=C.key y:=fun y hy=>by
  rw [<- hL] at hy
  obtain ⟨t,ht,z,rfl⟩:=Xo hy
  have e:=of_decide_eq_false (g3 (nb'+t) (by omega) (by omega))
  rw [<- Nat.add_assoc,Zi _ z] at e
  omega
 have eB:seg L (sa+na) nb=seg L (sa+na) nb'++seg L (sa+na+nb') (nb - nb'):=by rw [<- qM,show nb'+(nb - nb')=nb by omega]
 by_cases hz2:nb'=0
 ·rw [if_pos (by simpa using hz2)]
  subst hz2
  refine wpS_pure (done st1 _ h1k h1f h1p same (sA.app sB fun x hx y hy=>?_) (List.Perm.refl _))
  exact Int.le_trans (kl x hx) (B2 y (by simpa using hy))
 rw [if_neg (by simpa using hz2)]
 have ex:((arrOf st).extract (sa+k) (sa+na)).toList=seg L (sa+k) (na - k):=by
  rw [show sa+na=sa+k+(na - k) by omega,GX,hL]
 have ey:((arrOf st).extract (sa+na) (sa+na+nb')).toList=seg L (sa+na) nb':=by rw [GX,hL]
 have sx:((arrOf st).extract (sa+k) (sa+na)).size=na - k:=by rw [<- Array.length_toList,ex,Jh (by omega)]
 have sy:((arrOf st).extract (sa+na) (sa+na+nb')).size=nb':=by rw [<- Array.length_toList,ey,Jh (by omega)]
 have sX:Srt C (seg L (sa+k) (na - k)):=by rw [eA] at sA;exact (List.pairwise_append.mp sA).2.1
 have sY:Srt C (seg L (sa+na) nb'):=by rw [eB] at sB;exact (List.pairwise_append.mp sB).1
 have sY2:Srt C (seg L (sa+na+nb') (nb - nb')):=by rw [eB] at sB;exact (List.pairwise_append.mp sB).2.1
 have sA1:Srt C (seg L sa k):=by rw [eA] at sA;exact (List.pairwise_append.mp sA).1
 have inL:∀ s n,∀ p∈seg L s n,p∈L:=fun s n p hp=>List.mem_of_mem_drop (List.mem_of_mem_take hp)
 have T:Two C ((arrOf st).extract (sa+k) (sa+na)) ((arrOf st).extract (sa+na) (sa+na+nb')):=by
  refine ⟨by rw [ex];exact sX,by rw [ey];exact sY,by rw [ex];exact fun p hp=>memS p (inL _ _ p hp),by rw [ey];exact fun p hp=>memS p (inL _ _ p hp),by omega,by omega,?_,?_⟩
  ·rw [ex,ey]
   intro y hy x hx
   have:x∈seg L (sa+na) 1:=by
    unfold seg at hx ⊢
    rw [List.take_take] at hx
    rwa [Nat.min_eq_left (by omega)] at hx
   rw [<- hL] at this
   have e:=Z8 (arrOf st) hbs
   unfold seg at this
   rw [e] at this
   rw [List.mem_singleton.mp this]
   exact Int.le_of_lt (A2 y hy)
  ·rw [ex,ey,sx]
   intro x hx y hy
   have hx':x∈seg L (sa+k+(na - k) - 1) 1:=by
    unfold seg at hx ⊢
    rw [List.drop_take,List.drop_drop,show na - k - (na - k - 1)=1 by omega] at hx
    rwa [show sa+k+(na - k) - 1=sa+k+(na - k - 1) by omega]
   rw [<- hL] at hx'
   have e:=Z8 (arrOf st) hla
   unfold seg at hx'
   rw [e] at hx'
   rw [List.mem_singleton.mp hx',hal]
   exact Int.le_of_lt (B1 y hy)
 have fin:∀ (r:Array Keyed) (st2:SortSt),Sm st1 st2->Fin C ((arrOf st).extract (sa+k) (sa+na)).toList ((arrOf st).extract (sa+na) (sa+na+nb')).toList r.toList->W C (do
   modify fun s=>setArr s (r.toList.zipIdx.foldl (fun a x=>a.setIfInBounds (sa+k+x.2) x.1) (arrOf s))
   let __do_lift <- get
   pure (failedOf __do_lift).isNone:StateT SortSt Sem Bool) Q st2:=by
  intro r st2 hs ⟨f1,f2⟩
  rw [ex,ey] at f2
  refine wpS_bind (wpS_modify (wpS_bind (wpS_get ?_)))
  have hf:failedOf (setArr st2 (r.toList.zipIdx.foldl (fun a x=>a.setIfInBounds (sa+k+x.2) x.1) (arrOf st2)))=none:=(hs.2.2.2.trans h1f).trans g.fine
  rw [hf]
  have rl:r.toList.length=na - k+nb':=by rw [f2.length_eq,List.length_append,Jh (by omega),Jh (by omega)]
  have a2:arrOf st2=arrOf st:=hs.2.1.trans h1a
  have mem2:∀ x∈r.toList,x∈seg L (sa+k) (na - k)∨x∈seg L (sa+na) nb':=fun x hx=>List.mem_append.mp (f2.mem_iff.mp hx)
  refine wpS_pure (done _ (seg L sa k++r.toList++seg L (sa+na+nb') (nb - nb')) (hs.1.trans h1k) (hs.2.2.2.trans h1f) (hs.2.2.1.trans h1p) ?_ ?_ ?_)
  ·show ((r.toList.zipIdx.foldl (fun a x=>a.setIfInBounds (sa+k+x.2) x.1) (arrOf st2)).toList)=_
   rw [a2,yJ (sa+k) r.toList 0 (arrOf st) (by rw [rl];omega),hL,Nat.add_zero,rl]
   have t1:L.take (sa+k)=L.take sa++seg L sa k:=by unfold seg;rw [List.take_add]
   have t2:L.drop (sa+k+(na - k+nb'))=seg L (sa+na+nb') (nb - nb')++L.drop (sa+(na+nb)):=by
    unfold seg
    rw [show sa+k+(na - k+nb')=sa+na+nb' by omega,show L.drop (sa+(na+nb))=(L.drop (sa+na+nb')).drop (nb - nb') by rw [List.drop_drop];congr 1;omega,List.take_append_drop]
   rw [t1,t2]
   simp [List.append_assoc]
  ·refine (sA1.app f1 fun x hx y hy=>?_).app sY2 fun x hx y hy=>?_
   ·rcases mem2 y hy with w | w
    ·exact Int.le_trans (A1 x hx) (Int.le_of_lt (A2 y w))
    ·exact Int.le_trans (A1 x hx) (b0 y (by rw [eB];exact List.mem_append_left _ w))
   ·have hy':=B2 y hy
    rcases List.mem_append.mp hx with w | w
    ·exact Int.le_trans (A1 x w) (b0 y (by rw [eB];exact List.mem_append_right _ hy))
    ·rcases mem2 x w with v | v
     ·exact Int.le_trans (kl x (by rw [eA];exact List.mem_append_right _ v)) hy'
     ·exact Int.le_of_lt (Int.lt_of_lt_of_le (B1 x v) hy')
  ·rw [eA,eB]
   have:(seg L sa k++r.toList++seg L (sa+na+nb') (nb - nb')).Perm (seg L sa k++(seg L (sa+k) (na - k)++seg L (sa+na) nb')++seg L (sa+na+nb') (nb - nb')):=List.Perm.append_right _ (List.Perm.append_left _ f2)
   simpa [List.append_assoc] using this
 by_cases hle2:na - k<=nb'
 ·rw [if_pos hle2]
  exact wpS_bind (QbX T kd fun r st2 hs hf=>fin r st2 hs hf)
 ·rw [if_neg hle2]
  exact wpS_bind (QbW T kd fun r st2 hs hf=>fin r st2 hs hf)
end TS
namespace TS
open PySem PyProof.Rows
variable {C:Cmp}
structure Bs (C:Cmp) (st₀ st:SortSt) (lo:Nat):Prop where
 kind:kindOf st=C.kd
 fine:failedOf st=none
 pend:pendingOf st=pendingOf st₀
 perm:(arrOf st).toList.Perm (arrOf st₀).toList
 low:∀ i:Nat,i < lo->(arrOf st)[i]?=(arrOf st₀)[i]?
 mem:∀ p∈(arrOf st₀).toList,C.S p
def SR (C:Cmp) (st:SortSt) (lo n:Nat):Prop:=∀ i j,i<=j->j < n->kx C (arrOf st) (lo+i)<=kx C (arrOf st) (lo+j)
def NI (C:Cmp) (st:SortSt) (lo n:Nat):Prop:=∀ i j,i<=j->j < n->kx C (arrOf st) (lo+j)<=kx C (arrOf st) (lo+i)
section
variable {st₀ st:SortSt} {lo n m:Nat}
theorem Bs.size (b:Bs C st₀ st lo):(arrOf st).size=(arrOf st₀).size:=by have:=b.perm.length_eq;simpa using this
theorem Bs.ok (b:Bs C st₀ st lo):Ok C st:=⟨b.kind,b.fine,fun p hp=>b.mem p (b.perm.mem_iff.mp hp)⟩
theorem Bs.set (b:Bs C st₀ st lo) {xs:Array Keyed} (hp:xs.Perm (arrOf st)) (hl:∀ i:Nat,i < lo->xs[i]?=(arrOf st)[i]?):Bs C st₀ (setArr st xs) lo :=
 ⟨b.kind,b.fine,b.pend,(Array.perm_iff_toList_perm.mp hp).trans b.perm,fun i h=>(hl i h).trans (b.low i h),b.mem⟩
theorem yN {xs ys:Array Keyed} {i j:Nat} (h:xs[i]?=ys[j]?):kx C xs i=kx C ys j:=by unfold kx;rw [h]
theorem Y5 {xs:Array Keyed} {i j:Nat} (hj:j<=xs.size) (k:Nat):kx C (mirror xs i j ((j - i) / 2)) k=if i<=k/\k < j then kx C xs (i+j - 1 - k) else kx C xs k:=by
 have e:=getElem?_mirror_all (i:=i) hj k
 split at e<;>rename_i q
 ·rw [if_pos q];exact yN e
 ·rw [if_neg q];exact yN e
theorem Bs.mirror (b:Bs C st₀ st lo) {i j:Nat} (hi:lo<=i) (hj:j<=(arrOf st).size):Bs C st₀ (setArr st (mirror (arrOf st) i j ((j - i) / 2))) lo :=
 b.set (mirror_perm _ _ _ _) fun k hk=>by rw [getElem?_mirror_all hj,if_neg (by omega)]
theorem xJ {xs:Array Keyed} {i j:Nat} (hj:j<=xs.size) (he:∀ k,i<=k->k < j->kx C xs k=kx C xs (j - 1)) (k:Nat):kx C (mirror xs i j ((j - i) / 2)) k=kx C xs k:=by
 rw [Y5 hj]
 split
 ·rename_i q
  rw [he (i+j - 1 - k) (by omega) (by omega),he k q.1 q.2]
 ·rfl
theorem Ke {i j:Nat} {Q:Unit->SortSt->Prop} (h:Q () (setArr st (mirror (arrOf st) i j ((j - i) / 2)))):W C (reverseSlice' i j) Q st:=by
 rw [reverseSlice'_eq];exact wpS_modify h
def uq (lo n nrem:Nat):StateT SortSt Sem (Option Nat):=do
 reverseSlice' lo (lo+n)
 let mut m:=n
 for _ in [n:nrem] do
  let some less <- ltAt' (lo+m) (lo+m - 1) | return none
  if less then break
  m:=m+1
 return some m
theorem Kk {nrem:Nat} {Q:Option Nat->SortSt->Prop} (b:Bs C st₀ st lo) (h1:1<=n) (hn:n<=nrem) (hs:lo+nrem<=(arrOf st₀).size) (ni:NI C st lo n) (h:∀ m st',Bs C st₀ st' lo->1<=m->m<=nrem->SR C st' lo m->Q (some m) st'):W C (uq lo n nrem) Q st:=by
 unfold uq
 have hz:=b.size
 refine wpS_bind (Ke ?_)
 have b1:=b.mirror (i:=lo) (j:=lo+n) (Nat.le_refl _) (by omega)
 have s1:SR C (setArr st (PyProof.Rows.mirror (arrOf st) lo (lo+n) ((lo+n - lo) / 2))) lo n:=fun i j hij hj=>by
  show kx C (PyProof.Rows.mirror _ _ _ _) _<=kx C (PyProof.Rows.mirror _ _ _ _) _
  rw [Y5 (by omega),Y5 (by omega),if_pos (by omega),if_pos (by omega)]
  have:=ni (n - 1 - j) (n - 1 - i) (by omega) (by omega)
  rw [show lo+(lo+n) - 1 - (lo+i)=lo+(n - 1 - i) by omega,show lo+(lo+n) - 1 - (lo+j)=lo+(n - 1 - j) by omega]
  exact this
 generalize setArr st (PyProof.Rows.mirror (arrOf st) lo (lo+n) ((lo+n - lo) / 2))=st1 at b1 s1 ⊢
 have hz1:=b1.size
 dsimp only
 refine wpS_bind (wpS_mono (wpS_forRange (I:=fun x c st'=>st'=st1/\c=(none,x)/\SR C st1 lo x) (Q:=fun c st'=>st'=st1/\∃ m,c=(none,m)/\1<=m/\m<=nrem/\SR C st1 lo m) ?step ?fin ⟨rfl,rfl,s1⟩) ?post)
 case post =>
  rintro c st' ⟨rfl,m,rfl,q1,q2,q3⟩
  exact wpS_pure (h m _ b1 q1 q2 q3)
 case fin =>
  rintro c st' ⟨rfl,rfl,q⟩
  rw [show max n nrem=nrem by omega] at q ⊢
  exact ⟨rfl,nrem,rfl,by omega,Nat.le_refl _,q⟩
 case step =>
  rintro x c st' hx hxn ⟨rfl,rfl,q⟩
  dsimp only
  refine wpS_bind (Y7 b1.ok (by omega) (by omega) ?_)
  by_cases hl:kx C (arrOf st') (lo+x) < kx C (arrOf st') (lo+x - 1)
  ·simp only [hl,decide_true,if_true]
   exact wpS_pure ⟨rfl,x,rfl,by omega,by omega,q⟩
  ·simp only [hl,decide_false,Bool.false_eq_true,if_false]
   refine wpS_pure ⟨rfl,rfl,fun i j hij hj=>?_⟩
   rcases Nat.lt_or_ge j x with w | w
   ·exact q i j hij w
   ·have:j=x:=by omega
    subst this
    rcases Nat.lt_or_ge i j with v | v
    ·have:=q i (j - 1) (by omega) (by omega)
     rw [show lo+(j - 1)=lo+j - 1 by omega] at this
     omega
    ·have:i=j:=by omega
     subst this;exact Int.le_refl _
def kS (lo n0 nrem:Nat):StateT SortSt Sem (Option Nat):=do
 rule "list.sort.descending-run"
 let mut n:=n0+1
 let mut eqs:=0
 for _ in [n:nrem] do
  let some less <- ltAt' (lo+n) (lo+n - 1) | return none
  if less then
   if eqs > 0 then reverseSlice' (lo+n - (eqs+1)) (lo+n)
   eqs:=0
  else
   let some more <- ltAt' (lo+n - 1) (lo+n) | return none
   if more then break
   eqs:=eqs+1
  n:=n+1
 if eqs > 0 then reverseSlice' (lo+n - (eqs+1)) (lo+n)
 uq lo n nrem
theorem Uo {nrem:Nat} {Q:Option Nat->SortSt->Prop} (b:Bs C st₀ st lo) (hn:n+1<=nrem) (hs:lo+nrem<=(arrOf st₀).size) (ni:NI C st lo (n+1)) (h:∀ m st',Bs C st₀ st' lo->1<=m->m<=nrem->SR C st' lo m->Q (some m) st'):W C (kS lo n nrem) Q st:=by
 unfold kS
 refine wpS_bind (qd ?_)
 dsimp only
 refine wpS_bind (wpS_mono (wpS_forRange (I:=fun x c st'=>∃ eqs,c=(none,x,eqs)/\Bs C st₀ st' lo/\NI C st' lo x/\eqs+1<=x/\∀ i,x - (eqs+1)<=i->i < x->kx C (arrOf st') (lo+i)=kx C (arrOf st') (lo+x - 1))
  (Q:=fun c st'=>∃ x eqs,c=(none,x,eqs)/\Bs C st₀ st' lo/\NI C st' lo x/\eqs+1<=x/\1<=x/\x<=nrem/\∀ i,x - (eqs+1)<=i->i < x->kx C (arrOf st') (lo+i)=kx C (arrOf st') (lo+x - 1)) ?step ?fin ⟨0,rfl,b,ni,by omega,fun i h1 h2=>by congr 1;omega⟩) ?post)
 case fin =>
  rintro c st' ⟨eqs,rfl,q1,q2,q3,q4⟩
  rw [show max (n+1) nrem=nrem by omega] at q2 q3 q4 ⊢
  exact ⟨nrem,eqs,rfl,q1,q2,q3,by omega,Nat.le_refl _,q4⟩
 case step =>
  rintro x c st' hx hxn ⟨eqs,rfl,q1,q2,q3,q4⟩
  dsimp only
  have hz:=q1.size
  refine wpS_bind (Y7 q1.ok (by omega) (by omega) ?_)
  by_cases hl:kx C (arrOf st') (lo+x) < kx C (arrOf st') (lo+x - 1)
  ·simp only [hl,decide_true,if_true]
   have more:∀ ys:Array Keyed,(∀ k,kx C ys k=kx C (arrOf st') k)->∀ i j,i<=j->j < x+1->kx C ys (lo+j)<=kx C ys (lo+i):=fun ys hy i j hij hj=>by
    rw [hy,hy]
    rcases Nat.lt_or_ge j x with w | w
    ·exact q2 i j hij w
    ·have:j=x:=by omega
     subst this
     rcases Nat.lt_or_ge i j with v | v
     ·have:=q2 i (j - 1) (by omega) (by omega)
      rw [show lo+(j - 1)=lo+j - 1 by omega] at this
      omega
     ·have:i=j:=by omega
      subst this;exact Int.le_refl _
   by_cases he:eqs > 0
   ·rw [if_pos he]
    refine wpS_bind (Ke (wpS_pure ⟨0,rfl,q1.mirror (by omega) (by omega),more _ (xJ (by omega) fun k h1 h2=>?_),by omega,fun i h1 h2=>by congr 1;omega⟩))
    have e:=q4 (k - lo) (by omega) (by omega)
    rwa [show lo+(k - lo)=k by omega] at e
   ·rw [if_neg he]
    exact wpS_pure ⟨0,rfl,q1,more _ fun _=>rfl,by omega,fun i h1 h2=>by congr 1;omega⟩
  ·simp only [hl,decide_false,Bool.false_eq_true,if_false]
   refine wpS_bind (Y7 q1.ok (by omega) (by omega) ?_)
   by_cases hm:kx C (arrOf st') (lo+x - 1) < kx C (arrOf st') (lo+x)
   ·simp only [hm,decide_true,if_true]
    exact wpS_pure ⟨x,eqs,rfl,q1,q2,q3,by omega,by omega,q4⟩
   ·simp only [hm,decide_false,Bool.false_eq_true,if_false]
    have ee:kx C (arrOf st') (lo+x)=kx C (arrOf st') (lo+x - 1):=by omega
    refine wpS_pure ⟨eqs+1,rfl,q1,fun i j hij hj=>?_,by omega,fun i h1 h2=>?_⟩
    ·rcases Nat.lt_or_ge j x with w | w
     ·exact q2 i j hij w
     ·have:j=x:=by omega
      subst this
      rcases Nat.lt_or_ge i j with v | v
      ·have:=q2 i (j - 1) (by omega) (by omega)
       rw [show lo+(j - 1)=lo+j - 1 by omega] at this
       omega
      ·have:i=j:=by omega
       subst this;exact Int.le_refl _
    ·rw [show lo+(x+1) - 1=lo+x by omega]
     rcases Nat.lt_or_ge i x with w | w
     ·rw [q4 i (by omega) w,ee]
     ·have:i=x:=by omega
      subst this;rfl
 case post =>
  rintro c st' ⟨x,eqs,rfl,q1,q2,q3,q4,q5,q6⟩
  dsimp only
  have hz:=q1.size
  by_cases he:eqs > 0
  ·rw [if_pos he]
   refine wpS_bind (Ke (Kk (q1.mirror (by omega) (by omega)) q4 q5 hs ?_ h))
   intro i j hij hj
   show kx C (PyProof.Rows.mirror _ _ _ _) _<=kx C (PyProof.Rows.mirror _ _ _ _) _
   have same:=xJ (C:=C) (xs:=arrOf st') (i:=lo+x - (eqs+1)) (j:=lo+x) (by omega) fun k h1 h2=>by
    have e:=q6 (k - lo) (by omega) (by omega)
    rwa [show lo+(k - lo)=k by omega] at e
   rw [same,same]
   exact q2 i j hij hj
  ·rw [if_neg he]
   exact Kk q1 q4 q5 hs q2 h
theorem VE {nrem:Nat} {Q:Option Nat->SortSt->Prop} (b:Bs C st₀ st lo) (h1:1<=nrem) (hs:lo+nrem<=(arrOf st₀).size) (h:∀ m st',Bs C st₀ st' lo->1<=m->m<=nrem->SR C st' lo m->Q (some m) st'):W C (countRun' lo nrem) Q st:=by
 have hz:=b.size
 rw [countRun'_eq]
 dsimp only
 refine wpS_bind (wpS_mono (wpS_forRange (I:=fun x c st'=>st'=st/\c=(none,x)/\SR C st lo x) (Q:=fun c st'=>st'=st/\∃ m,c=(none,m)/\1<=m/\m<=nrem/\SR C st lo m/\(m=nrem∨kx C (arrOf st) (lo+m) < kx C (arrOf st) (lo+m - 1))) ?step ?fin ⟨rfl,rfl,fun i j hij hj=>(by obtain rfl:i=j:=(by omega);exact Int.le_refl _)⟩) ?post)
 case fin =>
  rintro c st' ⟨rfl,rfl,q⟩
  rw [show max 1 nrem=nrem by omega] at q ⊢
  exact ⟨rfl,nrem,rfl,by omega,Nat.le_refl _,q,.inl rfl⟩
 case step =>
  rintro x c st' hx hxn ⟨rfl,rfl,q⟩
  dsimp only
  refine wpS_bind (Y7 b.ok (by omega) (by omega) ?_)
  by_cases hl:kx C (arrOf st') (lo+x) < kx C (arrOf st') (lo+x - 1)
  ·simp only [hl,decide_true,if_true]
   exact wpS_pure ⟨rfl,x,rfl,by omega,by omega,q,.inr hl⟩
  ·simp only [hl,decide_false,Bool.false_eq_true,if_false]
   refine wpS_pure ⟨rfl,rfl,fun i j hij hj=>?_⟩
   rcases Nat.lt_or_ge j x with w | w
   ·exact q i j hij w
   ·have:j=x:=by omega
    subst this
    rcases Nat.lt_or_ge i j with v | v
    ·have:=q i (j - 1) (by omega) (by omega)
     rw [show lo+(j - 1)=lo+j - 1 by omega] at this
     omega
    ·have:i=j:=by omega
     subst this;exact Int.le_refl _
 case post =>
  rintro c st' ⟨rfl,m,rfl,q1,q2,q3,q4⟩
  dsimp only
  by_cases hm:m=nrem
  ·rw [if_pos (by simpa using hm)]
   exact wpS_pure (h m _ b q1 q2 q3)
  ·rw [if_neg (by simpa using hm)]
   have lt:=q4.resolve_left hm
   by_cases hg:m > 1
   ·rw [if_pos hg]
    refine wpS_bind (Y7 b.ok (by omega) (by omega) ?_)
    by_cases hr:kx C (arrOf st') lo < kx C (arrOf st') (lo+m - 1)
    ·simp only [hr,decide_true,if_true]
     exact wpS_pure (h m _ b q1 q2 q3)
    ·simp only [hr,decide_false,Bool.false_eq_true,if_false]
     have all:∀ k,k < m->kx C (arrOf st') (lo+k)=kx C (arrOf st') (lo+m - 1):=fun k hk=>by
      have e1:=q3 0 k (by omega) hk
      have e2:=q3 k (m - 1) (by omega) (by omega)
      rw [show lo+(m - 1)=lo+m - 1 by omega] at e2
      rw [Nat.add_zero] at e1
      omega
     have same:=xJ (C:=C) (xs:=arrOf st') (i:=lo) (j:=lo+m) (by omega) fun k h1 h2=>by
      have e:=all (k - lo) (by omega)
      rwa [show lo+(k - lo)=k by omega] at e
     refine wpS_bind (Ke (Uo (b.mirror (Nat.le_refl _) (by omega)) (by omega) hs (fun i j hij hj=>?_) h))
     show kx C (PyProof.Rows.mirror _ _ _ _) _<=kx C (PyProof.Rows.mirror _ _ _ _) _
     rw [same,same]
     rcases Nat.lt_or_ge j m with w | w
     ·rw [all i (by omega),all j w];exact Int.le_refl _
     ·have:j=m:=by omega
      subst this
      rcases Nat.lt_or_ge i j with v | v
      ·rw [all i v];exact Int.le_of_lt lt
      ·have:i=j:=by omega
       subst this;exact Int.le_refl _
   ·rw [if_neg hg]
    have:m=1:=by omega
    subst this
    refine Uo b (by omega) hs (fun i j hij hj=>?_) h
    rcases Nat.lt_or_ge i j with v | v
    ·have e1:i=0:=by omega
     have e2:j=1:=by omega
     subst e1 e2
     rw [Nat.add_zero]
     exact Int.le_of_lt lt
    ·have:i=j:=by omega
     subst this;exact Int.le_refl _
theorem KL {xs:Array Keyed} {src d:Nat} (hs:src < xs.size) (hd:d<=src) (k:Nat):kx C (bubble xs src d) k=if k=src - d then kx C xs src else if src - d < k/\k<=src then kx C xs (k - 1) else kx C xs k:=by
 have e:=getElem?_bubble hs d hd k
 split at e<;>rename_i q
 ·rw [if_pos q];exact yN e
 ·rw [if_neg q]
  split at e<;>rename_i q2
  ·rw [if_pos q2];exact yN e
  ·rw [if_neg q2];exact yN e
theorem Gw {ok:Nat} {Q:Bool->SortSt->Prop} (b:Bs C st₀ st lo) (h1:1<=ok) (hn:ok<=n) (hs:lo+n<=(arrOf st₀).size) (sr:SR C st lo ok) (h:∀ st',Bs C st₀ st' lo->SR C st' lo n->Q true st'):W C (binarySort' lo n ok) Q st:=by
 rw [binarySort'_eq]
 refine wpS_bind (wpS_mono (wpS_forRange (I:=fun k c st'=>c=(none,())/\Bs C st₀ st' lo/\SR C st' lo (min k n)) (Q:=fun c st'=>c=(none,())/\Bs C st₀ st' lo/\SR C st' lo n) ?step ?fin ?init) ?post)
 case post =>
  rintro c st' ⟨rfl,q1,q2⟩
  exact wpS_pure (h st' q1 q2)
 case init=>exact ⟨rfl,b,fun i j hij hj=>sr i j hij (by omega)⟩
 case fin =>
  rintro c st' ⟨e,q1,q2⟩
  refine ⟨e,q1,?_⟩
  rwa [show min (max (max ok 1) n) n=n by omega] at q2
 case step =>
  rintro k c st' hk hkn ⟨rfl,q1,q2⟩
  rw [show min k n=k by omega] at q2
  have hz:=q1.size
  refine wpS_bind (wpS_mono (wpS_forRange (I:=fun x c st''=>st''=st'/\∃ l r,c=(none,l,r)/\l<=r/\r<=k/\r - l<=k - x/\(∀ i,i < l->kx C (arrOf st') (lo+i)<=kx C (arrOf st') (lo+k))/\(∀ i,r<=i->i < k->kx C (arrOf st') (lo+k) < kx C (arrOf st') (lo+i)))
   (Q:=fun c st''=>st''=st'/\∃ l r,c=(none,l,r)/\l<=k/\(∀ i,i < l->kx C (arrOf st') (lo+i)<=kx C (arrOf st') (lo+k))/\(∀ i,l<=i->i < k->kx C (arrOf st') (lo+k) < kx C (arrOf st') (lo+i))) ?st2 ?fi2 ⟨rfl,0,k,rfl,by omega,by omega,by omega,(fun i hi=>by omega),fun i h1 h2=>by omega⟩) ?po2)
  case fi2 =>
   rintro c st'' ⟨rfl,l,r,rfl,g1,g2,g3,g4,g5⟩
   have:l=r:=by omega
   subst this
   exact ⟨rfl,l,l,rfl,g2,g4,g5⟩
  case st2 =>
   rintro x c st'' _ hx ⟨rfl,l,r,rfl,g1,g2,g3,g4,g5⟩
   dsimp only
   by_cases hlr:l≥r
   ·rw [if_pos hlr]
    have:l=r:=by omega
    subst this
    exact wpS_pure ⟨rfl,l,l,rfl,g2,g4,g5⟩
   ·rw [if_neg hlr]
    refine wpS_bind (Y7 q1.ok (by omega) (by omega) ?_)
    by_cases hl:kx C (arrOf st'') (lo+k) < kx C (arrOf st'') (lo+(l+r) / 2)
    ·simp only [hl,decide_true,if_true]
     exact wpS_pure ⟨rfl,l,(l+r) / 2,rfl,by omega,by omega,by omega,g4,fun i u1 u2=>Int.lt_of_lt_of_le hl (q2 _ _ u1 u2)⟩
    ·simp only [hl,decide_false,Bool.false_eq_true,if_false]
     exact wpS_pure ⟨rfl,(l+r) / 2+1,r,rfl,by omega,by omega,by omega,(fun i u1=>Int.le_trans (q2 i ((l+r) / 2) (by omega) (by omega)) (Int.not_lt.mp hl)),g5⟩
  case po2 =>
   rintro c st'' ⟨rfl,l,r,rfl,g1,g2,g3⟩
   show W C (do moveDown' (lo+k) (lo+l);pure (ForInStep.yield (none,()))) _ _
   rw [moveDown'_eq]
   have hks:lo+k < (arrOf st'').size:=by omega
   refine wpS_bind (wpS_modify (wpS_pure ⟨rfl,q1.set (bubble_perm _ _ _) (fun i hi=>?_),?_⟩))
   ·rw [getElem?_bubble hks _ (by omega),if_neg (by omega),if_neg (by omega)]
   rw [show min (k+1) n=k+1 by omega]
   intro i j hij hj
   show kx C (bubble (arrOf st'') (lo+k) (lo+k - (lo+l))) (lo+i)<=kx C (bubble (arrOf st'') (lo+k) (lo+k - (lo+l))) (lo+j)
   have val:∀ i,i<=k->kx C (bubble (arrOf st'') (lo+k) (lo+k - (lo+l))) (lo+i)=if i=l then kx C (arrOf st'') (lo+k) else if l < i then kx C (arrOf st'') (lo+(i - 1)) else kx C (arrOf st'') (lo+i):=fun i hi=>by
    rw [KL hks (by omega)]
    by_cases e1:i=l
    ·rw [if_pos (by omega),if_pos e1]
    ·rw [if_neg (by omega),if_neg e1]
     by_cases e2:l < i
     ·rw [if_pos (by omega),if_pos e2,show lo+i - 1=lo+(i - 1) by omega]
     ·rw [if_neg (by omega),if_neg e2]
   rw [val i (by omega),val j (by omega)]
   by_cases i1:i=l
   ·rw [if_pos i1]
    by_cases j1:j=l
    ·rw [if_pos j1];exact Int.le_refl _
    ·rw [if_neg j1,if_pos (by omega)]
     exact Int.le_of_lt (g3 (j - 1) (by omega) (by omega))
   ·rw [if_neg i1]
    by_cases i2:l < i
    ·rw [if_pos i2,if_neg (by omega),if_pos (by omega)]
     exact q2 _ _ (by omega) (by omega)
    ·rw [if_neg i2]
     by_cases j1:j=l
     ·rw [if_pos j1];exact g2 i (by omega)
     ·rw [if_neg j1]
      by_cases j2:l < j
      ·rw [if_pos j2];exact q2 _ _ (by omega) (by omega)
      ·rw [if_neg j2];exact q2 _ _ (by omega) (by omega)
end
end TS
open PySem PyProof PyProof.Rows
namespace TS
variable {C:Cmp}
theorem Gb {L L':List Keyed} {lo a n:Nat} (h:∀ i:Nat,i < lo->L'[i]?=L[i]?) (hl:a+n<=lo):seg L' a n=seg L a n:=by
 apply List.ext_getElem?
 intro i
 unfold seg
 by_cases hi:i < n
 ·rw [List.getElem?_take_of_lt hi,List.getElem?_take_of_lt hi,List.getElem?_drop,List.getElem?_drop];exact h _ (by omega)
 ·rw [List.getElem?_eq_none (by simp;omega),List.getElem?_eq_none (by simp;omega)]
theorem Bs.g {L0:List Keyed} {st₀ st:SortSt} {lo:Nat} (b:Bs C st₀ st lo) (g:G C L0 st₀ lo):G C L0 st lo:=by
 refine ⟨b.kind,b.fine,b.perm.trans g.perm,?_,by have:=b.size;have:=g.le;omega⟩
 rw [b.pend]
 refine g.runs.congr fun a n _ hn=>Gb (lo:=lo) (fun i hi=>?_) hn
 have:=b.low i hi
 simpa using this
theorem vY {L L':List Keyed} {lo n:Nat} (h:L'.drop lo=L.drop lo):seg L' lo n=seg L lo n:=by unfold seg;rw [h]
theorem Runs.pw {L:List Keyed} {pw:Nat}:∀ {r:List (Nat×Nat×Nat)} {s e:Nat} (k:Nat),Runs C L r s e->Runs C L (r.modify k fun (a,b,_)=>(a,b,pw)) s e
 | [],_,_,k,h=>by simpa using h
 | (x,n,_)::r,s,e,0,⟨h0,h1,h2,h3⟩=>⟨h0,h1,h2,h3⟩
 | (x,n,_)::r,s,e,k+1,⟨h0,h1,h2,h3⟩=>⟨h0,h1,h2,h3.pw k⟩
theorem G.pw {L0:List Keyed} {st:SortSt} {lo pw:Nat} (g:G C L0 st lo):G C L0 (setPending st ((pendingOf st).modify ((pendingOf st).size - 1) fun (st,len,_)=>(st,len,pw))) lo:=by
 refine ⟨g.kind,g.fine,g.perm,?_,g.le⟩
 show Runs C (arrOf st).toList ((pendingOf st).modify _ _).toList 0 lo
 rw [Array.toList_modify]
 exact g.runs.pw _
theorem G.push {L0:List Keyed} {st:SortSt} {lo n:Nat} (g:G C L0 st lo) (h1:1<=n) (hn:lo+n<=(arrOf st).size) (hs:Srt C (seg (arrOf st).toList lo n)):G C L0 (setPending st ((pendingOf st).push (lo,n,0))) (lo+n):=by
 refine ⟨g.kind,g.fine,g.perm,?_,hn⟩
 show Runs C (arrOf st).toList ((pendingOf st).push (lo,n,0)).toList 0 (lo+n)
 rw [Array.toList_push]
 exact Runs.app.mpr ⟨lo,g.runs,rfl,h1,hs,rfl⟩
theorem G.size {L0:List Keyed} {st:SortSt} {lo:Nat} (g:G C L0 st lo):(arrOf st).size=L0.length:=by have:=g.perm.length_eq;simpa using this
theorem vS {L:List Keyed} {r:List (Nat×Nat×Nat)} {e:Nat} (h:Runs C L r 0 e) (hr:r.length<=1):Srt C (L.take e):=by
  match r,hr,h with
  | [],_,h=>cases h;simp [Srt]
  | [(x,n,_)],_,⟨_,_,h2,h3⟩ => 
    have:0+n=e:=h3
    subst this
    simpa [seg] using h2
theorem gh (b:Bool) (k:Nat):(if b=true then k - 1 else k)<=k:=by cases b<;>simp
theorem zV {L0:List Keyed} {st:SortSt} {Q:Unit->SortSt->Prop} (hS:∀ p∈L0,C.S p) (g0:G C L0 st 0) (h:∀ st',failedOf st'=none->(arrOf st').toList.Perm L0->Srt C (arrOf st').toList->Q () st'):W C sortRuns' Q st:=by
  rw [sortRuns'_eq]
  refine wpS_bind (wpS_get ?_)
  dsimp only
  rw [g0.size]
  generalize hm:minRun' L0.length L0.length 0=minrun
  generalize hsz:L0.length=size
  refine wpS_bind (wpS_mono (wpS_forRange
    (I:=fun x c st'=>∃ lo,c=(none,lo)/\G C L0 st' lo/\min x size<=lo)
    (Q:=fun c st'=>c=(none,size)/\G C L0 st' size) ?step ?fin ⟨0,rfl,g0,by omega⟩) ?post)
  case fin =>
    rintro c st' ⟨lo,rfl,g,q⟩
    have a:=g.le
    have b:=g.size
    obtain rfl:lo=size:=by omega
    exact ⟨rfl,g⟩
  case step =>
    rintro x c st' _ hx ⟨lo,rfl,g,q⟩
    dsimp only
    have hz:=g.size
    have hle:=g.le
    by_cases hlo:lo≥size
    . rw [if_pos hlo]
      obtain rfl:lo=size:=by omega
      exact wpS_pure ⟨rfl,g⟩
    rw [if_neg hlo]
    have b0:Bs C st' st' lo:=⟨g.kind,g.fine,rfl,List.Perm.refl _,fun _ _=>rfl,fun p hp=>hS p (g.perm.mem_iff.mp hp)⟩
    refine wpS_bind (VE b0 (by omega) (by omega) fun m st1 b1 hm1 hm2 sr1=>?_)
    dsimp only
    by_cases hlt:m < minrun
    rw [if_pos hlt]
    refine wpS_bind (qd ?_)
    refine wpS_bind (Gw b1 hm1 (n:=min (size - lo) minrun) (by omega) (by omega) sr1 fun st2 b sr=>?_)
    simp only [Bool.not_true,Bool.false_eq_true,if_false]
    have hn1:1<=min (size - lo) minrun:=by omega
    have hn2:lo+min (size - lo) minrun<=size:=by omega
    generalize min (size - lo) minrun=n at hn1 hn2 sr ⊢
    rotate_left
    rw [if_neg hlt]
    have hn2:lo+m<=size:=by omega
    have hn1:=hm1
    have b:=b1
    have sr:=sr1
    clear sr1 b1 hm1 hm2 hlt
    generalize m=n at hn1 hn2 sr ⊢
    generalize st1=st2 at b sr ⊢
    all_goals
      have g2:=b.g g
      have hz2:=g2.size
      have hseg:Srt C (seg (arrOf st2).toList lo n):=kE (by omega) sr
      refine wpS_bind (wpS_get ?_)
      cases hb:(pendingOf st2).back? with
      | none =>
        dsimp only
        exact wpS_bind (wpS_modify (wpS_pure ⟨lo+n,rfl,g2.push hn1 (by omega) hseg,by omega⟩))
      | some v =>
        obtain ⟨s1,n1,pw0⟩:=v
        dsimp only
        generalize power' size (2 * s1+n1) (2 * s1+n1+n1+n) size=pw
        refine wpS_bind (wpS_mono (wpS_forRange (I:=fun _ c st'=>c=(none,())/\G C L0 st' lo/\(arrOf st').toList.drop lo=(arrOf st2).toList.drop lo) (Q:=fun c st'=>c=(none,())/\G C L0 st' lo/\(arrOf st').toList.drop lo=(arrOf st2).toList.drop lo) ?_ (fun _ _ hh=>hh) ⟨rfl,g2,rfl⟩) ?_)
        . rintro y c st3 _ hy ⟨rfl,g3,t3⟩
          refine wpS_bind (wpS_get ?_)
          by_cases h1:(pendingOf st3).size > 1
          . rw [if_pos h1,getElem?_pos (pendingOf st3) ((pendingOf st3).size - 2) (by omega)]
            obtain ⟨⟨q1,q2,older⟩,eo⟩:∃ x,(pendingOf st3)[(pendingOf st3).size - 2]'(by omega)=x:=⟨_,rfl⟩
            rw [eo]
            dsimp only
            by_cases ho:older<=pw
            . rw [if_pos ho]
              exact wpS_pure ⟨rfl,g3,t3⟩
            . rw [if_neg ho]
              refine wpS_bind (k4 hS g3 (by omega) fun st4 g4 _ t4=>?_)
              simp only [Bool.not_true,Bool.false_eq_true,if_false]
              exact wpS_pure ⟨rfl,g4,t4.trans t3⟩
          . rw [if_neg h1]
            exact wpS_pure ⟨rfl,g3,t3⟩
        . rintro c st3 ⟨rfl,g3,t3⟩
          dsimp only
          have hz3:=g3.size
          refine wpS_bind (wpS_modify (wpS_bind (wpS_modify (wpS_pure ⟨lo+n,rfl,G.push g3.pw hn1 (by show lo+n<=(arrOf st3).size;omega) ?_,by omega⟩))))
          show Srt C (seg (arrOf st3).toList lo n)
          rw [vY t3];exact hseg
  case post =>
    rintro c st' ⟨rfl,g⟩
    dsimp only
    have hz:=g.size
    have hrl:=g.runs.le
    have hpl:(pendingOf st').toList.length=(pendingOf st').size:=by simp
    refine wpS_bind (wpS_mono (wpS_forRange (I:=fun x c st''=>c=(none,())/\G C L0 st'' size/\(pendingOf st'').size+x<=size) (Q:=fun c st''=>c=(none,())/\G C L0 st'' size/\(pendingOf st'').size<=1) ?_ ?_ ⟨rfl,g,by omega⟩) ?_)
    . rintro x c st2 _ hx ⟨rfl,g2,hp⟩
      refine wpS_bind (wpS_get ?_)
      by_cases h1:(pendingOf st2).size<=1
      . rw [if_pos h1]
        exact wpS_pure ⟨rfl,g2,h1⟩
      . rw [if_neg h1]
        generalize hi:(if Option.any (fun x=>decide (x < Option.elim (pendingOf st2)[(pendingOf st2).size - 2+1]? 0 fun x=>x.2.1)) (if (pendingOf st2).size - 2 > 0 then Option.map (fun x=>x.2.1) (pendingOf st2)[(pendingOf st2).size - 2 - 1]? else none)=true then (pendingOf st2).size - 2 - 1 else (pendingOf st2).size - 2)=i
        have hi2:i<=(pendingOf st2).size - 2:=by rw [<- hi];exact gh _ _
        refine wpS_bind (k4 hS g2 (by omega) fun st3 g3 hq _=>?_)
        simp only [Bool.not_true,Bool.false_eq_true,if_false]
        exact wpS_pure ⟨rfl,g3,by omega⟩
    . rintro c st2 ⟨rfl,g2,hp⟩
      exact ⟨rfl,g2,by omega⟩
    . rintro c st2 ⟨rfl,g2,hp⟩
      have hz2:=g2.size
      have s2:=vS g2.runs (by simpa using hp)
      rw [List.take_of_length_le (by simp;omega)] at s2
      exact wpS_pure (h st2 g2.fine g2.perm s2)
end TS
namespace TS
open PySem PyProof PyProof.Rows
section
variable {prog:Program} {w:World} {A:Around} {E:Value->Shared->Prop} {s:Shared}
def CI (prog:Program) (w:World) (A:Around) (E:Value->Shared->Prop) (s:Shared):Cmp where
 key p:=numOf p.1
 kd:=oneType'
 S p:=∃ n t,p.1=.int n t
 prog:=prog
 w:=w
 A:=A
 E:=E
 s:=s
 lt:=by
  rintro st ⟨_,p⟩ ⟨_,q⟩ Q ⟨n,t,rfl⟩ ⟨k,u,rfl⟩ hk h
  rw [lt'_eq]
  refine wpS_bind (wpS_get ?_)
  rw [hk]
  exact wpS_bind (wpS_lift (wpAny_attempt (keyLt'_oneType _ _▸oneLt_int ⟨rfl,wpS_pure h⟩)))
theorem QbT (xs:Array Keyed) (i:Nat):kx (CI prog w A E s) xs i=K xs i:=by
 unfold kx K
 cases xs[i]?<;>rfl
theorem K8 {vs:List Value} {ns:List Int} (hI:IntsAre vs ns):wpAny (model prog w) A (sortRuns'.run (SortSt.mk' oneType' (vs.toArray.zip vs.toArray) #[] 7 none)) (fun r s'=>s'=s/\failedOf r.2=none/\(arrOf r.2).Perm (pairsOf vs)/\SortedTo (arrOf r.2) (pairsOf vs).size) E s:=by
 have q:W (CI prog w A E s) sortRuns' (fun _ st'=>failedOf st'=none/\(arrOf st').Perm (pairsOf vs)/\SortedTo (arrOf st') (pairsOf vs).size) (SortSt.mk' oneType' (vs.toArray.zip vs.toArray) #[] 7 none):=by
  refine zV (L0:=(pairsOf vs).toList) (fun p hp=>hI.intKeys p hp) ⟨rfl,rfl,List.Perm.refl _,rfl,Nat.zero_le _⟩ fun st' a1 a2 a3=>?_
  have pm:(arrOf st').Perm (pairsOf vs):=Array.perm_iff_toList_perm.mpr a2
  refine ⟨a1,pm,fun i j hij hj=>?_⟩
  have e:=zW a3 hij (by rw [pm.size_eq];exact hj)
  rwa [QbT,QbT] at e
 exact q
def Keeps (h h':Heap) (a:Addr):Prop:=∀ b o,b≠a->h.get? b=some o->h'.get? b=some o
theorem Keeps.upd (h:Heap) (a:Addr) (f:Obj->Obj):Keeps h (h.update a f) a:=fun b o hb e=>by
 rw [Heap.get?_update_ne _ _ _ _ hb];exact e
theorem jO {a:Addr} {vs:List Value} {ns:List Int} {n:Nat} {P:PySem.Fin->Shared->Prop} (ho:s.heap.get? a=some (seqObj "list" vs.toArray n)) (hI:IntsAre vs ns) (hz:vs.length<=sizeLine)
  (h:∀ (h':Heap) (out:List Value) (ns':List Int) (c:Nat),Keeps s.heap h' a->h'.get? a=some (seqObj "list" out.toArray c)->IntsAre out ns'->ns'.Perm ns->ns'.Pairwise (· <= ·)->P (.done (.ret .none)) { s with heap:=h' }) :
  wpAny (model prog w) A (Builtin.«list.sort» ⟨[.ref a],[]⟩) P E s:=by
 have k1:=Keeps.upd s.heap a (Obj.mapSeq fun _=>#[])
 obtain ⟨c1,g1⟩:∃ c1,(s.heap.update a (Obj.mapSeq fun _=>#[])).get? a=some (seqObj "list" #[] c1):=⟨_,get?_update_seq ho (fun _=>#[])⟩
 generalize hh1:s.heap.update a (Obj.mapSeq fun _=>#[])=H1 at k1 g1
 have g3:=Heap.get?_push_of_some (seqObj "list" #[] 0) (Heap.get?_push_of_some (seqObj "tuple" vs.toArray 0) g1)
 have k3:Keeps s.heap ((H1.push (seqObj "tuple" vs.toArray 0)).push (seqObj "list" #[] 0)) a:=fun b o hb e=>Heap.get?_push_of_some _ (Heap.get?_push_of_some _ (k1 b o hb e))
 have hsz:vs.toArray.size=vs.length:=by simp
 have fin:∀ st':SortSt,failedOf st'=none->(arrOf st').Perm (pairsOf vs)->SortedTo (arrOf st') (pairsOf vs).size->wpAny (model prog w) A (do
   let touched:=(<- seqEpoch a) != c1
   Builtin.List.listUpdate (.ref a) fun _=>(arrOf st').map (·.2)
   if let some e:=failedOf st' then rule "list.sort.comparison-raised"; throw e
   if touched then rule "list.sort.modified"; raiseError "ValueError" "list modified during sort"
   ret .none) P E { s with heap:=(H1.push (seqObj "tuple" vs.toArray 0)).push (seqObj "list" #[] 0) }:=by
  intro st' f1 f2 f3
  obtain ⟨ns',o1,o2,o3⟩:=sorted_out hI f2 f3
  refine wpAny_bind (seqEpoch_at g3 rfl ?_)
  have oz:((arrOf st').map (·.2)).size<=sizeLine+1:=by rw [Array.size_map,f2.size_eq,pairsOf_size];omega
  refine wpAny_bind (listUpdate_at g3 rfl ?_ (Nat.zero_le _) oz)
  rw [f1]
  simp only [bne_self_eq_false,Bool.false_eq_true,if_false]
  obtain ⟨c2,e⟩:∃ c2,(((H1.push (seqObj "tuple" vs.toArray 0)).push (seqObj "list" #[] 0)).update a (Obj.mapSeq fun _=>(arrOf st').map (·.2))).get? a=some (seqObj "list" ((arrOf st').map (·.2)) c2):=⟨_,get?_update_seq g3 fun _=>(arrOf st').map (·.2)⟩
  refine wpAny_pure (h _ ((arrOf st').map (·.2)).toList ns' c2 (fun b o hb e=>Keeps.upd _ a _ b o hb (k3 b o hb e)) ?_ o1 o2 o3)
  rw [Array.toArray_toList];exact e
 rw [list_sort_plain]
 refine wpAny_bind (listItems_at ho rfl (wpAny_bind (listUpdate_at ho rfl ?_ (by rw [hsz];exact hz) (Nat.zero_le _))))
 rw [hh1]
 refine wpAny_bind (seqEpoch_at g1 rfl (wpAny_bind (wpAny_newTuple ?_ (by simpa using hz))))
 refine wpAny_bind (wpAny_newList (wpAny_holding ?_) (Nat.zero_le _))
 show wpAny (model prog w) A _ P E { s with heap:=(H1.push (seqObj "tuple" vs.toArray 0)).push (seqObj "list" #[] 0) }
 dsimp only
 by_cases h2:vs.toArray.size < 2
 ·rw [if_pos h2,if_pos h2]
  refine wpAny_bind (wpAny_pure ?_)
  rw [StateT.run_pure]
  refine wpAny_bind (wpAny_pure (fin (SortSt.mk' general' (vs.toArray.zip vs.toArray) #[] 7 none) rfl (Array.Perm.refl _) fun i j hij hj=>?_))
  obtain rfl:i=j:=by rw [pairsOf_size] at hj;omega
  exact Int.le_refl _
 ·rw [if_neg h2,if_neg h2]
  have kk:keyKind' vs.toArray=pure oneType':=by
   match vs,hI,h2 with
   | [],_,h2=>simp at h2
   | [_],_,h2=>simp at h2
   | _::_::_,hI,_=>exact keyKind_ints hI
  rw [kk]
  refine wpAny_bind (wpAny_pure (wpAny_bind (wpAny_mono (K8 hI) ?_ fun _ _ e=>e)))
  rintro ⟨⟨⟩,st'⟩ s' ⟨rfl,f1,f2,f3⟩
  exact fin st' f1 f2 f3
theorem sorted_of {x:Value} {ns:List Int} {Q:Value->Shared->Prop}
  (hc:∀ (R:List Value->Shared->Prop),(∀ (h':Heap) (tk:Nat) (vs:List Value),IntsAre vs ns->vs.length<=sizeLine->(∀ b o,s.heap.get? b=some o->h'.get? b=some o)->R vs { s with heap:=h',toks:=tk })->wpAny (model prog w) A.in1 (collect x) R E s)
  (h:∀ (h1 h':Heap) (tk:Nat) (out:List Value) (ns':List Int) (c:Nat),(∀ b o,s.heap.get? b=some o->h1.get? b=some o)->(∀ b o,h1.get? b=some o->h'.get? b=some o)->h'.get? h1.objs.size=some (seqObj "list" out.toArray c)->IntsAre out ns'->ns'.Perm ns->ns'.Pairwise (· <= ·)->Q (.ref h1.objs.size) { s with heap:=h',toks:=tk }) :
  wpAny (model prog w) A (call (.builtin "sorted") [x]) Q E s:=by
 refine Calls.call_function_entry kind_sorted plain_sorted entry_sorted (args_sorted1 _) ?_
 unfold Builtin.«sorted»
 refine wpAny_bind (m:=checkCount "sorted" 1 1 _) (wpAny_pure (wpAny_bind (hc _ fun h1 tk vs hI hz k1=>?_)))
 refine wpAny_bind (wpAny_newList ?_ hz)
 have g:(h1.push (seqObj "list" vs.toArray 0)).get? h1.objs.size=some (seqObj "list" vs.toArray 0):=Heap.get?_push_size _ rfl
 refine wpAny_bind (wpAny_holding (wpAny_call_entry slot_list_sort ⟨_,g,rfl⟩ entry_list_sort (jO g hI hz fun h2 out ns' c k2 g2 o1 o2 o3=>⟨_,rfl,?_⟩) (args_list_sort _)))
 refine wpAny_pure ⟨_,rfl,h h1 h2 tk out ns' c k1 (fun b o e=>k2 b o (Nat.ne_of_lt (Heap.lt_size e)) (Heap.get?_push_of_some _ e)) g2 o1 o2 o3⟩
end
end TS
namespace TS
open PySem PyProof PyProof.Rows
section
variable {prog:Program} {w:World} {A:Around} {E:Value->Shared->Prop} {s:Shared} {g:Int->Int}
def PairAt (h:Heap) (g:Int->Int) (v:Value) (n:Int):Prop:=∃ (a:Addr) (o:Obj) (t u:Tok) (k:Nat),v=.ref a/\h.get? a=some o/\o.cls=.type "tuple" /\ o.data=.seq #[.int n t,.int (g n) u] k
def vKey (h:Heap):Value->Int
  | .ref a=>match h.get? a with
    | some o=>(match o.data with
      | .seq xs _=>((xs[0]?).map numOf).getD 0
      | _=>0)
    | none=>0
  | _=>0
theorem vKey_of {h:Heap} {v:Value} {n:Int} (p:PairAt h g v n):vKey h v=n:=by
 obtain ⟨a,o,t,u,k,rfl,e1,_,e3⟩:=p
 simp only [vKey,e1,e3]
 rfl
theorem PairAt.keep {h h':Heap} {v:Value} {n:Int} (p:PairAt h g v n) (hk:∀ b o,v=.ref b->h.get? b=some o->h'.get? b=some o):PairAt h' g v n:=by
 obtain ⟨a,o,t,u,k,rfl,e1,e2,e3⟩:=p
 exact ⟨a,o,t,u,k,rfl,hk a o rfl e1,e2,e3⟩
def CT (prog:Program) (w:World) (A:Around) (E:Value->Shared->Prop) (s:Shared) (g:Int->Int):Cmp where
 key p:=vKey s.heap p.1
 kd:=tuples' true
 S p:=∃ n,PairAt s.heap g p.1 n
 prog:=prog
 w:=w
 A:=A
 E:=E
 s:=s
 lt:=by
  rintro st ⟨x,p⟩ ⟨y,q⟩ Q ⟨n,hn⟩ ⟨m,hm⟩ hk h
  have e1:=vKey_of hn
  have e2:=vKey_of hm
  dsimp only at e1 e2 h hn hm
  rw [e1,e2] at h
  obtain ⟨a,o,t,u,k,rfl,a1,a2,a3⟩:=hn
  obtain ⟨b,o',t',u',k',rfl,b1,b2,b3⟩:=hm
  rw [lt'_eq]
  refine wpS_bind (wpS_get ?_)
  rw [hk]
  refine wpS_bind (wpS_lift (wpAny_attempt (PySem.W.kat_lt a1 a3 b1 b3 ?_)))
  refine PySem.W.kat_cons (wpAny_eqBool_int (PySem.W.kat_go (fun e=>?_) fun e=>?_))
  ·have:n=m:=by simpa using e
   subst this
   refine PySem.W.kat_yes (PySem.W.kat_cons (wpAny_eqBool_int (PySem.W.kat_go (fun _=>PySem.W.kat_yes (PySem.W.kat_nil ⟨rfl,wpS_pure ?_⟩)) fun e=>?_)))
   ·simpa using h
   ·simp at e
  ·exact PySem.W.kat_no (oneLt_int ⟨rfl,wpS_pure h⟩)
theorem V4 {vs:List Value} (hI:∀ v∈vs,∃ n,PairAt s.heap g v n):wpAny (model prog w) A (sortRuns'.run (SortSt.mk' (tuples' true) (vs.toArray.zip vs.toArray) #[] 7 none)) (fun r s'=>s'=s/\failedOf r.2=none/\(arrOf r.2).toList.Perm (vs.zip vs)/\(arrOf r.2).toList.Pairwise fun p q=>vKey s.heap p.1<=vKey s.heap q.1) E s:=by
 have e0:(vs.toArray.zip vs.toArray).toList=vs.zip vs:=by simp
 have q:W (CT prog w A E s g) sortRuns' (fun _ st'=>failedOf st'=none/\(arrOf st').toList.Perm (vs.zip vs)/\(arrOf st').toList.Pairwise fun p q=>vKey s.heap p.1<=vKey s.heap q.1) (SortSt.mk' (tuples' true) (vs.toArray.zip vs.toArray) #[] 7 none):=by
  refine zV (L0:=(vs.toArray.zip vs.toArray).toList) (fun p hp=>?_) ⟨rfl,rfl,List.Perm.refl _,rfl,Nat.zero_le _⟩ fun st' a1 a2 a3=>⟨a1,by rw [<- e0];exact a2,a3⟩
  rw [e0] at hp
  exact hI p.1 (List.of_mem_zip hp).1
 exact q
theorem ye (vs:List Value):(vs.zip vs).map (·.1)=vs/\(vs.zip vs).map (·.2)=vs/\∀ p∈vs.zip vs,p.1=p.2:=by
  induction vs with
  | nil=>exact ⟨rfl,rfl,fun p hp=>by cases hp⟩
  | cons v vs ih =>
    refine ⟨by simp [ih.1],by simp [ih.2.1],fun p hp=>?_⟩
    rcases List.mem_cons.mp (show p∈(v,v)::vs.zip vs from hp) with rfl | h
    . rfl
    . exact ih.2.2 p h
theorem V8 {a:Addr} {vs:List Value} {n:Nat} {P:PySem.Fin->Shared->Prop} (ho:s.heap.get? a=some (seqObj "list" vs.toArray n)) (hI:∀ v∈vs,∃ n,PairAt s.heap g v n) (hz:vs.length<=sizeLine)
    (h:∀ (h':Heap) (out:List Value) (c:Nat),Keeps s.heap h' a->h'.get? a=some (seqObj "list" out.toArray c)->out.Perm vs->(out.map (vKey s.heap)).Pairwise (· <= ·)->P (.done (.ret .none)) { s with heap:=h' }) :
    wpAny (model prog w) A (Builtin.«list.sort» ⟨[.ref a],[]⟩) P E s:=by
  have k1:=Keeps.upd s.heap a (Obj.mapSeq fun _=>#[])
  obtain ⟨c1,g1⟩:∃ c1,(s.heap.update a (Obj.mapSeq fun _=>#[])).get? a=some (seqObj "list" #[] c1):=⟨_,get?_update_seq ho (fun _=>#[])⟩
  generalize hh1:s.heap.update a (Obj.mapSeq fun _=>#[])=H1 at k1 g1
  have g3:=Heap.get?_push_of_some (seqObj "list" #[] 0) (Heap.get?_push_of_some (seqObj "tuple" vs.toArray 0) g1)
  have k3:Keeps s.heap ((H1.push (seqObj "tuple" vs.toArray 0)).push (seqObj "list" #[] 0)) a:=fun b o hb e=>Heap.get?_push_of_some _ (Heap.get?_push_of_some _ (k1 b o hb e))
  have hsz:vs.toArray.size=vs.length:=by simp
  have na:∀ v∈vs,v≠.ref a:=fun v hv e=>by
    obtain ⟨n,b,o,t,u,k,rfl,e1,e2,_⟩:=hI v hv
    cases e
    rw [ho] at e1;cases e1
    exact absurd (show Value.type "list" = Value.type "tuple" from e2) (by decide)
  have hI3:∀ v∈vs,∃ n,PairAt ((H1.push (seqObj "tuple" vs.toArray 0)).push (seqObj "list" #[] 0)) g v n:=fun v hv=>by
    obtain ⟨n,p⟩:=hI v hv
    exact ⟨n,p.keep fun b o e1 e2=>k3 b o (fun e=>na v hv (by rw [e1,e])) e2⟩
  have ek:∀ v∈vs,vKey ((H1.push (seqObj "tuple" vs.toArray 0)).push (seqObj "list" #[] 0)) v=vKey s.heap v:=fun v hv=>by
    obtain ⟨n,p⟩:=hI v hv
    rw [vKey_of p,vKey_of (p.keep fun b o e1 e2=>k3 b o (fun e=>na v hv (by rw [e1,e])) e2)]
  obtain ⟨z1,z2,z3⟩:=ye vs
  have fin:∀ st':SortSt,failedOf st'=none->(arrOf st').toList.Perm (vs.zip vs)->(arrOf st').toList.Pairwise (fun p q=>vKey s.heap p.1<=vKey s.heap q.1)->wpAny (model prog w) A (do
      let touched:=(<- seqEpoch a) != c1
      Builtin.List.listUpdate (.ref a) fun _=>(arrOf st').map (·.2)
      if let some e:=failedOf st' then rule "list.sort.comparison-raised"; throw e
      if touched then rule "list.sort.modified"; raiseError "ValueError" "list modified during sort"
      ret .none) P E { s with heap:=(H1.push (seqObj "tuple" vs.toArray 0)).push (seqObj "list" #[] 0) }:=by
    intro st' f1 f2 f3
    refine wpAny_bind (seqEpoch_at g3 rfl ?_)
    have ol:((arrOf st').map (·.2)).toList=(arrOf st').toList.map (·.2):=by simp
    have oz:((arrOf st').map (·.2)).size<=sizeLine+1:=by
      have:=f2.length_eq
      rw [Array.size_map,<- Array.length_toList,this,List.length_zip];omega
    refine wpAny_bind (listUpdate_at g3 rfl ?_ (Nat.zero_le _) oz)
    rw [f1]
    simp only [bne_self_eq_false,Bool.false_eq_true,if_false]
    obtain ⟨c2,e⟩:∃ c2,(((H1.push (seqObj "tuple" vs.toArray 0)).push (seqObj "list" #[] 0)).update a (Obj.mapSeq fun _=>(arrOf st').map (·.2))).get? a=some (seqObj "list" ((arrOf st').map (·.2)) c2):=⟨_,get?_update_seq g3 fun _=>(arrOf st').map (·.2)⟩
    refine wpAny_pure (h _ ((arrOf st').map (·.2)).toList c2 (fun b o hb e=>Keeps.upd _ a _ b o hb (k3 b o hb e)) ?_ ?_ ?_)
    . rw [Array.toArray_toList];exact e
    . rw [ol]
      have:=f2.map (·.2)
      rw [z2] at this;exact this
    . rw [ol,List.map_map,List.pairwise_map]
      refine (List.Pairwise.and_mem.mp f3).imp fun hh=>?_
      obtain ⟨m1,m2,le⟩:=hh
      dsimp only [Function.comp]
      rw [<- z3 _ (f2.mem_iff.mp m1),<- z3 _ (f2.mem_iff.mp m2)];exact le
  rw [list_sort_plain]
  refine wpAny_bind (listItems_at ho rfl (wpAny_bind (listUpdate_at ho rfl ?_ (by rw [hsz];exact hz) (Nat.zero_le _))))
  rw [hh1]
  refine wpAny_bind (seqEpoch_at g1 rfl (wpAny_bind (wpAny_newTuple ?_ (by simpa using hz))))
  refine wpAny_bind (wpAny_newList (wpAny_holding ?_) (Nat.zero_le _))
  show wpAny (model prog w) A _ P E { s with heap:=(H1.push (seqObj "tuple" vs.toArray 0)).push (seqObj "list" #[] 0) }
  dsimp only
  by_cases h2:vs.toArray.size < 2
  . rw [if_pos h2,if_pos h2]
    refine wpAny_bind (wpAny_pure ?_)
    rw [StateT.run_pure]
    refine wpAny_bind (wpAny_pure (fin (SortSt.mk' general' (vs.toArray.zip vs.toArray) #[] 7 none) rfl (by show (vs.toArray.zip vs.toArray).toList.Perm _;simp) ?_))
    show (vs.toArray.zip vs.toArray).toList.Pairwise _
    rw [show (vs.toArray.zip vs.toArray).toList=vs.zip vs by simp]
    have lz:(vs.zip vs).length < 2:=by rw [List.length_zip];omega
    match vs.zip vs,lz with
    | [],_=>exact .nil
    | [_],_=>exact List.pairwise_singleton _ _
    | _::_::_,lz=>exact absurd lz (by simp)
  . rw [if_neg h2,if_neg h2]
    obtain ⟨fs,t1,t2,t3⟩:∃ fs,PySem.W.KatTups ((H1.push (seqObj "tuple" vs.toArray 0)).push (seqObj "list" #[] 0)) vs fs/\fs.length=vs.length/\∀ v∈fs,∃ n t,v=.int n t:=by
      clear fin ek na h2 hsz hz z1 z2 z3
      generalize (H1.push (seqObj "tuple" vs.toArray 0)).push (seqObj "list" #[] 0)=HH at hI3
      clear g3 k3 ho hI h
      induction vs with
      | nil=>exact ⟨[],.nil,rfl,fun v hv=>by cases hv⟩
      | cons v vs ih =>
        obtain ⟨fs,a1,a2,a3⟩:=ih (fun v hv=>hI3 v (List.mem_cons_of_mem _ hv))
        obtain ⟨n,b,o,t,u,k,rfl,e1,e2,e3⟩:=hI3 v (List.mem_cons_self)
        refine ⟨.int n t::fs,.cons e1 e2 e3 rfl a1,by simp [a2],fun v hv=>?_⟩
        rcases List.mem_cons.mp hv with rfl | hv
        . exact ⟨n,t,rfl⟩
        . exact a3 v hv
    refine wpAny_bind (PySem.W.kat_kind (T:=.type "int") t1 (by rw [t2];simp at h2;omega) (fun v hv=>?_) (by decide) ?_)
    . obtain ⟨n,t,rfl⟩:=t3 v hv
      exact .now
    . refine wpAny_bind (wpAny_mono (V4 (g:=g) (s:={ s with heap:=(H1.push (seqObj "tuple" vs.toArray 0)).push (seqObj "list" #[] 0) }) hI3) ?_ fun _ _ e=>e)
      rintro ⟨⟨⟩,st'⟩ s' ⟨rfl,f1,f2,f3⟩
      refine fin st' f1 f2 ((List.Pairwise.and_mem.mp f3).imp fun hh=>?_)
      obtain ⟨m1,m2,le⟩:=hh
      have q1:=(List.of_mem_zip (f2.mem_iff.mp m1)).1
      have q2:=(List.of_mem_zip (f2.mem_iff.mp m2)).1
      dsimp only at le
      rw [ek _ q1,ek _ q2] at le
      exact le
theorem sorted_ofP {x:Value} {ks:List Int} {F:Value->Prop} {Q:Value->Shared->Prop}
  (hc:∀ (R:List Value->Shared->Prop),(∀ (h':Heap) (tk:Nat) (vs:List Value),(∀ v∈vs,F v/\∃ n,PairAt h' g v n)->vs.map (vKey h')=ks->vs.length<=sizeLine->(∀ b o,s.heap.get? b=some o->h'.get? b=some o)->R vs { s with heap:=h',toks:=tk })->wpAny (model prog w) A.in1 (collect x) R E s)
  (h:∀ (h1 h':Heap) (tk:Nat) (out:List Value) (c:Nat),(∀ b o,s.heap.get? b=some o->h1.get? b=some o)->(∀ b o,h1.get? b=some o->h'.get? b=some o)->h'.get? h1.objs.size=some (seqObj "list" out.toArray c)->(∀ v∈out,F v/\∃ n,PairAt h1 g v n)->(out.map (vKey h1)).Perm ks->(out.map (vKey h1)).Pairwise (· <= ·)->Q (.ref h1.objs.size) { s with heap:=h',toks:=tk }) :
  wpAny (model prog w) A (call (.builtin "sorted") [x]) Q E s:=by
 refine Calls.call_function_entry kind_sorted plain_sorted entry_sorted (args_sorted1 _) ?_
 unfold Builtin.«sorted»
 refine wpAny_bind (m:=checkCount "sorted" 1 1 _) (wpAny_pure (wpAny_bind (hc _ fun h1 tk vs hI hk hz k1=>?_)))
 refine wpAny_bind (wpAny_newList ?_ hz)
 have gg:(h1.push (seqObj "list" vs.toArray 0)).get? h1.objs.size=some (seqObj "list" vs.toArray 0):=Heap.get?_push_size _ rfl
 have hI2:∀ v∈vs,∃ n,PairAt (h1.push (seqObj "list" vs.toArray 0)) g v n:=fun v hv=>by
  obtain ⟨n,p⟩:=(hI v hv).2
  exact ⟨n,p.keep fun b o _ e=>Heap.get?_push_of_some _ e⟩
 have ek:∀ v∈vs,vKey (h1.push (seqObj "list" vs.toArray 0)) v=vKey h1 v:=fun v hv=>by
  obtain ⟨n,p⟩:=(hI v hv).2
  rw [vKey_of p,vKey_of (p.keep (h':=h1.push (seqObj "list" vs.toArray 0)) fun b o _ e=>Heap.get?_push_of_some _ e)]
 refine wpAny_bind (wpAny_holding (wpAny_call_entry slot_list_sort ⟨_,gg,rfl⟩ entry_list_sort (V8 (g:=g) gg hI2 hz fun h2 out c k2 g2 o1 o2=>⟨_,rfl,?_⟩) (args_list_sort _)))
 have eo:out.map (vKey (h1.push (seqObj "list" vs.toArray 0)))=out.map (vKey h1):=List.map_congr_left fun v hv=>ek v (o1.mem_iff.mp hv)
 refine wpAny_pure ⟨_,rfl,h h1 h2 tk out c k1 (fun b o e=>k2 b o (Nat.ne_of_lt (Heap.lt_size e)) (Heap.get?_push_of_some _ e)) g2 (fun v hv=>hI v (o1.mem_iff.mp hv)) (by rw [<- hk];exact o1.map _) (by rw [<- eo];exact o2)⟩
end
end TS
namespace TS
open PySem
def Rs (xs:Array Nat):Prop:=xs.toList.Pairwise (· < ·)
theorem Rs.lt {xs:Array Nat} (h:Rs xs) {i k a b:Nat} (hi:xs[i]?=some a) (hk:xs[k]?=some b) (hik:i < k):a < b:=by
 rw [<- Array.getElem?_toList] at hi hk
 obtain ⟨li,rfl⟩:=List.getElem?_eq_some_iff.mp hi
 obtain ⟨lk,rfl⟩:=List.getElem?_eq_some_iff.mp hk
 exact List.pairwise_iff_getElem.mp h i k li lk hik
theorem qP {xs:Array Nat} (h:Rs xs) (j:Nat):∀ (fuel lo hi:Nat),hi<=xs.size->lo<=hi->hi - lo<=fuel->(∀ i a,i < lo->xs[i]?=some a->a < j)->(∀ i a,hi<=i->xs[i]?=some a->j<=a) ->
    SetTable.below.go xs j fuel lo hi<=xs.size/\(∀ i a,i < SetTable.below.go xs j fuel lo hi->xs[i]?=some a->a < j)/\(∀ i a,SetTable.below.go xs j fuel lo hi<=i->xs[i]?=some a->j<=a)
  | 0,lo,hi,h1,h2,h3,h4,h5=>by
    have:lo=hi:=by omega
    subst this
    unfold SetTable.below.go
    exact ⟨h1,h4,h5⟩
  | fuel+1,lo,hi,h1,h2,h3,h4,h5=>by
    unfold SetTable.below.go
    by_cases c:lo < hi
    . rw [if_pos c]
      dsimp only
      have lm:(lo+hi) / 2 < xs.size:=by omega
      have em:xs[(lo+hi) / 2]?=some xs[(lo+hi) / 2]:=Array.getElem?_eq_getElem lm
      have eg:xs.getD ((lo+hi) / 2) j=xs[(lo+hi) / 2]:=by simp [Array.getD,lm]
      rw [eg]
      by_cases d:xs[(lo+hi) / 2] < j
      . rw [if_pos d]
        refine qP h j fuel _ _ h1 (by omega) (by omega) (fun i a hi' e=>?_) h5
        by_cases e':i=(lo+hi) / 2
        . subst e';rw [em] at e;cases e;exact d
        . have:=h.lt e em (by omega);omega
      . rw [if_neg d]
        refine qP h j fuel _ _ (by omega) (by omega) (by omega) h4 (fun i a hi' e=>?_)
        by_cases e':i=(lo+hi) / 2
        . subst e';rw [em] at e;cases e;omega
        . have:=h.lt em e (by omega);omega
    . rw [if_neg c]
      have:lo=hi:=by omega
      subst this
      exact ⟨h1,h4,h5⟩
theorem qQ {xs:Array Nat} (h:Rs xs) (j:Nat):SetTable.below xs j<=xs.size/\(∀ i a,i < SetTable.below xs j->xs[i]?=some a->a < j)/\(∀ i a,SetTable.below xs j<=i->xs[i]?=some a->j<=a) :=
 qP h j xs.size 0 xs.size (Nat.le_refl _) (Nat.zero_le _) (by omega) (fun i a hi=>by omega) (fun i a hi e=>by
  have:=(Array.getElem?_eq_some_iff.mp e).1;omega)
theorem je {α:Type} (xs:Array α) (p:Nat) (x:α):(SetTable.insertAt xs p x).toList=xs.toList.take p++x::xs.toList.drop p:=by
 unfold SetTable.insertAt
 simp
 exact List.take_of_length_le (by simp)
theorem Rs.insert {xs:Array Nat} (h:Rs xs) {j:Nat} (hj:xs[SetTable.below xs j]?≠some j):Rs (SetTable.insertAt xs (SetTable.below xs j) j):=by
  obtain ⟨b1,b2,b3⟩:=qQ h j
  unfold Rs at *
  rw [je]
  have tk:∀ a∈xs.toList.take (SetTable.below xs j),a < j:=fun a ha=>by
    obtain ⟨i,hi⟩:=List.mem_iff_getElem?.mp ha
    rw [List.getElem?_take] at hi
    split at hi
    . exact b2 i a (by assumption) (by rw [<- Array.getElem?_toList];exact hi)
    . cases hi
  have dp:∀ a∈xs.toList.drop (SetTable.below xs j),j < a:=fun a ha=>by
    obtain ⟨i,hi⟩:=List.mem_iff_getElem?.mp ha
    rw [List.getElem?_drop,Array.getElem?_toList] at hi
    have le:=b3 _ a (Nat.le_add_right _ i) hi
    rcases Nat.lt_or_ge j a with q | q
    . exact q
    . exfalso
      have ea:a=j:=by omega
      subst ea
      cases i with
      | zero=>exact hj hi
      | succ i =>
        have lt:SetTable.below xs a < xs.size:=by
          have:=(Array.getElem?_eq_some_iff.mp hi).1;omega
        have e0:xs[SetTable.below xs a]?=some xs[SetTable.below xs a]:=Array.getElem?_eq_getElem lt
        have l1:=b3 _ _ (Nat.le_refl _) e0
        have l2:=Rs.lt (xs:=xs) h e0 hi (by omega)
        omega
  rw [List.pairwise_append,List.pairwise_cons]
  have tdp:=h
  rw [<- List.take_append_drop (SetTable.below xs j) xs.toList,List.pairwise_append] at tdp
  refine ⟨tdp.1,⟨dp,tdp.2.1⟩,fun a ha b hb=>?_⟩
  rcases List.mem_cons.mp hb with rfl | hb
  . exact tk a ha
  . have:=tk a ha;have:=dp b hb;omega
structure Gt (b:Bool) (t:SetTable):Prop where
 rs:t.plain=true->Rs t.place
 nd:t.dummies = #[]
 ld:t.led=b
theorem Gt.fresh (f m:Nat) (l:Bool):Gt l (SetTable.fresh f m l):=⟨fun _=>List.Pairwise.nil,rfl,rfl⟩
theorem Gt.standIn {b:Bool} {t:SetTable} (g:Gt b t) (n:Nat):Gt b (t.standIn n):=⟨fun h=>(by cases h),rfl,g.ld⟩
theorem Gt.plainOff {b:Bool} {t:SetTable} (g:Gt b t):Gt b { t with plain:=false }:=⟨fun h=>(by cases h),g.nd,g.ld⟩
theorem UD (j:Nat):SetTable.has #[] j=false:=by
 unfold SetTable.has;simp
theorem yW {t:SetTable} (hd:t.dummies = #[]) (f:Nat->Int) (h:Int):∀ (fuel:Nat) (p:SetTable.Probe) (j:Nat) (d:Option Nat),SetTable.probe.go t f h fuel p=some (.empty j d)->t.slot j=.empty/\d=p.dummy
  | 0,p,j,d,e=>by unfold SetTable.probe.go at e;cases e
  | fuel+1,p,j,d,e=>by
    unfold SetTable.probe.go at e
    have adv:(t.advance p).dummy=p.dummy:=by unfold SetTable.advance;split<;>rfl
    cases hs:t.slot p.j with
    | empty=>rw [hs] at e;cases e;exact ⟨hs,rfl⟩
    | dummy =>
      exfalso
      unfold SetTable.slot at hs
      dsimp only at hs
      rw [hd,UD] at hs
      split at hs
      . cases hs
      . simp at hs
    | live i =>
      rw [hs] at e
      dsimp only at e
      split at e
      . cases e
      . rw [<- adv];exact yW hd f h fuel _ j d e
theorem Gt.put {b:Bool} {t:SetTable} (g:Gt b t) {j:Nat} (hj:t.slot j=.empty):Gt b (t.put j).1:=by
 have ne:t.place[SetTable.below t.place j]?≠some j:=fun e=>by
  unfold SetTable.slot at hj
  dsimp only at hj
  rw [e] at hj
  simp at hj
 refine ⟨fun hp=>?_,?_,g.ld⟩
 ·show Rs (SetTable.insertAt t.place (SetTable.below t.place j) j)
  exact (g.rs hp).insert ne
 ·show (if SetTable.has t.dummies j=true then _ else _)=_
  rw [g.nd,UD];rfl
theorem Gt.orStandIn {b:Bool} {t:SetTable} (g:Gt b t) (n:Nat):Gt b (t.orStandIn n):=by
 unfold SetTable.orStandIn
 split
 ·exact g
 ·exact g.standIn _
theorem Gt.layNew {b:Bool} {t:SetTable} (g:Gt b t) (es:Array (Int×Value)) (h:Int) (x:Value):Gt b (layNew t es h x).2.1:=by
  unfold PySem.layNew
  cases e:t.freeSlot h with
  | none=>exact g.standIn _
  | some q =>
    obtain ⟨slot,wd⟩:=q
    dsimp only
    refine Gt.orStandIn (g.put ?_) _
    unfold SetTable.freeSlot at e
    split at e
    . rename_i j d hm
      obtain ⟨q1,q2⟩:=yW g.nd _ h _ _ j d hm
      have:d=none:=q2
      subst this
      cases e
      exact q1
    . cases e
theorem gq {mask finger moves:Nat} {led plain:Bool} {hs:Array Int} {t:SetTable} {o:Array Nat} (h:SetTable.laid mask finger moves led plain hs=some (t,o)):Gt led t:=by
  unfold SetTable.laid at h
  cases e:SetTable.layClean mask hs with
  | none=>rw [e] at h;cases h
  | some owner =>
    rw [e] at h
    simp only [Option.bind_eq_bind,Option.bind_some,Option.pure_def,Option.some.injEq,Prod.mk.injEq] at h
    obtain ⟨rfl,_⟩:=h
    refine ⟨fun _=>?_,rfl,rfl⟩
    show ((((List.range (mask+1)).filterMap fun j=>(owner.getD j none).map (j,·)).map (·.1)).toArray).toList.Pairwise (· < ·)
    rw [List.toList_toArray,List.pairwise_map]
    refine List.Pairwise.filterMap _ (fun a a' hab b hb b' hb'=>?_) (List.pairwise_lt_range)
    cases ea:owner.getD a none with
    | none=>rw [ea] at hb;cases hb
    | some x =>
      cases ea':owner.getD a' none with
      | none=>rw [ea'] at hb';cases hb'
      | some x' =>
        rw [ea] at hb;rw [ea'] at hb'
        cases hb;cases hb'
        exact hab
theorem Gt.relayAll {b:Bool} {t:SetTable} (g:Gt b t) (es:Array (Int×Value)) (n:Nat):Gt b (relayAll t es n).2.1:=by
  unfold PySem.relayAll
  cases e:t.relaid (es.map (·.1)) n with
  | none=>exact g.standIn _
  | some q =>
    obtain ⟨t',o⟩:=q
    dsimp only
    split
    . have:=gq e
      rw [g.ld] at this
      exact this
    . exact g.standIn _
open PyProof PyProof.Rows
section
variable {prog:Program} {w:World} {A:Around} {E:Value->Shared->Prop} {s:Shared} {a:Addr}
def Gs (prog:Program) (w:World) (b:Bool) (h:Heap) (a:Addr) (ns:List Int):Prop :=
 ∃ (o:Obj) (es:Array (Int×Value)) (ep:Nat) (t:SetTable),h.get? a=some o/\o.ExactSet/\o.data=.set es ep t/\ElemsOf (intKind prog w) es.toList/\(es.toList.map fun e=>numOf e.2).Perm ns/\ns.Nodup/\ns.length < scanBound/\t.fits es.size=true/\Gt b t
theorem jx {es:List (Int×Value)} (h:ElemsOf (intKind prog w) es) {e:Int×Value} (he:e∈es):∃ t,e.2=.int (numOf e.2) t:=by
 obtain ⟨⟨k,hk,_⟩,_⟩:=h e he
 obtain ⟨t,q⟩:=Value.isInt_shape hk
 exact ⟨t,by rw [q];rfl⟩
theorem Gs.size {b:Bool} {h:Heap} {ns:List Int} {es:Array (Int×Value)} (p:(es.toList.map fun e=>numOf e.2).Perm ns):es.size=ns.length:=by
 have:=p.length_eq
 rw [List.length_map,Array.length_toList] at this;exact this
theorem uG {b:Bool} {ns:List Int} {n:Int} {tk:Tok} {Q:Bool->Shared->Prop} (hS:Gs prog w b s.heap a ns) (hroom:ns.length+1 < scanBound)
    (h:∀ h',Heap.SameBut a s.heap h'->Gs prog w b h' a (if n∈ns then ns else ns++[n])->Q (!decide (n∈ns)) { s with heap:=h' }) :
    wpAny (model prog w) A (setAddHashed a (.int n tk) (hashInt n)) Q E s:=by
  obtain ⟨o,es,ep,t,ho,hex,hd,hel,pm,nd,hb,hf,g⟩:=hS
  have sz:=Gs.size (b:=b) (h:=s.heap) pm
  have hkey:(intKind prog w).is n (.int n tk)=true:=intKind_is _ _ _ _
  have mem:n∈ns↔∃ e∈es.toList,(intKind prog w).is n e.2=true:=by
    rw [<- pm.mem_iff,List.mem_map]
    constructor
    . rintro ⟨e,he,q⟩
      obtain ⟨t',q'⟩:=jx hel he
      exact ⟨e,he,by rw [q',q];exact intKind_is _ _ _ _⟩
    . rintro ⟨e,he,q⟩
      obtain ⟨t',q'⟩:=Value.isInt_shape q
      exact ⟨e,he,by rw [q'];rfl⟩
  unfold setAddHashed setAddHashedIn
  refine wpAny_holding (wpAny_bind (wpAny_setState_of ho hd hf ?_))
  dsimp only
  rw [byScan_of rfl (by omega) hel]
  simp only [if_true]
  unfold setAddByScan
  refine wpAny_bind (wpAny_bind (wpAny_rule (wpAny_bind (wpAny_setScan_of hkey ho hd hf hel ?_))))
  cases hr:List.findIdx? (fun e=>(intKind prog w).is n e.2) es.toList with
  | some j =>
    dsimp only
    obtain ⟨hj,hpj,_⟩:=List.findIdx?_eq_some_iff_getElem.mp hr
    have yes:n∈ns:=mem.mpr ⟨_,List.getElem_mem hj,hpj⟩
    have q:=h s.heap (Heap.SameBut.refl a s.heap) (by rw [if_pos yes];exact ⟨o,es,ep,t,ho,hex,hd,hel,pm,nd,hb,hf,g⟩)
    rw [decide_eq_true yes] at q
    exact wpAny_pure (wpAny_pure q)
  | none =>
    dsimp only
    have no:n∉ns:=fun yes=>by
      obtain ⟨e,he,q⟩:=mem.mp yes
      have:=List.findIdx?_eq_none_iff.mp hr e he
      rw [q] at this;cases this
    have hperm:=layNew_perm t es (hashInt n) (.int n tk)
    have hfits:=layNew_fits t es (hashInt n) (.int n tk)
    have gl:=g.layNew es (hashInt n) (.int n tk)
    generalize hL:layNew t es (hashInt n) (.int n tk)=L at hperm hfits gl
    obtain ⟨es1,t1,wd,gv⟩:=L
    dsimp only at hperm hfits gl ⊢
    rw [Array.toList_push] at hperm
    have gw:∀ (c:Bool) {s₁:Shared} {Q':Unit->Shared->Prop},Q' () s₁->wpAny (model prog w) A (match c with | true=>rule "set.scan.the-table-gave-way" | false=>pure ()) Q' E s₁:=fun c s₁ Q' hq=>by
      cases c
      . exact wpAny_pure hq
      . exact wpAny_rule hq
    have el1:ElemsOf (intKind prog w) es1.toList:=(hel.push hkey rfl).perm hperm
    have pm1:(es1.toList.map fun e=>numOf e.2).Perm (ns++[n]):=by
      refine (hperm.map _).trans ?_
      rw [List.map_append]
      exact pm.append (List.Perm.refl [n])
    have nd1:(ns++[n]).Nodup:=List.nodup_append.mpr ⟨nd,by simp,fun x hx y hy e=>by
      rw [List.mem_singleton.mp hy] at e;exact no (e▸hx)⟩
    have hb1:(ns++[n]).length < scanBound:=by simpa using hroom
    have s1:=Gs.size (b:=b) (h:=s.heap) pm1
    have q:∀ h',Heap.SameBut a s.heap h'->Gs prog w b h' a (ns++[n])->Q true { s with heap:=h' }:=fun h' x1 x2=>by
      have:=h h' x1 (by rw [if_neg no];exact x2)
      rw [decide_eq_false no] at this;exact this
    have tail:∀ t2:SetTable,t2.fits es1.size=true->Gt b t2->wpAny (model prog w) A (do
        storeSet a es1 t2
        if (!wd&&t2.tooFull)=true then do
            (match (relayAll t2 es1 (SetTable.grown es1.size)).2.2 with | true=>rule "set.scan.the-table-gave-way" | false=>pure ())
            storeSet a (relayAll t2 es1 (SetTable.grown es1.size)).1 (relayAll t2 es1 (SetTable.grown es1.size)).2.1
            pure (some true)
          else pure (some true)) (fun r s'=>r=some true/\∃ h',s'={ s with heap:=h' }/\Heap.SameBut a s.heap h'/\Gs prog w b h' a (ns++[n])) E s:=fun t2 f2 g2=>by
      refine wpAny_bind (wpAny_storeSet_of ho hd ?_ (fits_of_scanBound (by omega)))
      have hg:(s.heap.update a (Obj.putSet es1 t2)).get? a=some { o with data:=.set es1 (ep+1) t2 }:=by
        have:=Heap.get?_update_self (Obj.putSet es1 t2) ho (by rw [putSet_of es1 t2 hd];rfl)
        rw [putSet_of es1 t2 hd] at this;exact this
      have sb:=Heap.SameBut.update s.heap a (Obj.putSet es1 t2)
      split
      . have hp:=relayAll_perm t2 es1 (SetTable.grown es1.size)
        have hfr:=relayAll_fits t2 es1 (SetTable.grown es1.size)
        have g3:=g2.relayAll es1 (SetTable.grown es1.size)
        generalize relayAll t2 es1 (SetTable.grown es1.size)=R at hp hfr g3
        obtain ⟨es2,t3,gv2⟩:=R
        dsimp only at hp hfr g3 ⊢
        have e2:es2.size=es1.size:=by rw [<- Array.length_toList,hp.length_eq,Array.length_toList]
        refine wpAny_bind (gw _ ?_)
        refine wpAny_bind (wpAny_storeSet_of hg rfl ?_ (fits_of_scanBound (by omega)))
        have hg2:((s.heap.update a (Obj.putSet es1 t2)).update a (Obj.putSet es2 t3)).get? a=some { o with data:=.set es2 (ep+1+1) t3 }:=by
          have:=Heap.get?_update_self (Obj.putSet es2 t3) hg (by rw [putSet_of (o:={ o with data:=.set es1 (ep+1) t2 }) es2 t3 rfl];rfl)
          rw [putSet_of (o:={ o with data:=.set es1 (ep+1) t2 }) es2 t3 rfl] at this;exact this
        exact wpAny_pure ⟨rfl,_,rfl,sb.trans (Heap.SameBut.update _ a _),_,es2,_,t3,hg2,hex,rfl,el1.perm hp,(hp.map _).trans pm1,nd1,hb1,hfr,g3⟩
      . exact wpAny_pure ⟨rfl,_,rfl,sb,_,es1,_,t2,hg,hex,rfl,el1,pm1,nd1,hb1,f2,g2⟩
    have fin:∀ t2:SetTable,t2.fits es1.size=true->Gt b t2->wpAny (model prog w) A (do
        storeSet a es1 t2
        if (!wd&&t2.tooFull)=true then do
            (match (relayAll t2 es1 (SetTable.grown es1.size)).2.2 with | true=>rule "set.scan.the-table-gave-way" | false=>pure ())
            storeSet a (relayAll t2 es1 (SetTable.grown es1.size)).1 (relayAll t2 es1 (SetTable.grown es1.size)).2.1
            pure (some true)
          else pure (some true)) (fun r s'=>wpAny (model prog w) A (match r with | some added=>pure added | none=>setAddHashedIn a (.int n tk) (hashInt n) 99999) Q E s') E s:=fun t2 f2 g2=>wpAny_mono (tail t2 f2 g2) (fun r s' z=>by
      obtain ⟨rfl,h',rfl,z1,z2⟩:=z
      exact wpAny_pure (q h' z1 z2)) fun _ _ x=>x
    refine wpAny_bind (gw _ ?_)
    split
    . refine wpAny_bind ?_
      rw [hashByValue_scannable 8 (x:=.int n tk) rfl]
      refine wpAny_pure ?_
      exact fin _ (by split;exact hfits;exact SetTable.fits_plain_off hfits) (by split;exact gl;exact gl.plainOff)
    . refine wpAny_bind (wpAny_pure ?_)
      simp only [if_true]
      exact fin _ hfits gl
end
end TS
namespace TS
open PySem PyProof PyProof.Rows
section
variable {prog:Program} {w:World} {A:Around} {E:Value->Shared->Prop} {s:Shared}
def byT (w:World):Bool:=w.params.followText "set-order"
def zS (b:Bool):Obj:={ cls:=.type "set", dict:=none,data:=.set #[] 0 (.fresh 0 0 b) }
theorem kC (a:Value) {Q₁:Value->Shared->Prop} (h:Q₁ (.ref s.heap.objs.size) { s with heap:=s.heap.push (zS (!byT w)) }) :
  codeAny (model prog w) A (.call (.builtin "set.__new__") ⟨[.type "set", a],[]⟩) (wants Q₁ E) s:=by
 refine codeAny_of_tree ?_
 show wpAny _ A.in1 (checkBuiltinCall "set.__new__" ⟨[.type "set", a],[]⟩ >>= fun _=>again (.builtin "set.__new__" ⟨[.type "set", a],[]⟩)) _ _ s
 refine wpAny_bind (wpAny_of_eq (F.newCall_set_1 a) (wpAny_pure ⟨plainId_quiet F.plain_set_new _,codeAny_builtin F.entry_set_new ?_⟩))
 rw [Around.under_plainId F.plain_set_new _]
 unfold Builtin.«set.__new__» Builtin.Frozenset.newClass
 have sb:=sub_set_self
 obtain ⟨hp,gn,dr,tk,os⟩:=s
 dsimp only
 wp_walk
 refine wpAny_askSetting (wpAny_pure ?_)
 dsimp only
 simp only [newObj]
 refine wpAny_bind (wpAny_alloc (wpAny_pure (wpAny_pure ?_)))
 exact h
def met (ns:List Int) (i:Nat):List Int:=(ns.take i).foldl (fun l n=>if n∈l then l else l++[n]) []
theorem met_len (ns:List Int):∀ i,(met ns i).length<=i:=by
  intro i
  have:∀ (l acc:List Int),(l.foldl (fun l n=>if n∈l then l else l++[n]) acc).length<=acc.length+l.length:=by
    intro l
    induction l with
    | nil=>intro acc;simp
    | cons x l ih =>
      intro acc
      rw [List.foldl_cons]
      refine Nat.le_trans (ih _) ?_
      split
      . simp
      . simp;omega
  have h:=this (ns.take i) []
  have:(ns.take i).length<=i:=by rw [List.length_take];omega
  unfold met
  simp only [List.length_nil] at h
  omega
theorem vt {ns:List Int} {i:Nat} {n:Int} (h:ns[i]?=some n):met ns (i+1)=if n∈met ns i then met ns i else met ns i++[n]:=by
 unfold met
 rw [List.take_succ,h,List.foldl_append];rfl
theorem Gs.keep {b:Bool} {h h':Heap} {a:Addr} {ns:List Int} (g:Gs prog w b h a ns) (k:∀ o,h.get? a=some o->h'.get? a=some o):Gs prog w b h' a ns:=by
 obtain ⟨o,es,ep,t,ho,r⟩:=g
 exact ⟨o,es,ep,t,k o ho,r⟩
theorem ua {I:Addr} {fp wr:List Addr} {G:Array GenState->Array GenState->Prop} {n:Nat} {P:Nat->Value->Prop} {St:Nat->Shared->Prop} {R:Result->Shared->Prop} {b:Bool}
    (W:WalksS prog w A.in1 I fp wr G n P St) (S:Addr) (hSf:S∉fp) (ns:List Int) (hval:∀ i v,P i v->∃ x t,ns[i]?=some x/\v=.int x t) (hb:n+1 < scanBound) :
    ∀ (k i : Nat) (s : Shared), n - i = k -> i <= n -> St i s -> Gs prog w b s.heap S (met ns i) ->
      (∀ s',Moved (S::wr) G s s'->Gs prog w b s'.heap S (met ns n)->R (.ok (.ret .none)) s') ->
      codeAny (model prog w) A (.builtin "set.update.loop" ⟨[.ref S,.ref I],[]⟩) R s:=by
  have hSw:S∉wr:=fun h=>hSf (W.sub _ h)
  have hsub:∀ c∈wr,c∈S::wr:=fun c hc=>List.mem_cons_of_mem _ hc
  intro k
  induction k with
  | zero =>
    intro i s hk hi hst hS hR
    obtain rfl:i=n:=by omega
    refine codeAny_builtin F.entry_set_update_loop ?_
    rw [Around.under_plainId F.plain_set_update_loop _]
    show wpAny _ A.in1 (pyNext (.ref I) >>= _) _ _ s
    refine wpAny_bind (W.done s _ _ hst fun s' hm=>?_)
    show wpAny _ A.in1 (ret Value.none) _ _ s'
    exact wpAny_pure (hR s' (hm.mono hsub) (hS.keep fun o e=>hm.heap S _ hSw e))
  | succ k ih =>
    intro i s hk hi hst hS hR
    have hlt:i < n:=by omega
    refine codeAny_builtin F.entry_set_update_loop ?_
    rw [Around.under_plainId F.plain_set_update_loop _]
    show wpAny _ A.in1 (pyNext (.ref I) >>= _) _ _ s
    refine wpAny_bind (W.item i s _ _ hlt hst fun v s' hP hst' hm=>?_)
    obtain ⟨x,t,hx,rfl⟩:=hval i v hP
    have hS':Gs prog w b s'.heap S (met ns i):=hS.keep fun o e=>hm.heap S _ hSw e
    show wpAny _ A.in1 (holding [Value.int x t] (setAdd S (.int x t)) >>= _) _ _ s'
    refine wpAny_bind (wpAny_holding ?_)
    unfold setAdd
    refine wpAny_holding (wpAny_bind ((intKind prog w).pyHash (k:=x) (intKind_is _ _ _ _) ?_))
    refine uG (s:={ s' with toks:=s'.toks+1 }) (n:=x) (tk:=t) hS' (by have:=met_len ns i;omega) fun h' hsb hS2=>?_
    rw [<- vt hx] at hS2
    refine wpAny_pure ⟨plainId_quiet F.plain_set_update_loop _,ih (i+1) _ (by omega) hlt (W.frame _ s' _ _ hst' (Nat.le_succ _) fun c hc o e=>?_) hS2 fun s'' hm'' hS''=>?_⟩
    . rw [hsb.2 c (fun h:c=S=>hSf (by rw [<- h];exact hc))];exact e
    . refine hR s'' (Moved.trans W.gtrans ((hm.mono hsub).then_heap (Nat.le_succ _) fun c o hc e=>?_) hm'') hS''
      rw [hsb.2 c (fun h:c=S=>hc (by rw [h];exact List.mem_cons_self))];exact e
theorem set_list {l:Addr} {items:Array Value} {ns:List Int} {Q:Value->Shared->Prop} (hh:A.handled=none) (hl:s.heap.IsList l items) (hi:IntsAre items.toList ns) (hb:items.size+1 < scanBound)
    (h:∀ (h':Heap) (tk:Nat),Gs prog w (!byT w) h' s.heap.objs.size (met ns items.size)->(∀ c o,c < s.heap.objs.size->s.heap.get? c=some o->h'.get? c=some o)->Q (.ref s.heap.objs.size) { s with heap:=h',toks:=tk }) :
    wpAny (model prog w) A (call (.type "set") [.ref l]) Q E s:=by
  obtain ⟨cc,tl,hmro⟩:=F.called_set.mro
  have hmade:=F.called_set.made
  have hsub:=F.called_set.sub
  refine wpAny_call (codeAny_of_tree ?_)
  show wpAny _ _ (callAny (.type "set") _) _ _ _
  refine wpAny_pure ⟨Code.quiet_builtin _ (by decide +kernel),codeAny_builtin F.entry_type_call ?_⟩
  rw [Around.under_plain (weight_type_call_type "set" [.ref l] []) rfl]
  have h1:=F.called_set.notType
  have h2:=F.called_set.canCreate
  have hct:=F.typeCall_set_1 (.ref l)
  repeat (any_goals (first | assumption | wp_step))
  refine codeAny_mono (kC (.ref l) (E:=E) (Q₁:=fun obj s₁=>obj=.ref s.heap.objs.size/\s₁={ s with heap:=s.heap.push (zS (!byT w)) }) ⟨rfl,rfl⟩) fun r s₁ hr=>?_
  cases r with
  | error e=>exact hr
  | ok fl =>
    cases fl with
    | ret obj =>
      obtain ⟨rfl,rfl⟩:=hr
      have hS:(s.heap.push (zS (!byT w))).get? s.heap.objs.size=some (zS (!byT w)):=Heap.get?_push_size _ rfl
      have hT:Shared.TypeIs { s with heap:=s.heap.push (zS (!byT w)) } (.ref s.heap.objs.size) "set" := ⟨_,hS,rfl⟩
      have hli:=F.called_set.init.lookup
      have hbi:=F.called_set.init.bind (.ref s.heap.objs.size)
      repeat (any_goals (first | assumption | wp_step))
      refine codeAny_mono (codeAny_call_builtin (R:=wants (fun r s₂=>r=.none/\∃ h' tk,s₂={ s with heap:=h',toks:=tk }/\Gs prog w (!byT w) h' s.heap.objs.size (met ns items.size)/\(∀ c o,c < s.heap.objs.size->s.heap.get? c=some o->h'.get? c=some o)) E) F.called_set.init.plain F.entry_set_init (check_set_init_1 hT ?_)) fun r₂ s₂ hr₂=>?_
      . obtain ⟨ol,hol,hcl,nl,hdl⟩:=hl
        obtain ⟨ocls,odict,odata,oslots⟩:=ol
        simp only at hcl hdl
        subst hcl;subst hdl
        have hol':(s.heap.push (zS (!byT w))).get? l=some { cls:=.type "list", dict:=odict,data:=.seq items nl,slots:=oslots }:=Heap.get?_push_of_some _ hol
        have y1:=F.sub_list_set
        have y2:=F.sub_list_frozenset
        have y3:(Value.type "list" == Value.type "dict")=false:=by decide
        have hl1:(s.heap.push (zS (!byT w))).IsList l items:=⟨_,hol',rfl,nl,rfl⟩
        unfold Builtin.«set.__init__» noKeywords Builtin.Frozenset.updateFrom
        generalize hPI:pyIter=PI
        wp_walk
        subst hPI
        refine wpAny_pyIter_list hl1 (wpAny_bind (wpAny_runValue ?_))
        have hlS:l < s.heap.objs.size:=Heap.lt_size hol
        have hh3:A.in1.in1.in1.handled=none:=by simp [hh]
        have lI:l≠(s.heap.push (zS (!byT w))).objs.size:=by rw [Heap.size_push];exact Nat.ne_of_lt (Nat.lt_succ_of_lt hlS)
        have hSf:s.heap.objs.size∉[(s.heap.push (zS (!byT w))).objs.size,l]:=by
          rw [Heap.size_push]
          simp only [List.mem_cons,List.mem_singleton,List.not_mem_nil,or_false,not_or]
          exact ⟨Nat.ne_of_lt (Nat.lt_succ_self _),Nat.ne_of_gt hlS⟩
        have il:=hi.length
        have hval:∀ (i:Nat) (v:Value),items[i]?=some v->∃ x t,ns[i]?=some x/\v=.int x t:=fun i v hv=>by
          have hv':items.toList[i]?=some v:=by rw [Array.getElem?_toList];exact hv
          obtain ⟨t,e⟩:=IntsAre.int_at hi i v hv'
          have li:i < ns.length:=by
            have:=(List.getElem?_eq_some_iff.mp hv').1;omega
          exact ⟨ns[i],t,List.getElem?_eq_getElem li,by rw [e,List.getD_eq_getElem?_getD,List.getElem?_eq_getElem li];rfl⟩
        refine ua (b:=!byT w) ((Walks.list hh3 _ l lI items).toS) s.heap.objs.size hSf ns hval hb (items.size - 0) 0 _ (by omega) (Nat.zero_le _) ⟨⟨_,Heap.get?_push_size _ rfl,rfl,rfl⟩,(hl1.push _)⟩ ?hS0 ?hR
        case hS0 =>
          refine ⟨zS (!byT w),#[],0,.fresh 0 0 (!byT w),Heap.get?_push_of_some _ hS,⟨rfl,rfl,rfl⟩,rfl,fun e he=>by simp at he,List.Perm.refl [],List.Pairwise.nil,(show ([]:List Int).length < scanBound by decide),rfl,Gt.fresh _ _ _⟩
        case hR =>
          intro s' hm hS'
          obtain ⟨h',g',d',tk',os'⟩:=s'
          obtain rfl:g'=s.gens:=hm.gens
          obtain rfl:d'=s.drawn:=hm.drawn
          obtain rfl:os'=s.os:=hm.os
          show wpAny _ _ _ _ _ _
          refine wpAny_pure ?_
          show wpAny _ _ (ret Value.none) _ _ _
          refine wpAny_pure ⟨rfl,h',tk',rfl,hS',fun c o hc e=>?_⟩
          have c1:c≠s.heap.objs.size:=Nat.ne_of_lt hc
          have c2:c≠(s.heap.push (zS (!byT w))).objs.size:=by rw [Heap.size_push];exact Nat.ne_of_lt (Nat.lt_succ_of_lt hc)
          exact hm.heap c o (by simp only [List.mem_cons,List.mem_singleton,List.not_mem_nil,or_false,not_or];exact ⟨c1,c2⟩) (Heap.get?_push_of_some _ (Heap.get?_push_of_some _ e))
      . cases r₂ with
        | error e=>exact hr₂
        | ok fl₂ =>
          cases fl₂ with
          | ret r =>
            obtain ⟨rfl,h',tk,rfl,hS',hk'⟩:=hr₂
            repeat (any_goals (first | assumption | wp_step))
            exact h _ _ hS' hk'
          | _=>exact hr₂.elim
    | _=>exact hr.elim
end
end TS
namespace TS
open PySem PyProof PyProof.Rows
theorem slot_sit:Slot "set_iterator" "__next__" "set_iterator.__next__" :=
 .of (owner := "set_iterator") (n := "__next__") (by rw [typeLookup_type,builtinLookup_eq_fast];kernel_rfl) (by decide +kernel) (by decide +kernel) (by decide +kernel) (by first | exact .inl (by decide +kernel) | exact .inr (by decide +kernel)) (by rw [isSubtype_type];kernel_rfl)
theorem KW:Manifest.owners.lookup (String.ofList ['r','o','t','a','r','e','t','i','_','t','e','s'].reverse)=some Manifest.sig_set_iterator:=by kernel_rfl
theorem Yl (a:Value):argsOk "set_iterator.__next__" ⟨[a],[]⟩:=by
 unfold argsOk;rw [signature?_of (id := "set_iterator.__next__") (n:=['_','_','t','x','e','n','_','_']) (o:=['r','o','t','a','r','e','t','i','_','t','e','s']) (by kernel_rfl) KW];kernel_rfl
theorem XH:entryFor table "set_iterator.__next__" = some Builtin.«set_iterator.__next__»:=entryFor_of_tree (by kernel_rfl)
theorem za:entryFor table "set.__iter__" = some Builtin.«frozenset.__iter__»:=entryFor_alias (id' := "frozenset.__iter__") (by kernel_rfl) rfl (by decide +kernel) (by kernel_rfl)
section
variable {prog:Program} {w:World} {A:Around} {E:Value->Shared->Prop} {s:Shared}
def itO (first:Value) (i:Int) (a:Value) (n ep:Nat):Obj:={ cls:=.type "set_iterator", data:=.fields #[first,rawInt i,a,rawInt n,rawInt ep] }
structure Wo (w:World) (h:Heap) (S:Addr) (es:Array (Int×Value)) (ep:Nat) (t:SetTable):Prop where
 at_:∃ o,h.get? S=some o/\o.ExactSet/\o.data=.set es ep t
 fit:t.fits es.size=true
 gt:Gt (!byT w) t
theorem Wo.size {h:Heap} {S:Addr} {es:Array (Int×Value)} {ep:Nat} {t:SetTable} (W:Wo w h S es ep t):t.place.size=es.size:=by
 have:=W.fit
 unfold SetTable.fits at this
 simp only [Bool.and_eq_true,beq_iff_eq] at this
 exact this.1
theorem UK {I S:Addr} {es:Array (Int×Value)} {ep i sl nx:Nat} {t:SetTable} {x:Value} {Q:Option Value->Shared->Prop} (W:Wo w s.heap S es ep t) (hI:s.heap.get? I=some (itO (rawInt sl) i (.ref S) es.size ep))
  (hn:∀ {Q':Option (Value×Nat)->Shared->Prop} {E':Value->Shared->Prop},Q' (some (x,nx)) s->wpAny (model prog w) A.in1 (setNext S sl i ep) Q' E' s)
  (h:∀ h',(∀ b o,b≠I->s.heap.get? b=some o->h'.get? b=some o)->h'.get? I=some (itO (rawInt nx) (i+1:Nat) (.ref S) es.size ep)->Q (some x) { s with heap:=h' }) :
  wpAny (model prog w) A (pyNext (.ref I)) Q E s:=by
 obtain ⟨o,ho,hex,hd⟩:=W.at_
 have hT:s.TypeIs (.ref I) "set_iterator" := ⟨_,hI,rfl⟩
 unfold pyNext
 refine wpAny_bind (wpAny_attempt (wpAny_callSpecial?_slot (name:=Str.ofString "__next__") hT slot_sit (wpAny_call_entry slot_sit hT XH ?_ (Yl _))))
 unfold Builtin.«set_iterator.__next__» slotArgs
 simp only [List.isEmpty_nil,Bool.not_true,Bool.false_eq_true,if_false,bind_assoc,List.length_nil,bne_self_eq_false]
 refine wpAny_bind (wpAny_pure ?_)
 dsimp only
 refine wpAny_bind (wpAny_fieldsOf hI rfl ?_)
 dsimp only [rawInt,List.toList_toArray]
 refine wpAny_bind (wpAny_setEntries_of ho hd W.fit ?_)
 rw [if_neg (by simp)]
 simp only [Int.toNat_natCast]
 refine wpAny_bind (hn ?_)
 dsimp only
 refine wpAny_bind (wpAny_setField hI rfl (by simp) ?_)
 have g1:=Heap.get?_update_self (Obj.mapFields (·.setIfInBounds 0 (.int (nx:Nat) 0))) hI rfl
 refine wpAny_bind (wpAny_setField g1 rfl (by simp [Obj.mapFields,itO]) ?_)
 have g2:=Heap.get?_update_self (Obj.mapFields (·.setIfInBounds 1 (.int ((i:Int)+1) 0))) g1 rfl
 refine wpAny_pure ⟨_,rfl,wpAny_pure (h _ (fun c oc hc e=>?_) ?_)⟩
 ·exact (Heap.get?_update_other _ _ (Ne.symm hc)).trans ((Heap.get?_update_other _ _ (Ne.symm hc)).trans e)
 ·exact g2
theorem UL {I S:Addr} {es:Array (Int×Value)} {ep i sl:Nat} {t:SetTable} {Q:Option Value->Shared->Prop} (hh:A.handled=none) (W:Wo w s.heap S es ep t) (hI:s.heap.get? I=some (itO (rawInt sl) i (.ref S) es.size ep))
  (hn:∀ {Q':Option (Value×Nat)->Shared->Prop} {E':Value->Shared->Prop},Q' none s->wpAny (model prog w) A.in1 (setNext S sl i ep) Q' E' s)
  (h:∀ h',(∀ b o,b≠I->s.heap.get? b=some o->h'.get? b=some o)->Q none { s with heap:=h' }) :
  wpAny (model prog w) A (pyNext (.ref I)) Q E s:=by
 obtain ⟨o,ho,hex,hd⟩:=W.at_
 have hT:s.TypeIs (.ref I) "set_iterator" := ⟨_,hI,rfl⟩
 unfold pyNext
 refine wpAny_bind (wpAny_attempt (wpAny_callSpecial?_slot (name:=Str.ofString "__next__") hT slot_sit (wpAny_call_entry slot_sit hT XH ?_ (Yl _))))
 unfold Builtin.«set_iterator.__next__» slotArgs
 simp only [List.isEmpty_nil,Bool.not_true,Bool.false_eq_true,if_false,bind_assoc,List.length_nil,bne_self_eq_false]
 refine wpAny_bind (wpAny_pure ?_)
 dsimp only
 refine wpAny_bind (wpAny_fieldsOf hI rfl ?_)
 dsimp only [rawInt,List.toList_toArray]
 refine wpAny_bind (wpAny_setEntries_of ho hd W.fit ?_)
 rw [if_neg (by simp)]
 simp only [Int.toNat_natCast]
 refine wpAny_bind (hn ?_)
 dsimp only
 refine wpAny_bind (wpAny_setField hI rfl (by simp) ?_)
 refine wpAny_bind ?_
 simp only [newExc,newTuple]
 refine wpAny_bind (wpAny_newObj_type ?_ (by size_fits))
 refine wpAny_bind (m:=firstArgMember _ _) (wpAny_of_eq (a:=Value.none) (by first | rfl | (simp only [firstArgMember];rfl)) ?_)
 refine wpAny_newObj_type ?_ (by size_fits)
 simp only [raiseNew]
 refine wpAny_bind (wpAny_handled ?_)
 rw [show A.in1.handled=none from hh]
 refine wpAny_bind (wpAny_pure (wpAny_throw ?_))
 refine wpAny_bind (wpAny_isInstance (T := "StopIteration") (b:=true) ⟨_,Heap.get?_push_size _ rfl,rfl⟩ isSubtype_stop ?_)
 refine wpAny_pure (h _ fun c oc hc e=>?_)
 exact Heap.get?_push_of_some _ (Heap.get?_push_of_some _ ((Heap.get?_update_other _ _ (Ne.symm hc)).trans e))
theorem zx {S:Addr} {es:Array (Int×Value)} {ep i:Nat} {t:SetTable} {sl:Nat} {Q:Option (Value×Nat)->Shared->Prop} (W:Wo w s.heap S es ep t) (hb:byT w=false) (hp:t.plain=true∨es.size<=1) (hs:SetTable.below t.place sl=i)
  (h:Q (match es[i]?,t.place[i]? with | some (_,x),some j=>some (x,j+1) | _,_=>none) s):wpAny (model prog w) A (setNext S sl i ep) Q E s:=by
 obtain ⟨o,ho,hex,hd⟩:=W.at_
 have ld:t.led=true:=by rw [W.gt.ld,hb];rfl
 unfold setNext setsByText
 refine wpAny_bind (wpAny_setState_of ho hd W.fit ?_)
 dsimp only
 refine wpAny_bind (wpAny_bind (wpAny_askSetting (wpAny_pure ?_)))
 dsimp only
 rw [if_neg (show ¬ (model prog w).w.params.followText "set-order" = true from by
  have:byT w=false:=hb
  unfold byT at this
  show ¬ w.params.followText "set-order" = true
  rw [this];simp)]
 rw [if_neg (fun q=>by
  have q:(!t.plain&&decide (es.size > 1))=true:=q
  rcases hp with hp | hp
  ·rw [hp] at q;cases q
  ·rw [decide_eq_false (by omega),Bool.and_false] at q;cases q)]
 refine wpAny_bind (show wpAny (model prog w) _ (if (!t.led&&!es.isEmpty)=true then unsupported "set:maker-not-led" else pure PUnit.unit) _ _ _ from ?_)
 rw [if_neg (by rw [ld];simp)]
 refine wpAny_pure ?_
 rw [hs]
 exact wpAny_pure h
theorem jH {S:Addr} {es:Array (Int×Value)} {ep i:Nat} {t:SetTable} {sl:Nat} {Q:Option (Value×Nat)->Shared->Prop} (W:Wo w s.heap S es ep t) (hb:byT w=true)
  (h:Q (((pickOrder (w.params.setOrder S ep) es)[i]?).map fun e=>(e.2,sl)) s):wpAny (model prog w) A (setNext S sl i ep) Q E s:=by
 obtain ⟨o,ho,hex,hd⟩:=W.at_
 have bt:w.params.followText "set-order" = true:=hb
 unfold setNext setsByText
 refine wpAny_bind (wpAny_setState_of ho hd W.fit ?_)
 dsimp only
 refine wpAny_bind (wpAny_bind (wpAny_askSetting (wpAny_pure ?_)))
 dsimp only
 rw [if_pos (show (model prog w).w.params.followText "set-order" = true from bt)]
 rw [if_neg (by simp)]
 unfold setWalk setsByText
 refine wpAny_bind (wpAny_bind (wpAny_setState_of ho hd W.fit ?_))
 dsimp only
 refine wpAny_bind (wpAny_bind (wpAny_askSetting (wpAny_pure ?_)))
 dsimp only
 rw [if_pos (show (model prog w).w.params.followText "set-order" = true from bt)]
 refine wpAny_bind (wpAny_askSetting (wpAny_pure ?_))
 exact wpAny_pure h
end
end TS
namespace TS
open PySem PyProof PyProof.Rows
section
variable {prog:Program} {w:World} {A:Around} {E:Value->Shared->Prop}
theorem X8 {α:Type}:∀ {xs:List α} {i:Nat} (h:i < xs.length),(xs[i]::xs.eraseIdx i).Perm xs
  | x::xs,0,_=>List.Perm.refl _
  | x::xs,i+1,h=>by
    have:=X8 (xs:=xs) (i:=i) (by simpa using h)
    show (xs[i]'(by simpa using h)::x::xs.eraseIdx i).Perm (x::xs)
    exact (List.Perm.swap _ _ _).trans (List.Perm.cons _ this)
theorem kM {M:Model} {s:Shared} {src:Source} {n:Nat} {Q:Nat->Shared->Prop} (hn:n≠0) (h:Q (M.w.draws src (s.drawn.get src) % n) { s with drawn:=s.drawn.bump src }):wpAny M A (choose src n) Q E s:=fun Γ p hΓ=>by
 unfold choose
 rw [Sem.wp_choose]
 exact ⟨hn,by simpa using h⟩
theorem Vp {α:Type}:∀ (n:Nat) (xs:List α) (s:Shared) {Q:List α->Shared->Prop},xs.length=n->(∀ ys d,ys.Perm xs->Q ys { s with drawn:=d })->wpAny (model prog w) A (drawOrder n xs) Q E s
  | 0,xs,s,Q,hl,h=>by
    have:xs=[]:=List.eq_nil_of_length_eq_zero hl
    subst this
    unfold drawOrder
    exact wpAny_pure (h [] s.drawn (List.Perm.refl _))
  | n+1,xs,s,Q,hl,h=>by
    cases xs with
    | nil=>simp at hl
    | cons x0 xs0 =>
      unfold drawOrder
      refine wpAny_bind (kM (by simp) ?_)
      generalize hi:(model prog w).w.draws .order (s.drawn.get .order) % (x0::xs0).length=i
      have li:i < (x0::xs0).length:=by rw [<- hi];exact Nat.mod_lt _ (by simp)
      rw [List.getElem?_eq_getElem li]
      dsimp only
      refine wpAny_bind (Vp n _ _ (by rw [List.length_eraseIdx];simp only [li,if_true];simp only [List.length_cons] at hl ⊢;omega) fun ys d hp=>?_)
      refine wpAny_pure (h _ d ?_)
      refine (List.Perm.cons _ hp).trans ?_
      exact X8 li
variable {s:Shared}
theorem uT {I S T:Addr} {es:Array (Int×Value)} {ep i:Nat} {t:SetTable} {ot:Obj} {ps:List Nat} {c:Nat} {x:Int×Value} {p:Nat} {Q:Option Value->Shared->Prop} (W:Wo w s.heap S es ep t) (hI:s.heap.get? I=some (itO (.ref T) i (.ref S) es.size ep)) (hT0:s.heap.get? T=some ot) (hTd:ot.data=.seq (ps.map fun (k:Nat)=>rawInt k).toArray c)
  (hp:ps[i]?=some p) (hx:es[p]?=some x)
  (h:∀ h',(∀ b o,b≠I->s.heap.get? b=some o->h'.get? b=some o)->h'.get? I=some (itO (.ref T) (i+1:Nat) (.ref S) es.size ep)->Q (some x.2) { s with heap:=h' }) :
  wpAny (model prog w) A (pyNext (.ref I)) Q E s:=by
 obtain ⟨o,ho,hex,hd⟩:=W.at_
 have hT:s.TypeIs (.ref I) "set_iterator" := ⟨_,hI,rfl⟩
 unfold pyNext
 refine wpAny_bind (wpAny_attempt (wpAny_callSpecial?_slot (name:=Str.ofString "__next__") hT slot_sit (wpAny_call_entry slot_sit hT XH ?_ (Yl _))))
 unfold Builtin.«set_iterator.__next__» slotArgs
 simp only [List.isEmpty_nil,Bool.not_true,Bool.false_eq_true,if_false,bind_assoc,List.length_nil,bne_self_eq_false]
 refine wpAny_bind (wpAny_pure ?_)
 dsimp only
 refine wpAny_bind (wpAny_fieldsOf hI rfl ?_)
 dsimp only [rawInt,List.toList_toArray]
 refine wpAny_bind (wpAny_setEntries_of ho hd W.fit ?_)
 rw [if_neg (by simp)]
 simp only [Int.toNat_natCast]
 unfold seqItems?
 refine wpAny_bind (wpAny_bind (wpAny_load hT0 ?_))
 rw [hTd]
 refine wpAny_pure ?_
 dsimp only
 have e1:((ps.map fun (k:Nat)=>rawInt k).toArray)[i]?=some (rawInt p):=by simp [hp]
 rw [e1]
 dsimp only [rawInt]
 unfold setNextDrawn
 refine wpAny_bind (wpAny_bind (wpAny_setState_of ho hd W.fit ?_))
 dsimp only
 rw [if_neg (by simp)]
 simp only [Int.toNat_natCast]
 rw [hx]
 refine wpAny_pure ?_
 refine wpAny_bind (wpAny_setField hI rfl (by simp) ?_)
 have g1:=Heap.get?_update_self (Obj.mapFields (·.setIfInBounds 1 (.int ((i:Int)+1) 0))) hI rfl
 refine wpAny_pure ⟨_,rfl,wpAny_pure (h _ (fun c' oc hc e=>?_) ?_)⟩
 ·exact (Heap.get?_update_other _ _ (Ne.symm hc)).trans e
 ·exact g1
end
end TS
namespace TS
open PySem PyProof PyProof.Rows
section
variable {prog:Program} {w:World} {A:Around} {E:Value->Shared->Prop} {s:Shared}
theorem v8 {r:Addr} (hT:s.TypeIs (.ref r) "set") {Q:Bool->Shared->Prop} (h:Q false s):wpAny (model prog w) A (Builtin.List.listLengthHint (.ref r)) Q E s:=by
 unfold Builtin.List.listLengthHint
 refine wpAny_bind (wpAny_specialOf hT F.slot_set_len.lookup ?_)
 generalize hid:("set.__len__" : String)=id0
 wp_delta
 rw [show splitId id0=some ("set", "__len__") from by subst hid;decide +kernel]
 subst hid
 refine wpAny_bind (wpAny_isInstance (T := "set") (b:=true) hT (by rw [isSubtype_type];kernel_rfl) ?_)
 refine wpAny_ite_split (fun hab=>absurd hab (by decide)) (fun _=>?_)
 refine wpAny_ite_split (fun _=>?_) (fun hab=>absurd (by decide +kernel) hab)
 refine wpAny_bind (wpAny_typeOf hT ?_)
 exact wpAny_pure h
theorem Vf:typeLookup (.type "set_iterator") "__next__" = pure (some (.builtin "set_iterator.__next__")):=slot_sit.lookup
theorem v9 {S:Addr} {es:Array (Int×Value)} {ep:Nat} {t:SetTable} {Q:Value->Shared->Prop} (W:Wo w s.heap S es ep t) (hz:es.size < scanBound)
    (hp:(byT w=true∨t.plain=true∨es.size<=1)->Q (.ref s.heap.objs.size) { s with heap:=s.heap.push (itO (rawInt 0) 0 (.ref S) es.size ep) })
    (hd':∀ (ps:List Nat) (d:Drawn),ps.Perm (List.range es.size)->Q (.ref (s.heap.objs.size+1)) { s with heap:=(s.heap.push { cls:=.type "tuple", data:=.seq (ps.map fun (k:Nat)=>rawInt k).toArray }).push (itO (.ref s.heap.objs.size) 0 (.ref S) es.size ep),drawn:=d }) :
    wpAny (model prog w) A (pyIter (.ref S)) Q E s:=by
  obtain ⟨o,ho,hex,hd⟩:=W.at_
  have hT:s.TypeIs (.ref S) "set" := ⟨o,ho,hex.1⟩
  refine wpAny_pyIter_slot hT F.slot_set_iter (wpAny_call_entry F.slot_set_iter hT za ?_ (F.args_set_iter_1 _))
  unfold Builtin.«frozenset.__iter__» Builtin.Frozenset.slot0 slotArgs
  simp only [List.isEmpty_nil,Bool.not_true,Bool.false_eq_true,if_false,bind_assoc,List.length_nil,bne_self_eq_false]
  unfold Builtin.Frozenset.addrOf Builtin.Frozenset.sizeOf
  refine wpAny_bind (wpAny_pure ?_)
  dsimp only
  refine wpAny_bind (wpAny_pure ?_)
  refine wpAny_bind (wpAny_bind (wpAny_setEntries_of ho hd W.fit (wpAny_pure ?_)))
  unfold setDrawn setsByText
  refine wpAny_bind (wpAny_bind (wpAny_setState_of ho hd W.fit ?_))
  dsimp only
  refine wpAny_bind (wpAny_bind (wpAny_askSetting (wpAny_pure (wpAny_pure ?_))))
  show wpAny (model prog w) _ (if (!byT w&&(!t.plain&&decide (es.size > 1)))=true then _ else _) _ _ _
  by_cases c:(!byT w&&(!t.plain&&decide (es.size > 1)))=true
  . rw [if_pos c]
    refine wpAny_bind (Vp _ _ _ (List.length_range) fun ps d pm=>?_)
    have pl:ps.length=es.size:=by rw [pm.length_eq,List.length_range]
    refine wpAny_bind (wpAny_newTuple ?_ (by rw [List.length_map,pl];exact Nat.le_of_lt (Nat.lt_of_lt_of_le hz (by decide))))
    refine wpAny_bind (wpAny_setEpoch_of (Heap.get?_push_of_some _ ho) hd W.fit ?_)
    refine wpAny_bind (wpAny_newObj_type ?_)
    refine wpAny_pure ⟨_,rfl, "set_iterator", _,⟨_,Heap.get?_push_size _ rfl,rfl⟩,Vf,?_⟩
    have q:=hd' ps d pm
    rw [<- Heap.size_push s.heap { cls:=.type "tuple", data:=.seq (ps.map fun (k:Nat)=>rawInt k).toArray }] at q
    exact q
  . rw [if_neg c]
    refine wpAny_bind (wpAny_pure ?_)
    refine wpAny_bind (wpAny_setEpoch_of ho hd W.fit ?_)
    refine wpAny_bind (wpAny_newObj_type ?_)
    refine wpAny_pure ⟨_,rfl, "set_iterator", _,⟨_,Heap.get?_push_size _ rfl,rfl⟩,Vf,?_⟩
    refine hp ?_
    cases hb:byT w with
    | true=>exact .inl rfl
    | false =>
      cases hq:t.plain with
      | true=>exact .inr (.inl rfl)
      | false =>
        rw [hb,hq] at c
        refine .inr (.inr (Nat.le_of_not_lt fun z=>c ?_))
        simp;exact z
theorem uU {I S T:Addr} {es:Array (Int×Value)} {ep i:Nat} {t:SetTable} {ot:Obj} {ps:List Nat} {c:Nat} {Q:Option Value->Shared->Prop} (hh:A.handled=none) (W:Wo w s.heap S es ep t) (hI:s.heap.get? I=some (itO (.ref T) i (.ref S) es.size ep)) (hT0:s.heap.get? T=some ot) (hTd:ot.data=.seq (ps.map fun (k:Nat)=>rawInt k).toArray c)
  (hp:ps[i]?=none)
  (h:∀ h',(∀ b o,b≠I->s.heap.get? b=some o->h'.get? b=some o)->Q none { s with heap:=h' }) :
  wpAny (model prog w) A (pyNext (.ref I)) Q E s:=by
 obtain ⟨o,ho,hex,hd⟩:=W.at_
 have hT:s.TypeIs (.ref I) "set_iterator" := ⟨_,hI,rfl⟩
 unfold pyNext
 refine wpAny_bind (wpAny_attempt (wpAny_callSpecial?_slot (name:=Str.ofString "__next__") hT slot_sit (wpAny_call_entry slot_sit hT XH ?_ (Yl _))))
 unfold Builtin.«set_iterator.__next__» slotArgs
 simp only [List.isEmpty_nil,Bool.not_true,Bool.false_eq_true,if_false,bind_assoc,List.length_nil,bne_self_eq_false]
 refine wpAny_bind (wpAny_pure ?_)
 dsimp only
 refine wpAny_bind (wpAny_fieldsOf hI rfl ?_)
 dsimp only [rawInt,List.toList_toArray]
 refine wpAny_bind (wpAny_setEntries_of ho hd W.fit ?_)
 rw [if_neg (by simp)]
 simp only [Int.toNat_natCast]
 unfold seqItems?
 refine wpAny_bind (wpAny_bind (wpAny_load hT0 ?_))
 rw [hTd]
 refine wpAny_pure ?_
 dsimp only
 have e1:((ps.map fun (k:Nat)=>rawInt k).toArray)[i]?=none:=by simpa using hp
 rw [e1]
 dsimp only
 refine wpAny_bind (wpAny_setField hI rfl (by simp) ?_)
 have g1:=Heap.get?_update_self (Obj.mapFields (·.setIfInBounds 0 (.int 0 0))) hI rfl
 refine wpAny_bind (wpAny_setField g1 rfl (by simp [Obj.mapFields,itO]) ?_)
 refine wpAny_bind ?_
 simp only [newExc,newTuple]
 refine wpAny_bind (wpAny_newObj_type ?_ (by size_fits))
 refine wpAny_bind (m:=firstArgMember _ _) (wpAny_of_eq (a:=Value.none) (by first | rfl | (simp only [firstArgMember];rfl)) ?_)
 refine wpAny_newObj_type ?_ (by size_fits)
 simp only [raiseNew]
 refine wpAny_bind (wpAny_handled ?_)
 rw [show A.in1.handled=none from hh]
 refine wpAny_bind (wpAny_pure (wpAny_throw ?_))
 refine wpAny_bind (wpAny_isInstance (T := "StopIteration") (b:=true) ⟨_,Heap.get?_push_size _ rfl,rfl⟩ isSubtype_stop ?_)
 refine wpAny_pure (h _ fun c' oc hc e=>?_)
 exact Heap.get?_push_of_some _ (Heap.get?_push_of_some _ ((Heap.get?_update_other _ _ (Ne.symm hc)).trans ((Heap.get?_update_other _ _ (Ne.symm hc)).trans e)))
end
end TS
namespace TS
open PySem PyProof PyProof.Rows
theorem VB {xs:Array Nat} (h:Rs xs):SetTable.below xs 0=0:=by
 obtain ⟨b1,b2,_⟩:=qQ h 0
 rcases Nat.eq_zero_or_pos (SetTable.below xs 0) with e | e
 ·exact e
 ·have:=b2 0 _ e (Array.getElem?_eq_getElem (by omega))
  omega
theorem VA {xs:Array Nat} (h:Rs xs) {i j:Nat} (hi:xs[i]?=some j):SetTable.below xs (j+1)=i+1:=by
 obtain ⟨b1,b2,b3⟩:=qQ h (j+1)
 rcases Nat.lt_trichotomy (SetTable.below xs (j+1)) (i+1) with q | q | q
 ·have:=b3 i j (by omega) hi;omega
 ·exact q
 ·have e:=Array.getElem?_eq_getElem (xs:=xs) (i:=i+1) (by omega)
  have l1:=b2 (i+1) _ q e
  have l2:=h.lt hi e (by omega)
  omega
theorem U6 {α:Type} (f:Nat->Nat):∀ (n k:Nat) (left:List α) (out:Array α),left.length=n->(pickOrder.go f n k left out).toList.Perm (out.toList++left)
  | 0,k,left,out,h=>by
    have:left=[]:=List.eq_nil_of_length_eq_zero h
    subst this
    unfold pickOrder.go;simp
  | n+1,k,left,out,h=>by
    have li:f k % left.length < left.length:=Nat.mod_lt _ (by omega)
    unfold pickOrder.go
    rw [List.getElem?_eq_getElem li]
    dsimp only
    refine (U6 f n (k+1) _ _ (by rw [List.length_eraseIdx,if_pos li];omega)).trans ?_
    rw [Array.toList_push,List.append_assoc]
    exact List.Perm.append_left _ (X8 li)
theorem K1 {α:Type} (f:Nat->Nat) (xs:Array α):(pickOrder f xs).toList.Perm xs.toList:=by
 have:=U6 f xs.size 0 xs.toList #[] (by simp)
 simpa [pickOrder] using this
section
variable {prog:Program} {w:World} {A:Around} {E:Value->Shared->Prop} {s:Shared}
theorem yH {I L:Addr} {n:Nat} {St:Nat->Heap->Prop} {P:Nat->Value->Prop} {R:Result->Shared->Prop}
    (nx:∀ (i:Nat) (s:Shared) (Q:Option Value->Shared->Prop) (E:Value->Shared->Prop),i < n->St i s.heap->(∀ v h',P i v->St (i+1) h'->(∀ b o,b≠I->s.heap.get? b=some o->h'.get? b=some o)->Q (some v) { s with heap:=h' })->wpAny (model prog w) A.in1 (pyNext (.ref I)) Q E s)
    (en:∀ (s:Shared) (Q:Option Value->Shared->Prop) (E:Value->Shared->Prop),St n s.heap->(∀ h',(∀ b o,b≠I->s.heap.get? b=some o->h'.get? b=some o)->Q none { s with heap:=h' })->wpAny (model prog w) A.in1 (pyNext (.ref I)) Q E s)
    (fr:∀ (i:Nat) (h h':Heap),St i h->(∀ b o,b≠L->h.get? b=some o->h'.get? b=some o)->St i h') (hLI:L≠I) (hn:n<=sizeLine) (res:Value) :
    ∀ (k i:Nat) (s:Shared) (acc:Array Value) (c:Nat),n - i=k->i<=n->St i s.heap->s.heap.get? L=some { cls:=.type "list", dict:=none,data:=.seq acc c,slots:=#[] }->ItemsOf P acc i ->
    (∀ h' acc' c',(∀ b o,b≠L->b≠I->s.heap.get? b=some o->h'.get? b=some o)->h'.get? L=some { cls:=.type "list", dict:=none,data:=.seq acc' c',slots:=#[] }->ItemsOf P acc' n->R (.ok (.ret res)) { s with heap:=h' }) ->
    codeAny (model prog w) A (.builtin "list.extend.loop" ⟨[.ref L,.ref I,res],[]⟩) R s:=by
  intro k
  induction k with
  | zero =>
    intro i s acc c hk hi hst hS hacc hR
    obtain rfl:i=n:=by omega
    refine codeAny_builtin F.entry_extend_loop ?_
    rw [Around.under_plainId F.plain_extend_loop _]
    show wpAny _ A.in1 (pyNext (.ref I) >>= _) _ _ s
    refine wpAny_bind (en s _ _ hst fun h' hm=>?_)
    exact wpAny_pure (hR h' acc c (fun b o _ hb e=>hm b o hb e) (hm L _ hLI hS) hacc)
  | succ k ih =>
    intro i s acc c hk hi hst hS hacc hR
    have hlt:i < n:=by omega
    refine codeAny_builtin F.entry_extend_loop ?_
    rw [Around.under_plainId F.plain_extend_loop _]
    show wpAny _ A.in1 (pyNext (.ref I) >>= _) _ _ s
    refine wpAny_bind (nx i s _ _ hlt hst fun v h1 hP hst' hm=>?_)
    have hS':=hm L _ hLI hS
    show wpAny _ A.in1 (updateSeq L (·.push v) >>= _) _ _ _
    refine wpAny_bind ?_
    refine wpAny_updateSeq hS' rfl (wpAny_pure ⟨plainId_quiet F.plain_extend_loop _,ih (i+1) _ (acc.push v) _ (by omega) hlt (fr _ _ _ hst' fun b o hb e=>?_) (Heap.get?_update_self _ hS' rfl) (hacc.push hP) fun h' acc' c' hm'' hS'' hacc'=>?_⟩)
      (by rw [hacc.1];omega) (by show (acc.push v).size<=sizeLine+1;rw [Array.size_push,hacc.1];omega)
    . exact (Heap.get?_update_other _ _ (Ne.symm hb)).trans e
    . refine hR h' acc' c' (fun b o hb hbI e=>hm'' b o hb hbI ?_) hS'' hacc'
      exact (Heap.get?_update_other _ _ (Ne.symm hb)).trans (hm b o hbI e)
end
end TS
namespace TS
open PySem PyProof PyProof.Rows
section
variable {prog:Program} {w:World} {A:Around} {E:Value->Shared->Prop} {s:Shared}
def lsO (xs:Array Value) (c:Nat):Obj:={ cls:=.type "list", dict:=none,data:=.seq xs c,slots:=#[] }
theorem Wo.keep {h h':Heap} {S:Addr} {es:Array (Int×Value)} {ep:Nat} {t:SetTable} (W:Wo w h S es ep t) (k:∀ o,h.get? S=some o->h'.get? S=some o):Wo w h' S es ep t:=by
 obtain ⟨⟨o,e,r⟩,f,g⟩:=W
 exact ⟨⟨o,k o e,r⟩,f,g⟩
theorem Ve {S L I:Addr} {q:Bool} {R:Result->Shared->Prop} {c:Nat} (hT:s.TypeIs (.ref S) "set") (hL:s.heap.get? L=some (lsO #[] c))
  (loop:∀ h' c',(∀ b o,b≠L->s.heap.get? b=some o->h'.get? b=some o)->h'.get? L=some (lsO #[] c')->codeAny (model prog w) A (.builtin "list.extend.loop" ⟨[.ref L,.ref I,.ref L],[]⟩) R { s with heap:=h' }) :
  wpAny (model prog w) A.in1 (do
   let room <- holding [.ref I] (Builtin.List.listLengthHint (.ref S))
   if (room||q)=true then do
     rule "list.extend.makes-room"
     Builtin.List.listTouch (.ref L)
     again (.builtin "list.extend.loop" ⟨[.ref L,.ref I,.ref L],[]⟩)
    else again (.builtin "list.extend.loop" ⟨[.ref L,.ref I,.ref L],[]⟩)) (fun fin s'=>match fin with | .done f=>R (.ok f) s' | .again c'=>c'.quiet=true/\codeAny (model prog w) A c' R s') (fun e s'=>R (.error e) s') s:=by
 refine wpAny_bind (wpAny_holding (v8 hT ?_))
 refine wpAny_ite_split (fun _=>?_) (fun _=>wpAny_pure ⟨plainId_quiet F.plain_extend_loop _,loop s.heap c (fun _ _ _ e=>e) hL⟩)
 refine wpAny_bind (wpAny_rule (wpAny_bind ?_))
 show wpAny _ _ (updateSeq L (·.push .none) >>= fun _=>updateSeq L (·.pop)) _ _ _
 refine wpAny_bind (wpAny_updateSeq hL rfl ?_)
 have g2:=Heap.get?_update_self (Obj.mapSeq (·.push Value.none)) hL rfl
 refine wpAny_updateSeq (hz:=by seq_fits) g2 rfl ?_
 have g3:=Heap.get?_update_self (Obj.mapSeq (·.pop)) g2 rfl
 refine wpAny_pure ⟨plainId_quiet F.plain_extend_loop _,loop _ _ (fun b o hb e=>?_) g3⟩
 exact (Heap.get?_update_other _ _ (Ne.symm hb)).trans ((Heap.get?_update_other _ _ (Ne.symm hb)).trans e)
theorem zj {P:Nat->Value->Prop} {acc:Array Value} {es:Array (Int×Value)} {ns:List Int} {ord:List (Int×Value)} (hel:ElemsOf (intKind prog w) es.toList) (pm:(es.toList.map fun e=>numOf e.2).Perm ns) (po:ord.Perm es.toList) (h:ItemsOf P acc es.size) (hP:∀ i v,P i v->∃ e,ord[i]?=some e/\v=e.2):∃ ms:List Int,IntsAre acc.toList ms/\ms.Perm ns:=by
  have el:ord.length=es.size:=by rw [po.length_eq,Array.length_toList]
  have ea:acc.toList=ord.map (·.2):=by
    refine List.ext_getElem? fun i=>?_
    rw [List.getElem?_map,Array.getElem?_toList]
    cases hv:acc[i]? with
    | none =>
      have:ord[i]?=none:=by
        rw [List.getElem?_eq_none_iff]
        rw [Array.getElem?_eq_none_iff,h.1] at hv
        omega
      rw [this];rfl
    | some v =>
      obtain ⟨e,e1,e2⟩:=hP i v (h.2 i v hv)
      rw [e1,e2];rfl
  have go:∀ l:List (Int×Value),(∀ e∈l,e∈es.toList)->IntsAre (l.map (·.2)) (l.map fun e=>numOf e.2):=by
    intro l
    induction l with
    | nil=>intro _;exact .nil
    | cons e l ih =>
      intro hm
      obtain ⟨t,q⟩:=jx hel (hm e List.mem_cons_self)
      show IntsAre (e.2::l.map (·.2)) (numOf e.2::l.map fun e=>numOf e.2)
      have hh:=ih fun x hx=>hm x (List.mem_cons_of_mem _ hx)
      rw [q]
      exact .cons _ t hh
  exact ⟨ord.map fun e=>numOf e.2,by rw [ea];exact go ord fun e he=>po.mem_iff.mp he,(po.map _).trans pm⟩
theorem Vd {S:Addr} {ns:List Int} {R:List Value->Shared->Prop} (hh:A.handled=none) (g:Gs prog w (!byT w) s.heap S ns)
    (h:∀ (h':Heap) (d:Drawn) (vs:List Value) (ms:List Int),IntsAre vs ms->ms.Perm ns->(∀ b o,s.heap.get? b=some o->h'.get? b=some o)->R vs { s with heap:=h',drawn:=d }) :
    wpAny (model prog w) A (collect (.ref S)) R E s:=by
  obtain ⟨o,es,ep,t,ho,hex,hd,hel,pm,nd,hb,hf,gt⟩:=g
  have sz:=Gs.size (b:=!byT w) (h:=s.heap) pm
  have hSl:S < s.heap.objs.size:=Heap.lt_size ho
  have W:Wo w s.heap S es ep t:=⟨⟨o,ho,hex,hd⟩,hf,gt⟩
  have rs:t.plain=true∨es.size<=1->Rs t.place:=fun q=>by
    rcases q with q | q
    . exact gt.rs q
    . have:=W.size
      unfold Rs
      match e:t.place.toList with
      | []=>exact .nil
      | [_]=>exact List.pairwise_singleton _ _
      | _::_::_=>have:=congrArg List.length e;simp at this;omega
  unfold collect
  refine wpAny_bind (wpAny_runValue (codeAny_builtin F.entry_proto_collect ?_))
  rw [Around.under_plainId F.plain_proto_collect _]
  show wpAny _ A.in1 (newList [] >>= fun l=>again (.builtin "list.__iadd__" ⟨[l,.ref S],[]⟩)) _ _ s
  refine wpAny_bind (wpAny_newObj_type ?_)
  refine wpAny_pure ⟨plainId_quiet F.plain_list_iadd _,codeAny_builtin F.entry_list_iadd ?_⟩
  rw [Around.under_plainId F.plain_list_iadd _]
  show wpAny _ A.in1 (Builtin.List.listExtendWith (.ref s.heap.objs.size) (.ref S) (.ref s.heap.objs.size)) _ _ _
  have hL1:(s.heap.push (lsO #[] 0)).get? s.heap.objs.size=some (lsO #[] 0):=Heap.get?_push_size _ rfl
  have W1:Wo w (s.heap.push (lsO #[] 0)) S es ep t:=W.keep fun o e=>Heap.get?_push_of_some _ e
  have hT1:Shared.TypeIs { s with heap:=s.heap.push (lsO #[] 0) } (.ref S) "set" := ⟨o,Heap.get?_push_of_some _ ho,hex.1⟩
  unfold Builtin.List.listExtendWith
  refine wpAny_bind (wpAny_typeOf hT1 ?_)
  have h1:Builtin.List.listSameRef (.ref s.heap.objs.size) (.ref S)=false:=by simp [Builtin.List.listSameRef,Nat.ne_of_gt hSl]
  have h2:(Value.type "set" == Value.type "list")=false:=by decide
  have h3:(Value.type "set" == Value.type "tuple")=false:=by decide
  simp only [h1,h2,h3,Bool.or_false,Bool.false_eq_true,if_false]
  refine wpAny_bind (v9 (s:={ s with heap:=s.heap.push (lsO #[] 0) }) W1 (by omega) (fun hm=>?_) (fun ps d pp=>?_))
  . -- by places,or by the text
    let I:=(s.heap.push (lsO #[] 0)).objs.size
    have eI:I=s.heap.objs.size+1:=Heap.size_push _ _
    let ord:Array (Int×Value):=if byT w=true then pickOrder (w.params.setOrder S ep) es else es
    have po:ord.toList.Perm es.toList:=by
      show (if byT w=true then pickOrder (w.params.setOrder S ep) es else es).toList.Perm _
      split
      . exact K1 _ _
      . exact List.Perm.refl _
    have os:ord.size=es.size:=by rw [<- Array.length_toList,po.length_eq,Array.length_toList]
    let St:Nat->Heap->Prop:=fun i h=>∃ sl:Nat,h.get? I=some (itO (rawInt sl) i (.ref S) es.size ep)/\Wo w h S es ep t/\(byT w=false->SetTable.below t.place sl=i)
    let P:Nat->Value->Prop:=fun i v=>∃ e,ord.toList[i]?=some e/\v=e.2
    have hSI:S≠I:=by rw [eI];exact Nat.ne_of_lt (Nat.lt_succ_of_lt hSl)
    have pl:byT w=false->(t.plain=true∨es.size<=1):=fun e=>by rw [e] at hm;simpa using hm
    have nx:∀ (i:Nat) (s':Shared) (Q:Option Value->Shared->Prop) (E:Value->Shared->Prop),i < es.size->St i s'.heap->(∀ v h',P i v->St (i+1) h'->(∀ b o,b≠I->s'.heap.get? b=some o->h'.get? b=some o)->Q (some v) { s' with heap:=h' })->wpAny (model prog w) A.in1 (pyNext (.ref I)) Q E s':=fun i s' Q E hi hst hq=>by
      obtain ⟨sl,i1,i2,i3⟩:=hst
      cases hby:byT w with
      | true =>
        have eo:ord=pickOrder (w.params.setOrder S ep) es:=if_pos hby
        have ex:ord[i]?=some ord[i]:=Array.getElem?_eq_getElem (by omega)
        refine UK (x:=ord[i].2) (nx:=sl) i2 i1 (fun {Q' E'} z=>jH i2 hby (by rw [<- eo,ex];exact z)) fun h' k1 k2=>hq _ h' ⟨ord[i],by rw [Array.getElem?_toList];exact ex,rfl⟩ ⟨sl,k2,i2.keep fun o e=>k1 S o hSI e,fun z=>by rw [hby] at z;cases z⟩ k1
      | false =>
        have eo:ord=es:=if_neg (by rw [hby];simp)
        have ex:es[i]?=some es[i]:=Array.getElem?_eq_getElem hi
        have lp:i < t.place.size:=by rw [W.size];exact hi
        have ej:t.place[i]?=some t.place[i]:=Array.getElem?_eq_getElem lp
        refine UK (x:=es[i].2) (nx:=t.place[i]+1) i2 i1 (fun {Q' E'} z=>zx i2 hby (pl hby) (i3 hby) (by rw [ex,ej];exact z)) fun h' k1 k2=>hq _ h' ⟨es[i],by rw [eo,Array.getElem?_toList];exact ex,rfl⟩ ⟨_,k2,i2.keep fun o e=>k1 S o hSI e,fun _=>VA (rs (pl hby)) ej⟩ k1
    have en:∀ (s':Shared) (Q:Option Value->Shared->Prop) (E:Value->Shared->Prop),St es.size s'.heap->(∀ h',(∀ b o,b≠I->s'.heap.get? b=some o->h'.get? b=some o)->Q none { s' with heap:=h' })->wpAny (model prog w) A.in1 (pyNext (.ref I)) Q E s':=fun s' Q E hst hq=>by
      obtain ⟨sl,i1,i2,i3⟩:=hst
      cases hby:byT w with
      | true =>
        have eo:ord=pickOrder (w.params.setOrder S ep) es:=if_pos hby
        refine UL (by simpa using hh) i2 i1 (fun {Q' E'} z=>jH i2 hby (by rw [<- eo,Array.getElem?_eq_none (by omega)];exact z)) hq
      | false =>
        refine UL (by simpa using hh) i2 i1 (fun {Q' E'} z=>zx i2 hby (pl hby) (i3 hby) (by rw [Array.getElem?_eq_none (Nat.le_refl _)];exact z)) hq
    refine Ve (R:=fun r s'=>match r with
      | .ok (.ret v)=>wpAny (model prog w) A (match v with
        | .ref a=>do
          let o <- load a
          match o.data with
            | .seq xs _=>pure xs.toList
            | _=>unsupported "internal:collect"
        | _=>unsupported "internal:collect") R E s'
      | .ok _=>False
      | .error e=>E e s') (I:=I) (s:={ s with heap:=(s.heap.push (lsO #[] 0)).push (itO (rawInt 0) 0 (.ref S) es.size ep) }) (c:=0) ⟨o,Heap.get?_push_of_some _ (Heap.get?_push_of_some _ ho),hex.1⟩ (Heap.get?_push_of_some _ hL1) fun h2 c2 k2 l2=>?_
    refine yH (n:=es.size) (St:=St) (P:=P) nx en (fun i h h' hst k=>?_) (by rw [eI];exact Nat.ne_of_lt (Nat.lt_succ_self _)) (Nat.le_of_lt (Nat.lt_of_lt_of_le (show es.size < scanBound by omega) (by decide))) _ es.size 0 _ #[] c2 rfl (Nat.zero_le _) ⟨0,k2 I _ (by rw [eI];exact Nat.ne_of_gt (Nat.lt_succ_self _)) (Heap.get?_push_size _ rfl),((W1.keep fun o e=>Heap.get?_push_of_some _ e).keep fun o e=>k2 S o (Nat.ne_of_lt hSl) e),fun z=>VB (rs (pl z))⟩ l2 (ItemsOf.nil P) fun h3 acc c3 k3 l3 it=>?_
    . obtain ⟨sl,i1,i2,i3⟩:=hst
      exact ⟨sl,k I _ (by rw [eI];exact Nat.ne_of_gt (Nat.lt_succ_self _)) i1,i2.keep fun o e=>k S o (Nat.ne_of_lt hSl) e,i3⟩
    . show wpAny _ A (load s.heap.objs.size >>= _) _ _ _
      refine wpAny_bind (wpAny_load l3 (wpAny_pure ?_))
      obtain ⟨ms,q1,q2⟩:=zj hel pm po it (fun i v z=>z)
      exact h h3 s.drawn acc.toList ms q1 q2 fun b ob e=>k3 b ob (Nat.ne_of_lt (Heap.lt_size e)) (by rw [eI];exact Nat.ne_of_lt (Nat.lt_succ_of_lt (Heap.lt_size e))) (k2 b ob (Nat.ne_of_lt (Heap.lt_size e)) (Heap.get?_push_of_some _ (Heap.get?_push_of_some _ e)))
  . -- in a drawn order
    let T:=(s.heap.push (lsO #[] 0)).objs.size
    have eT:T=s.heap.objs.size+1:=Heap.size_push _ _
    let I:=T+1
    let tp:Obj:={ cls:=.type "tuple", data:=.seq (ps.map fun (k:Nat)=>rawInt k).toArray }
    have eI:((s.heap.push (lsO #[] 0)).push tp).objs.size=I:=Heap.size_push _ _
    have LT:s.heap.objs.size≠T:=by rw [eT];exact Nat.ne_of_lt (Nat.lt_succ_self _)
    have LI:s.heap.objs.size≠I:=by show _≠T+1;rw [eT];exact Nat.ne_of_lt (Nat.lt_succ_of_lt (Nat.lt_succ_self _))
    have TI:T≠I:=Nat.ne_of_lt (Nat.lt_succ_self _)
    have SI:S≠I:=by show _≠T+1;rw [eT];exact Nat.ne_of_lt (Nat.lt_succ_of_lt (Nat.lt_succ_of_lt hSl))
    let ord:List (Int×Value):=ps.map fun p=>es.getD p (0,.none)
    have po:ord.Perm es.toList:=by
      refine (pp.map _).trans (List.Perm.of_eq ?_)
      refine List.ext_getElem? fun i=>?_
      rw [List.getElem?_map]
      by_cases q:i < es.size
      . rw [List.getElem?_range q,Array.getElem?_toList,Array.getElem?_eq_getElem q]
        simp [Array.getD,q]
      . rw [List.getElem?_eq_none (by simpa using Nat.le_of_not_lt q),List.getElem?_eq_none (by simpa using Nat.le_of_not_lt q)];rfl
    have psl:ps.length=es.size:=by rw [pp.length_eq,List.length_range]
    let St:Nat->Heap->Prop:=fun i h=>h.get? I=some (itO (.ref T) i (.ref S) es.size ep)/\Wo w h S es ep t/\h.get? T=some tp
    let P:Nat->Value->Prop:=fun i v=>∃ e,ord[i]?=some e/\v=e.2
    have nx:∀ (i:Nat) (s':Shared) (Q:Option Value->Shared->Prop) (E:Value->Shared->Prop),i < es.size->St i s'.heap->(∀ v h',P i v->St (i+1) h'->(∀ b o,b≠I->s'.heap.get? b=some o->h'.get? b=some o)->Q (some v) { s' with heap:=h' })->wpAny (model prog w) A.in1 (pyNext (.ref I)) Q E s':=fun i s' Q E hi hst hq=>by
      obtain ⟨i1,i2,i3⟩:=hst
      have li:i < ps.length:=by omega
      have ep1:ps[i]?=some ps[i]:=List.getElem?_eq_getElem li
      have lp:ps[i] < es.size:=List.mem_range.mp (pp.mem_iff.mp (List.getElem_mem li))
      have ee:es[ps[i]]?=some es[ps[i]]:=Array.getElem?_eq_getElem lp
      refine uT i2 i1 i3 rfl ep1 ee fun h' k1 k2=>hq _ h' ⟨es[ps[i]],?_,rfl⟩ ⟨k2,i2.keep fun o e=>k1 S o SI e,k1 T _ TI i3⟩ k1
      show (ps.map _)[i]?=_
      rw [List.getElem?_map,ep1]
      simp [Array.getD,lp]
    have en:∀ (s':Shared) (Q:Option Value->Shared->Prop) (E:Value->Shared->Prop),St es.size s'.heap->(∀ h',(∀ b o,b≠I->s'.heap.get? b=some o->h'.get? b=some o)->Q none { s' with heap:=h' })->wpAny (model prog w) A.in1 (pyNext (.ref I)) Q E s':=fun s' Q E hst hq=>by
      obtain ⟨i1,i2,i3⟩:=hst
      exact uU (by simpa using hh) i2 i1 i3 rfl (List.getElem?_eq_none (by omega)) hq
    have old:∀ b ob,s.heap.get? b=some ob->(((s.heap.push (lsO #[] 0)).push tp).push (itO (.ref T) 0 (.ref S) es.size ep)).get? b=some ob:=fun b ob e=>Heap.get?_push_of_some _ (Heap.get?_push_of_some _ (Heap.get?_push_of_some _ e))
    refine Ve (R:=fun r s'=>match r with
      | .ok (.ret v)=>wpAny (model prog w) A (match v with
        | .ref a=>do
          let o <- load a
          match o.data with
            | .seq xs _=>pure xs.toList
            | _=>unsupported "internal:collect"
        | _=>unsupported "internal:collect") R E s'
      | .ok _=>False
      | .error e=>E e s') (I:=I) (s:={ s with heap:=((s.heap.push (lsO #[] 0)).push tp).push (itO (.ref T) 0 (.ref S) es.size ep),drawn:=d }) (c:=0) ⟨o,old S o ho,hex.1⟩ (Heap.get?_push_of_some _ (Heap.get?_push_of_some _ hL1)) fun h2 c2 k2 l2=>?_
    have gI:(((s.heap.push (lsO #[] 0)).push tp).push (itO (.ref T) 0 (.ref S) es.size ep)).get? I=some (itO (.ref T) 0 (.ref S) es.size ep):=by rw [<- eI];exact Heap.get?_push_size _ rfl
    have gT:(((s.heap.push (lsO #[] 0)).push tp).push (itO (.ref T) 0 (.ref S) es.size ep)).get? T=some tp:=Heap.get?_push_of_some _ (Heap.get?_push_size _ rfl)
    refine yH (n:=es.size) (St:=St) (P:=P) nx en (fun i h h' hst k=>?_) LI (Nat.le_of_lt (Nat.lt_of_lt_of_le (show es.size < scanBound by omega) (by decide))) _ es.size 0 _ #[] c2 rfl (Nat.zero_le _) ⟨k2 I _ (Ne.symm LI) gI,(W.keep fun o e=>old S o e).keep fun o e=>k2 S o (Nat.ne_of_lt hSl) e,k2 T _ (Ne.symm LT) gT⟩ l2 (ItemsOf.nil P) fun h3 acc c3 k3 l3 it=>?_
    . obtain ⟨i1,i2,i3⟩:=hst
      exact ⟨k I _ (Ne.symm LI) i1,i2.keep fun o e=>k S o (Nat.ne_of_lt hSl) e,k T _ (Ne.symm LT) i3⟩
    . show wpAny _ A (load s.heap.objs.size >>= _) _ _ _
      refine wpAny_bind (wpAny_load l3 (wpAny_pure ?_))
      obtain ⟨ms,q1,q2⟩:=zj hel pm po it (fun i v z=>z)
      have ltI:∀ {b:Nat},b < s.heap.objs.size->b≠I:=fun {b} z=>by show b≠T+1;rw [eT];exact Nat.ne_of_lt (Nat.lt_succ_of_lt (Nat.lt_succ_of_lt z))
      exact h h3 d acc.toList ms q1 q2 fun b ob e=>k3 b ob (Nat.ne_of_lt (Heap.lt_size e)) (ltI (Heap.lt_size e)) (k2 b ob (Nat.ne_of_lt (Heap.lt_size e)) (old b ob e))
end
end TS
namespace TS
open PySem PyProof PyProof.Rows
section
variable {prog:Program} {w:World} {A:Around} {E:Value->Shared->Prop} {s:Shared}
theorem ints_len:∀ {vs:List Value} {ns:List Int},IntsAre vs ns->vs.length=ns.length
 | _,_,.nil=>rfl
 | _,_,.cons _ _ r=>by rw [List.length_cons,List.length_cons,ints_len r]
theorem sorted_set {S:Addr} {ns:List Int} {Q:Value->Shared->Prop} (hh:A.handled=none) (g:Gs prog w (!byT w) s.heap S ns) (hz:ns.length<=sizeLine)
  (h:∀ (h1 h':Heap) (d:Drawn) (out:List Value) (ns':List Int) (c:Nat),(∀ b o,s.heap.get? b=some o->h1.get? b=some o)->(∀ b o,h1.get? b=some o->h'.get? b=some o)->h'.get? h1.objs.size=some (seqObj "list" out.toArray c)->IntsAre out ns'->ns'.Perm ns->ns'.Pairwise (· <= ·)->Q (.ref h1.objs.size) { s with heap:=h',drawn:=d }) :
  wpAny (model prog w) A (call (.builtin "sorted") [.ref S]) Q E s:=by
 refine Calls.call_function_entry kind_sorted plain_sorted entry_sorted (args_sorted1 _) ?_
 unfold Builtin.«sorted»
 refine wpAny_bind (m:=checkCount "sorted" 1 1 _) (wpAny_pure (wpAny_bind (Vd (by simpa using hh) g fun h1 d vs ms hI pm k1=>?_)))
 have hv:vs.length<=sizeLine:=by rw [ints_len hI,pm.length_eq];exact hz
 refine wpAny_bind (wpAny_newList ?_ hv)
 have g:(h1.push (seqObj "list" vs.toArray 0)).get? h1.objs.size=some (seqObj "list" vs.toArray 0):=Heap.get?_push_size _ rfl
 refine wpAny_bind (wpAny_holding (wpAny_call_entry slot_list_sort ⟨_,g,rfl⟩ entry_list_sort (jO g hI hv fun h2 out ns' c k2 g2 o1 o2 o3=>⟨_,rfl,?_⟩) (args_list_sort _)))
 refine wpAny_pure ⟨_,rfl,h h1 h2 d out ns' c k1 (fun b o e=>k2 b o (Nat.ne_of_lt (Heap.lt_size e)) (Heap.get?_push_of_some _ e)) g2 o1 (o2.trans pm) o3⟩
end
end TS
namespace D
open PySem PySem.Spec PyProof.Rows L2
variable {X:Cx}
def srt (ns:List Int):List Int:=ns.mergeSort (fun a b=>decide (a<=b))
theorem JL (ns:List Int):(srt ns).Perm ns:=List.mergeSort_perm _ _
theorem Ua (ns:List Int):(srt ns).Pairwise (· <= ·):=by
 have:=List.pairwise_mergeSort (le:=fun a b:Int=>decide (a<=b)) (fun a b c h1 h2=>by simp at *;omega) (fun a b=>by simp;omega) ns
 exact this.imp fun h=>by simpa using h
theorem Yg {ns ms:List Int} (p:ms.Perm ns) (h:ms.Pairwise (· <= ·)):ms=srt ns :=
 (p.trans (JL ns).symm).eq_of_pairwise (fun a b _ _ h1 h2=>Int.le_antisymm h1 h2) h (Ua ns)
theorem XL:∀ {ns:List Int} {us:List Value},Vals (ns.map V.int) us->IntsAre us ns
 | [],_,.nil=>.nil
 | n::ns,_,.cons ⟨t,e⟩ r=>by subst e;exact .cons n t (XL r)
theorem ZZ:∀ {us:List Value} {ns:List Int},IntsAre us ns->Vals (ns.map V.int) us
 | _,_,.nil=>.nil
 | _,_,.cons n t r=>.cons ⟨t,rfl⟩ (ZZ r)
theorem UG:∀ {us:List Value} {ns:List Int},us.length=ns.length->(∀ (j:Nat) (u:Value) (n:Int),us[j]?=some u->ns[j]?=some n->∃ t,u=.int n t)->IntsAre us ns
  | [],[],_,_=>.nil
  | u::us,n::ns,hl,h=>by
    obtain ⟨t,rfl⟩:=h 0 u n rfl rfl
    exact .cons n t (UG (by simpa using hl) fun j u n a b=>h (j+1) u n a b)
theorem UQ:∀ {kvs:List (Key×V)} {vs:List (Key×Value)},KV kvs vs->vs.map (·.1)=kvs.map (·.1)
 | _,_,.nil=>rfl
 | _,_,.cons a b=>by rw [List.map_cons,List.map_cons,UQ b,a.1]
def Gh (K:PySem.W.Frag) (H:Hp) (p:Addr) (ns:List Int):Prop:=SqL K H p (ns.map .int)∨∃ kvs:List (Key×V),H p=some (.dK kvs)/\kvs.map (·.1)=ns.map .inl
theorem yr (hc:X.calm=true):Zy X (.builtin "sorted") (fun xs H Q=>∃ p ns,xs=[.ref p]/\Gh X.K H p ns/\∀ l,H l=none->Q (.ref l) (upd H l (.lst ((srt ns).map .int)))):=by
 intro pins s σ H xs us Q I r h
 obtain ⟨p,ns,rfl,hq,q⟩:=h
 have hh:X.A.handled=none:=I.ok.hd hc
 obtain ⟨u,rfl,rx⟩:=YR r
 cases rx
 have hz:ns.length<=sizeLine:=by
  rcases hq with hq | ⟨kvs,hq,e⟩
  ·have:=(I.list hq).choose_spec.2.2;simpa using this
  ·have a:=(qV I.hok hq).1
   have b:=congrArg List.length e
   simp at b;omega
 refine TS.sorted_of (ns:=ns) (fun R hR=>?_) fun h1 h' tk out ns' c k1 k2 g o1 o2 o3=>?_
 ·rcases hq with hq | ⟨kvs,hq,e⟩
  ·obtain ⟨its,r',pl,z⟩:=I.list hq
   have hI:=XL r'
   have hl:its.length=ns.length:=by have:=r'.length;simpa using this.symm
   have R1:=hR ((s.heap.push (seqObj "list" #[] 0)).update s.heap.objs.size (Obj.mapSeq (· ++ its.toArray))) s.toks its hI (by omega) fun b o e=>by
    have hlt:b < s.heap.objs.size:=Heap.lt_size e
    rw [Heap.get?_update_ne _ _ _ _ (Nat.ne_of_lt hlt)];exact Heap.get?_push_of_some _ e
   exact collect_list pl.isList R1 (by omega)
  ·obtain ⟨_,lo,vs,kv,hd⟩:=qV I.hok hq
   obtain ⟨ep,hat⟩:=hd.dictAt
   have kl:vs.map (·.1)=ns.map Sum.inl:=(UQ kv).trans e
   have hvl:vs.length=ns.length:=by have:=congrArg List.length kl;simpa using this
   refine PySem.W.kdu_collect (PySem.W.kdl_dict (knd:=QT X.prog X.w) (kvs:=vs) (ep:=ep) lo) hh hat (by omega) fun h1 tk acc k1 it=>hR h1 tk acc.toList (UG ?_ fun j u n a b=>?_) ?_ k1
   ·rw [Array.length_toList,it.1,hvl]
   ·obtain ⟨k,x,e1,e2⟩:=it.2 j u (by simpa using a)
    have:k=Sum.inl n:=by
     have e3:=congrArg (fun l=>l[j]?) kl
     simp [e1,b] at e3
     exact e3
    subst this
    rcases QZ (show Yy (Sum.inl n) u=true from e2) with ⟨i,t,h1,h2⟩ | ⟨_,_,h1,_⟩
    ·cases h1;exact ⟨t,h2⟩
    ·cases h1
   ·rw [Array.length_toList,it.1];omega
 ·obtain rfl:=Yg o2 o3
  have I1:Inv X pins σ H { s with heap:=h1,toks:=tk }:=I.kept k1
  have hlen:(srt ns).length<=sizeLine:=by rw [(JL ns).length_eq];exact hz
  exact ⟨.ref h1.objs.size,_,I1.laid (t':=tk) k2 (Nat.le_refl _) (show ObjOk X.prog X.w _ h' _ (.lst ((srt ns).map .int)) from ⟨by simpa using hlen,out,c,ZZ o1,g⟩),rfl,q _ (I1.hok.fresh (Nat.le_refl _))⟩
def Z2:List DV->Option (List Int)
 | []=>some []
 | .int n::r=>(Z2 r).map (n :: ·)
 | _=>none
def Yx:List (Key×DV)->Option (List Int)
 | []=>some []
 | (.inl n,_)::r=>(Yx r).map (n :: ·)
 | _=>none
def JY {α:Type}:Option α->M α
 | some d=>pure d
 | none=>failure
theorem ZT {α:Type} {o:Option α} {d:α} {hp hp':Hs} (h:JY o hp=some (d,hp')):o=some d/\hp=hp':=by
 cases o with
 | none=>cases h
 | some x=>obtain ⟨rfl,rfl⟩:=Qg h;exact ⟨rfl,rfl⟩
def va:DV->M (List Int)
  | .lst ds=>JY (Z2 ds)
  | .ref n=>do
    match <- Q0 n with
    | .lst ds=>JY (Z2 ds)
    | .dic kvs=>JY (Yx kvs)
    | _=>failure
  | _=>failure
def YO:List DV->M DV:=vE fun d=>do let ns <- va d;pure (.lst ((srt ns).map .int))
variable {K:PySem.W.Frag} {ρ:List Addr} {B:Addr->Prop} {H:Hp}
theorem ZQ:∀ {ds:List DV} {ns:List Int} {xs:List V},Z2 ds=some ns->RepL K ρ B H ds xs->xs=ns.map .int
  | [],_,xs,h,r=>by cases h;exact r
  | .int n::ds,ns,xs,h,⟨x,q,e,r1,r2⟩=>by
    obtain ⟨ms,h1,rfl⟩:=Option.map_eq_some_iff.mp (show (Z2 ds).map (n :: ·)=some ns from h)
    rw [e,r1.intI,ZQ h1 r2];rfl
theorem XJ:∀ ns:List Int,RepL K ρ B H (ns.map .int) (ns.map .int)
 | []=>rfl
 | n::ns=>⟨_,_,rfl,Zo,XJ ns⟩
theorem zn:∀ {kvs:List (Key×DV)} {ns:List Int},Yx kvs=some ns->kvs.map (·.1)=ns.map .inl
  | [],_,h=>by cases h;rfl
  | (.inl n,d)::kvs,ns,h=>by
    obtain ⟨ms,h1,rfl⟩:=Option.map_eq_some_iff.mp (show (Yx kvs).map (n :: ·)=some ns from h)
    rw [List.map_cons,List.map_cons,zn h1]
theorem XD:∀ (ns:List Int),Z2 (ns.map .int)=some ns
  | []=>rfl
  | n::ns=>by
    show (Z2 (ns.map .int)).map (n :: ·)=_
    rw [XD ns];rfl
theorem XC (hc:X.calm=true):Zy X (.builtin "sorted") (tPn X.K YO):=by
  intro pins s σ H xs us Q I r h
  obtain ⟨ρ,B,hp,ds,d,hp',W,rl,e,k⟩:=h
  obtain ⟨x,rfl,e⟩:=qc e
  obtain ⟨ns,hp1,e1,e2⟩:=bind_some e
  obtain ⟨rfl,rfl⟩:=Qg e2
  obtain ⟨v,rfl,rv⟩:=rl.oneI
  have key:hp=hp1/\∃ p,v=.ref p/\Gh X.K H p ns:=by
    cases x with
    | lst zs =>
      obtain ⟨h1,rfl⟩:=ZT e1
      obtain ⟨a,ys,rfl,_,sq,l⟩:=rv.lstI
      exact ⟨rfl,a,rfl,.inl (ZQ h1 l▸sq)⟩
    | ref n =>
      obtain ⟨o,hp2,e3,e4⟩:=bind_some (show (Q0 n >>= fun o=>(match o with | .lst ds=>JY (Z2 ds) | .dic kvs=>JY (Yx kvs) | _=>failure:M (List Int))) hp=some (ns,hp1) from e1)
      obtain ⟨e5,rfl⟩:=QX e3
      cases o with
      | lst zs =>
        obtain ⟨h1,rfl⟩:=ZT e4
        obtain ⟨a,rfl,_,ys,h2,l1⟩:=RepV.refW W rv e5
        exact ⟨rfl,a,rfl,.inl (ZQ h1 l1▸SqL.of h2)⟩
      | dic kvs =>
        obtain ⟨h1,rfl⟩:=ZT e4
        obtain ⟨a,rfl,_,ro⟩:=RepV.refW W rv e5
        obtain ⟨ys,h2,rk⟩:=ro.dic
        exact ⟨rfl,a,rfl,.inr ⟨ys,h2,rk.to.1.trans (zn h1)⟩⟩
      | ins _ _=>cases e4
    | tup _=>cases e1
    | non=>cases e1
    | bl _=>cases e1
    | int _=>cases e1
    | str _=>cases e1
  obtain ⟨rfl,p,rfl,io⟩:=key
  exact yr hc pins s σ H _ us Q I r ⟨p,ns,rfl,io,XI W (XJ _) k⟩
end D
namespace D
open PySem PySem.Spec PyProof.Rows L2
abbrev ClsN (K:PySem.W.Frag) (c:Str) (C:Addr):Prop:=PySem.W.nsIn K mainGlobals c=some (some (.ref C))
theorem ClsN.uniq {K:PySem.W.Frag} {c:Str} {C C':Addr} (h:ClsN K c C) (h':ClsN K c C'):C=C':=by
 have e:=h.symm.trans h';cases e;rfl
structure Vr (K:PySem.W.Frag) (c f:Str):Prop where
 ex:∃ C,ClsN K c C/\Cls K C/\NoAttr K C f
structure yi (P:Program) (w:World) (K:PySem.W.Frag) (mg:Str->Option Value) (base:Heap) (c m:Str) (k n:Nat) (F:List DV->M DV):Prop where
 ex:∃ (C f:Addr) (fd:FuncData) (ps:List Str),ClsN K c C/\Cls K C/\Vt K C m f/\Xc P w K mg base CX0 k f fd ps (spD K n F)/\Binds K fd ps []
structure uB (P:Program) (w:World) (K:PySem.W.Frag) (mg:Str->Option Value) (base:Heap) (c:Str) (k n:Nat) (F:List DV->M DV):Prop where
 ex:∃ (C f:Addr) (fd:FuncData) (ps:List Str),ClsN K c C/\mg c=some (.ref C)/\Mk K C f/\Xc P w K mg base CX0 k f fd ps (spD K n F)/\Binds K fd ps []
section
variable {K:PySem.W.Frag} {ρ:List Addr} {B:Addr->Prop} {H:Hp} {hp:Hs}
abbrev RepF (K:PySem.W.Frag) (ρ:List Addr) (B:Addr->Prop) (H:Hp):List (Str×DV)->List (Str×V)->Prop:=Paired fun p q=>p.1=q.1/\RepV K ρ B H p.2 q.2
theorem Kc:∀ {fs:List (Str×DV)} {xs:List (Str×V)},xs.map (·.1)=fs.map (·.1)->RepL K ρ B H (fs.map (·.2)) (xs.map (·.2))->RepF K ρ B H fs xs
  | [],[],_,_=>.nil
  | [],_::_,e,_=>by simp at e
  | _::_,[],e,_=>by simp at e
  | p::fs,q::xs,e,r=>by
    simp only [List.map_cons,List.cons.injEq] at e
    simp only [List.map_cons] at r
    unfold RepL at r
    obtain ⟨x,t,e2,h1,h2⟩:=r
    simp only [List.cons.injEq] at e2
    obtain ⟨rfl,rfl⟩:=e2
    exact .cons ⟨e.1.symm,h1⟩ (Kc e.2 h2)
theorem RepF.to {fs:List (Str×DV)} {xs:List (Str×V)} (r:RepF K ρ B H fs xs):xs.map (·.1)=fs.map (·.1)/\RepL K ρ B H (fs.map (·.2)) (xs.map (·.2)):=by
 induction r with
 | nil=>exact ⟨rfl,RepL.nil⟩
 | cons h _ ih=>exact ⟨by simp [ih.1,h.1],by simpa using RepL.cons h.2 ih.2⟩
theorem RepF.look {fs:List (Str×DV)} {xs:List (Str×V)} (r:RepF K ρ B H fs xs) (f:Str):(fs.lookup f=none/\xs.lookup f=none)∨∃ d v,fs.lookup f=some d/\xs.lookup f=some v/\RepV K ρ B H d v:=by
  induction r with
  | nil=>exact .inl ⟨rfl,rfl⟩
  | @cons p q _ _ h _ ih =>
    obtain ⟨p1,p2⟩:=p
    obtain ⟨q1,q2⟩:=q
    obtain ⟨h1,h2⟩:=h
    have h1:p1=q1:=h1
    subst h1
    cases e:f==p1 with
    | true=>exact .inr ⟨p2,q2,by simp [List.lookup,e],by simp [List.lookup,e],h2⟩
    | false=>simpa [List.lookup,e] using ih
def zG (f:Str) (d:DV):List (Str×DV)->List (Str×DV)
 | []=>[(f,d)]
 | (g,x)::r=>if g=f then (g,d)::r else (g,x)::zG f d r
theorem RepF.put {fs:List (Str×DV)} {xs:List (Str×V)} (r:RepF K ρ B H fs xs) (f:Str) {d:DV} {v:V} (rd:RepV K ρ B H d v):RepF K ρ B H (zG f d fs) (JF f v xs):=by
  induction r with
  | nil=>exact .cons ⟨rfl,rd⟩ .nil
  | @cons p q _ _ h t ih =>
    obtain ⟨p1,p2⟩:=p
    obtain ⟨q1,q2⟩:=q
    obtain ⟨h1,h2⟩:=h
    have h1:p1=q1:=h1
    subst h1
    unfold zG JF
    by_cases e:p1=f
    . rw [if_pos e,if_pos e];exact .cons ⟨rfl,rd⟩ t
    . rw [if_neg e,if_neg e];exact .cons ⟨rfl,h2⟩ ih
theorem RepF.len {fs:List (Str×DV)} {xs:List (Str×V)} (r:RepF K ρ B H fs xs):fs.length=xs.length:=Paired.length r
theorem RepF.gs {ρ':List Addr} {B':Addr->Prop} {H':Hp} {fs:List (Str×DV)} {xs:List (Str×V)} (g:Gs K ρ B H ρ' B' H') (r:RepF K ρ B H fs xs):RepF K ρ' B' H' fs xs:=L2.Paired.mapP r fun _ _ h=>⟨h.1,RepV.gs g _ _ h.2⟩
theorem ORep.ins {a:Addr} {c:Str} {fs:List (Str×DV)} (h:ORep K ρ B H a (.ins c fs)):∃ C dx xs,ClsN K c C/\H a=some (.ins C dx xs)/\RepF K ρ B H fs xs:=by
 obtain ⟨C,dx,xs,nc,e,ek,rl⟩:=h
 exact ⟨C,dx,xs,nc,e,Kc ek rl⟩
theorem RepF.orep {a C dx:Addr} {c:Str} {fs:List (Str×DV)} {xs:List (Str×V)} (nc:ClsN K c C) (r:RepF K ρ B H fs xs) (e:H a=some (.ins C dx xs)):ORep K ρ B H a (.ins c fs):=⟨C,dx,xs,nc,e,r.to.1,r.to.2⟩
theorem ux {n:Nat} {a C dx:Addr} {c:Str} {xs xs':List (Str×V)} {fs':List (Str×DV)} (W:WOk K ρ B hp H) (i:ρ[n]?=some a) (nc:ClsN K c C) (e:H a=some (.ins C dx xs)) (r:RepF K ρ B H fs' xs'):Gr K ρ B H ρ B (upd H a (.ins C dx xs'))/\WOk K ρ B (hp.set n (.ins c fs')) (upd H a (.ins C dx xs')):=by
 have g:Gr K ρ B H ρ B (upd H a (.ins C dx xs')):=Gr.wset i e
 exact ⟨g,W.wset (o':=.ins C dx xs') (v:=.ins c fs') i e ((r.gs (g.gs W.rb)).orep nc QI)⟩
end
def onI {α:Type} (c:Str) (x:DV) (k:Nat->List (Str×DV)->M α):M α:=match x with
  | .ref n=>do
    match <- Q0 n with
    | .ins c' fs=>do Qz (decide (c'=c));k n fs
    | _=>failure
  | _=>failure
theorem YF {α:Type} {c:Str} {x:DV} {d:α} {k:Nat->List (Str×DV)->M α} {hp hp':Hs} (h:onI c x k hp=some (d,hp')):∃ n fs,x=.ref n/\hp[n]?=some (.ins c fs)/\k n fs hp=some (d,hp'):=by
  cases x with
  | ref n =>
    obtain ⟨o,hp1,e1,e2⟩:=bind_some (show (Q0 n >>= fun o=>(match o with | .ins c' fs=>do Qz (decide (c'=c));k n fs | _=>failure:M α)) hp=some (d,hp') from h)
    obtain ⟨e3,rfl⟩:=QX e1
    cases o with
    | ins c' fs =>
      obtain ⟨_,hp2,e4,e5⟩:=bind_some e2
      obtain ⟨hl,rfl⟩:=Qx e4
      obtain rfl:=of_decide_eq_true hl
      exact ⟨n,fs,rfl,e3,e5⟩
    | lst _=>cases e2
    | dic _=>cases e2
  | non=>cases h
  | bl _=>cases h
  | int _=>cases h
  | str _=>cases h
  | tup _=>cases h
  | lst _=>cases h
def QaC (c f:Str) (x:DV):M DV:=onI c x fun _ fs=>yU (fs.lookup f)
def Qbs (c f:Str) (x d:DV):M Unit:=onI c x fun n fs=>do Qz (decide (fs.length < 1000));YN n (.ins c (zG f d fs))
def ZI (c f:Str) (g:DEx):DEx:=fun env=>do let x <- g env;QaC c f x
def Xt (c f:Str) (fo fv:DEx):DSx:=fun env=>do let y <- fv env;let x <- fo env;Qbs c f x y;pure (.nx,env)
def Xh (c m:Str) (n:Nat) (F:List DV->M DV) (fo:DEx) (fa:DAx):DEx:=fun env=>do
 let x <- fo env
 onI c x fun _ fs=>Qz (fs.lookup m).isNone
 let ds <- fa env
 Qz (decide (ds.length+1=n))
 F (x::ds)
def Us (c:Str) (n:Nat) (F:List DV->M DV) (fa:DAx):DEx:=fun env=>do
 let ds <- fa env
 Qz (decide (ds.length+1=n))
 let x <- Jx (.ins c [])
 let r <- F (x::ds)
 match r with
 | .non=>pure x
 | _=>failure
section
variable {X:Cx} {o e value:Expr} {c f m:Str} {pos pos' tpos apos:Pos} {fo fv:DEx}
theorem G3 {K:PySem.W.Frag} {ρ:List Addr} {B:Addr->Prop} {H:Hp} {hp hp':Hs} {x d:DV} {v:V} (W:WOk K ρ B hp H) (r:RepV K ρ B H x v) (h:QaC c f x hp=some (d,hp')):hp=hp'/\∃ a C dx xs u,v=.ref a/\ClsN K c C/\H a=some (.ins C dx xs)/\xs.lookup f=some u/\RepV K ρ B H d u:=by
 obtain ⟨n,fs,rfl,e1,e2⟩:=YF h
 obtain ⟨hl,rfl⟩:=XM e2
 obtain ⟨a,rfl,i,ro⟩:=RepV.refW W r e1
 obtain ⟨C,dx,xs,nc,e,rf⟩:=ro.ins
 rcases rf.look f with ⟨z,_⟩ | ⟨d',u,z,zu,ru⟩
 ·rw [hl] at z;cases z
 ·rw [hl] at z;cases z
  exact ⟨rfl,a,C,dx,xs,u,rfl,nc,e,zu,ru⟩
theorem v0 {K:PySem.W.Frag} {ρ:List Addr} {B:Addr->Prop} {H:Hp} {hp hp':Hs} {x d:DV} {v y:V} {z:Unit} (W:WOk K ρ B hp H) (r:RepV K ρ B H x v) (rd:RepV K ρ B H d y) (h:Qbs c f x d hp=some (z,hp')):∃ a C dx xs,v=.ref a/\ClsN K c C/\H a=some (.ins C dx xs)/\xs.length < 1000/\Gr K ρ B H ρ B (upd H a (.ins C dx (JF f y xs)))/\WOk K ρ B hp' (upd H a (.ins C dx (JF f y xs))):=by
 obtain ⟨n,fs,rfl,e1,e2⟩:=YF h
 obtain ⟨_,hp1,e3,e4⟩:=bind_some e2
 obtain ⟨hl,rfl⟩:=Qx e3
 cases e4
 obtain ⟨a,rfl,i,ro⟩:=RepV.refW W r e1
 obtain ⟨C,dx,xs,nc,e,rf⟩:=ro.ins
 obtain ⟨g,W'⟩:=ux W i nc e (rf.put f rd)
 exact ⟨a,C,dx,xs,rfl,nc,e,by rw [<- rf.len];exact of_decide_eq_true hl,g,W'⟩
theorem Jm (hk:Vr X.K c f) (ho:DE X o fo) (hb:attributeBase o f X.env (eval o X.env)=eval o X.env:=by rfl):DE X (.Attribute o f pos) (ZI c f fo) :=
 L2.PE.imp (Qa6 ho hb) fun σ H Q ⟨Z,env,ρ,B,hp,d,hp',S,e,k⟩=>by
  obtain ⟨x,hp1,e1,e2⟩:=bind_some e
  refine tD.run S e1 fun v ρ1 B1 H1 g1 S1 r1=>?_
  obtain ⟨rfl,a,C,dx,xs,u,rfl,nc,ea,hl,ru⟩:=G3 S1.wo r1 e2
  obtain ⟨C',nc',cl,na⟩:=hk.ex
  obtain rfl:=nc.uniq nc'
  exact ⟨a,C,dx,xs,u,rfl,ea,cl,na,hl,k u ρ1 B1 H1 g1 S1.wo ru⟩
theorem xp (hk:Vr X.K c f) (ho:DE X o fo) (hv:DE X value fv) (hs:swapsWith value (some (.Attribute o f pos')) pos.line X.env=pure false:=by rfl):DS X (.Assign [.Attribute o f pos'] value pos) (Xt c f fo fv) :=
 L2.PS.imp (Qbh ho hv hs) fun D σ H ⟨Z,env,ρ,B,hp,fl,env',hp',S,e,k⟩=>by
  obtain ⟨y,hp1,e1,e⟩:=bind_some e
  obtain ⟨x,hp2,e2,e⟩:=bind_some e
  obtain ⟨z,hp3,e3,e⟩:=bind_some e
  obtain ⟨q,rfl⟩:=Qg e
  cases q
  refine tD.run S e1 fun u ρ1 B1 H1 g1 S1 r1=>tD.run S1 e2 fun v ρ2 B2 H2 g2 S2 r2=>?_
  obtain ⟨a,C,dx,xs,rfl,nc,ea,hl,g,W⟩:=v0 S2.wo r2 (RepV.grow S1.wo.rb g2 _ _ r1) e3
  obtain ⟨C',nc',cl,na⟩:=hk.ex
  obtain rfl:=nc.uniq nc'
  exact ⟨a,C,dx,xs,rfl,ea,cl,na,hl,k σ ρ2 B2 _ ((g1.trans (g2.trans g)).gs S.wo.rb) (S2.grow g W)⟩
theorem vw {C:Addr} {n:Nat} {F:List DV->M DV} {fa:DAx} {σ:St} {H:Hp} {Q:VK} (nc:ClsN X.K c C) (h:tD X.K (Xh c m n F fo fa) σ H Q):ul C m (spD X.K n F) [] E0 (tD X.K fo) (tDA X.K fa) σ H Q:=by
 obtain ⟨Z,env,ρ,B,hp,d,hp',S,e,k⟩:=h
 obtain ⟨x,hp1,e1,e⟩:=bind_some e
 obtain ⟨_,hp2,e2,e⟩:=bind_some e
 obtain ⟨ds,hp3,e3,e⟩:=bind_some e
 obtain ⟨_,hp4,e4,ef⟩:=bind_some e
 obtain ⟨hl,rfl⟩:=Qx e4
 refine tD.run S e1 fun v ρ1 B1 H1 g1 S1 r1=>?_
 obtain ⟨i,fs,rfl,w1,w2⟩:=YF e2
 obtain ⟨hn,rfl⟩:=Qx w2
 obtain ⟨a,rfl,_,ro⟩:=RepV.refW S1.wo r1 w1
 obtain ⟨C',dx,xs,nc',ea,rf⟩:=ro.ins
 obtain rfl:=nc'.uniq nc
 have hx:xs.lookup m=none:=by
  rcases rf.look m with ⟨_,z⟩ | ⟨_,_,z,_,_⟩
  ·exact z
  ·rw [z] at hn;cases hn
 refine ⟨a,dx,xs,rfl,ea,hx,tDA.run S1 e3 fun vs ρ2 B2 H2 g2 S2 r2=>?_⟩
 refine ⟨?_,ρ2,B2,hp3,_,d,hp',S2.wo,?_,ef,k.after (g1.trans g2)⟩
 ·rw [List.append_nil,List.length_cons,<- r2.length];exact of_decide_eq_true hl
 ·rw [List.append_nil];exact RepL.cons (RepV.grow S1.wo.rb g2 _ _ r1) r2
theorem xg {k j n:Nat} {F:List DV->M DV} {es:List Expr} {fa:DAx} {pl:Sem Bool} (h:yi X.prog X.w X.K X.mg X.base c m j n F) (hr:Room k X.A) (hj:j<=k) (hx:Jw CX0 X E0) (ho:DE X o fo) (ha:DA X (e::es) fa)
  (hst:starEach (e::es) X.env=(false,eval e X.env)::starEach es X.env:=by rfl) (hpl:(backTo pos (starEach es X.env)).any (·.1)=false:=by rfl)
  (ht:eval (.Call (.Attribute o m apos) (e::es) [] pos) X.env=(do
   let ov <- eval o X.env
   standAt apos.atName
   let (f,first) <- holding [ov] (getMethod ov m pl)
   callWith pos f first (backTo pos (starEach (e::es) X.env)) (backToKw pos (keywordEach [] X.env))):=by rfl):DE X (.Call (.Attribute o m apos) (e::es) [] pos) (Xh c m n F fo fa):=by
 obtain ⟨C,g,fd,ps,nc,cl,hm,F',hb⟩:=h.ex
 exact L2.PE.imp (gM (pl:=pl) ho cl hm F' (hr.mono hj) hb .nil hx ha hst hpl ht) fun σ H Q q=>vw nc q
theorem yx {k j n:Nat} {F:List DV->M DV} {pl:Sem Bool} (h:yi X.prog X.w X.K X.mg X.base c m j n F) (hr:Room k X.A) (hj:j<=k) (hx:Jw CX0 X E0) (ho:DE X o fo)
  (ht:eval (.Call (.Attribute o m apos) [] [] pos) X.env=(do
   let ov <- eval o X.env
   standAt apos.atName
   let (f,first) <- holding [ov] (getMethod ov m pl)
   callWith pos f first (backTo pos (starEach [] X.env)) (backToKw pos (keywordEach [] X.env))):=by rfl):DE X (.Call (.Attribute o m apos) [] [] pos) (Xh c m n F fo Qn):=by
 obtain ⟨C,g,fd,ps,nc,cl,hm,F',hb⟩:=h.ex
 refine L2.PE.imp (vH (pl:=pl) ho cl hm F' (hr.mono hj) hb .nil hx ht) fun σ H Q q=>?_
 obtain ⟨Z,env,ρ,B,hp,d,hp',S,e,k⟩:=q
 obtain ⟨x,hp1,e1,e⟩:=bind_some e
 obtain ⟨_,hp2,e2,e⟩:=bind_some e
 obtain ⟨ds,hp3,e3,e⟩:=bind_some e
 obtain ⟨_,hp4,e4,ef⟩:=bind_some e
 obtain ⟨hl,rfl⟩:=Qx e4
 obtain ⟨rfl,rfl⟩:=Qg e3
 refine tD.run S e1 fun v ρ1 B1 H1 g1 S1 r1=>?_
 obtain ⟨i,fs,rfl,w1,w2⟩:=YF e2
 obtain ⟨hn,rfl⟩:=Qx w2
 obtain ⟨a,rfl,_,ro⟩:=RepV.refW S1.wo r1 w1
 obtain ⟨C',dx,xs,nc',ea,rf⟩:=ro.ins
 obtain rfl:=nc'.uniq nc
 have hx:xs.lookup m=none:=by
  rcases rf.look m with ⟨_,z⟩ | ⟨_,_,z,_,_⟩
  ·exact z
  ·rw [z] at hn;cases hn
 exact ⟨a,dx,xs,rfl,ea,hx,of_decide_eq_true hl,ρ1,B1,hp1,_,d,hp',S1.wo,RepL.cons r1 RepL.nil,ef,k.after g1⟩
theorem K7 {k:Nat} {C g:Addr} {fd:FuncData} {ps:List Str} {sp:Sp} {pins:List (Addr×Obj)} {σ:St} {H:Hp} {s:Shared} {Q:VK} {us:List Value} {vs:List V} (M:Mk X.K C g) (F:Xc X.prog X.w X.K X.mg X.base CX0 k g fd ps sp) (hr:Room (k+1) X.A) (hb:Binds X.K fd ps [])
    (hx:Jw CX0 X E0) (I:Inv X pins σ H s) (r:Vals vs us)
    (h:∀ x dx,H x=none->H dx=none->dx≠x->X.K.lookup x=none->sp (.ref x::vs) (upd (upd H dx (.own x)) x (.ins C dx [])) (fun v H2=>v=.non/\Q (.ref x) H2) E0) :
    wpAny (model X.prog X.w) X.A (call (.ref C) us) (EP X pins σ Q) X.xe s:=by
  have kf:X.K.lookup (s.heap.objs.size+1)=none:=by
    cases q:X.K.lookup (s.heap.objs.size+1) with
    | none=>rfl
    | some o=>exact absurd (Heap.lt_size (I.kIn _ _ q)) (Nat.not_lt.mpr (Nat.le_succ _))
  have hq:=h _ _ (I.hok.fresh (Nat.le_succ _)) (I.hok.fresh (Nat.le_refl _)) (Nat.ne_of_lt (Nat.lt_succ_self _)) kf
  have J:=Inv.made (C:=C) I
  have rr:Vals (V.ref (s.heap.objs.size+1)::vs) (Value.ref (s.heap.objs.size+1)::us):=.cons rfl r
  have ll:((Value.ref (s.heap.objs.size+1)::us)++[]).length=ps.length:=by
    rw [List.append_nil,<- rr.length];exact F.len _ _ _ _ hq
  have bb:=hb _ (Value.ref (s.heap.objs.size+1)::us) J.kIn ll
  rw [List.append_nil] at bb
  refine wpAny_call (vr (f:=g) I.kIn M.makes M.init (beq_iff_eq.mp M.fn) (codeAny_mono (F.run _ X.stack _ _ ⟨Value.ref (s.heap.objs.size+1)::us,[]⟩ _ _ _ E0 (hr.make C us []) (J.env0.make C us []) bb rr hq) fun q s' z=>?_))
  cases q with
  | error e=>exact hx pins σ _ _ e s' J z
  | ok fl =>
    cases fl with
    | ret u =>
      obtain ⟨v,H',I3,rv,ev,q3⟩:=J.after z
      subst ev
      exact ⟨rv,⟨V.ref (s.heap.objs.size+1),H',I3,rfl,q3⟩⟩
    | next=>exact z.elim
    | brk=>exact z.elim
    | cont=>exact z.elim
theorem vq {C:Addr} {n:Nat} {F:List DV->M DV} {vs:List V} {K:PySem.W.Frag} {ρ:List Addr} {B:Addr->Prop} {hp hp':Hs} {H:Hp} {ds:List DV} {d:DV} {Q:VK} (nc:ClsN K c C) (hl:ds.length+1=n) (W:WOk K ρ B hp H) (r:RepL K ρ B H ds vs)
  (e:(do let x <- Jx (.ins c []);let r <- F (x::ds);match r with | .non=>pure x | _=>failure:M DV) hp=some (d,hp')) (k:Fol K ρ B H d hp' Q) :
  ∀ x dx,H x=none->H dx=none->dx≠x->K.lookup x=none->spD K n F (.ref x::vs) (upd (upd H dx (.own x)) x (.ins C dx [])) (fun v H2=>v=.non/\Q (.ref x) H2) E0:=by
 intro x dx hx hdx ne kf
 have e1:F (.ref hp.length::ds) (hp++[.ins c []])=some (.non,hp')/\d=.ref hp.length:=by
  obtain ⟨y,hp1,a1,a2⟩:=bind_some e
  cases a1
  obtain ⟨y,hp2,a3,a4⟩:=bind_some a2
  cases y with
  | non=>obtain ⟨rfl,rfl⟩:=Qg a4;exact ⟨a3,rfl⟩
  | bl _=>cases a4
  | int _=>cases a4
  | str _=>cases a4
  | tup _=>cases a4
  | lst _=>cases a4
  | ref _=>cases a4
 obtain ⟨e1,rfl⟩:=e1
 have hx':upd H dx (.own x) x=none:=by rw [QH (Ne.symm ne)];exact hx
 have g0:Gr K ρ B H ρ B (upd H dx (.own x)):=Gr.laid hdx
 have g1:Gr K ρ B (upd H dx (.own x)) (ρ++[x]) (X2 B x) (upd (upd H dx (.own x)) x (.ins C dx [])):=Gr.wnew hx' kf
 have W1:WOk K (ρ++[x]) (X2 B x) (hp++[.ins c []]) (upd (upd H dx (.own x)) x (.ins C dx [])):=(W.laid hdx).wnew hx' kf (RepF.orep nc .nil QI)
 have rx:RepV K (ρ++[x]) (X2 B x) (upd (upd H dx (.own x)) x (.ins C dx [])) (.ref hp.length) (.ref x):=by
  unfold RepV
  exact ⟨x,rfl,by rw [<- W.len];simp⟩
 refine ⟨?_,ρ++[x],X2 B x,hp++[.ins c []],.ref hp.length::ds,.non,hp',W1,RepL.cons rx (RepL.grow W.rb (g0.trans g1) _ _ r),e1,fun v ρ' B' H' g' W' r'=>?_⟩
 ·rw [List.length_cons,<- r.length];exact hl
 ·exact ⟨r'.nonI,k _ ρ' B' H' ((g0.trans g1).trans g') W' (RepV.grow W1.rb g' _ _ rx)⟩
theorem uO {k j n:Nat} {F:List DV->M DV} {es:List Expr} {fa:DAx} {p:Pos} (h:uB X.prog X.w X.K X.mg X.base c j n F) (hr:Room k X.A) (hj:j+1<=k) (hx:Jw CX0 X E0) (ha:DA X (e::es) fa) (hg:Gl X c:=by rfl)
  (hdb:(c==("__debug__" : Str))=false:=by decide) (he:starEach (e::es) X.env=(false,eval e X.env)::starEach es X.env:=by rfl) (hpl:(backTo pos (starEach es X.env)).any (·.1)=false:=by rfl):DE X (.Call (.Name c p) (e::es) [] pos) (Us c n F fa):=by
 obtain ⟨C,g,fd,ps,nc,hm,M,F',hb⟩:=h.ex
 intro pins s σ H Q I q
 obtain ⟨Z,env,ρ,B,hp,d,hp',S,e,k⟩:=q
 obtain ⟨ds,hp1,e1,e2⟩:=bind_some e
 obtain ⟨_,hp2,e3,e4⟩:=bind_some e2
 obtain ⟨hl,rfl⟩:=Qx e3
 refine wpAny_Call_Name_kw (qE I hg hm ?_ hdb)
 refine PySem.W.callWith_K (h₀:=X.base) I.ok.mod.kin M.kp (thn (ha pos pins s σ H _ I (tDA.run S e1 fun vs ρ1 B1 H1 g1 S1 r1=>vq (Q:=Q) nc (of_decide_eq_true hl) S1.wo r1 e4 (k.after g1))) fun us s1 ⟨vs,H1,I1,r,q⟩=>⟨I1.kIn,?_⟩) he hpl
 exact K7 M F' (hr.mono hj) hb hx I1 r q
end
theorem G0 {P:Program} {w:World} {K:PySem.W.Frag} {mg:Str->Option Value} {base:Heap} {x qual:Str} {stm:Stmt} {g:Addr} {fd:FuncData} {N ps:List Str} {k:Nat} {body:DSx} (F:Fun K x qual stm g fd) (Sc:QC N ps (Qo stm))
  (h:∀ (cdv:Value) (A:Around) (outer:List Env) (s:Shared) (H:Hp) (E:XK),Room k (A.deeper (envOfC qual (Qo stm) s.heap.objs.size g cdv))->DSs (qv CX0 P w K mg base N qual (Qo stm) g cdv A outer s H E).nox (Q3 stm) body) :
  Xc P w K mg base CX0 (k+1) g fd ps (spD K ps.length (Zm N.length body)):=by
 refine F.ok Sc (fun vs H Q E h=>h.1) (fun cdv A outer s H vs Q E hr sp=>?_)
 obtain ⟨hn,ρ,B,hp,ds,d,hp',W,r,e,k⟩:=sp
 obtain ⟨⟨fl,env'⟩,hp1,e1,e2⟩:=bind_some e
 refine ⟨_,h cdv A outer s H E hr,⟨ρ,B,H⟩,_,ρ,B,hp,fl,env',hp1,qe W r,e1,fun σ' ρ' B' H' g' S'=>?_⟩
 cases fl with
 | nx=>obtain ⟨rfl,rfl⟩:=Qg e2;exact k .non ρ' B' H' S'.gr S'.wo Jt
 | rt x=>obtain ⟨rfl,rfl⟩:=Qg e2;exact fun v rv=>k v ρ' B' H' S'.gr S'.wo rv
 | bk=>cases e2
 | ct=>cases e2
theorem vv {P:Program} {w:World} {K:PySem.W.Frag} {mg:Str->Option Value} {base:Heap} {c m qual:Str} {stm:Stmt} {C g:Addr} {fd:FuncData} {N ps:List Str} {k:Nat} {body:DSx} (nc:ClsN K c C) (cl:Cls K C) (me:Vt K C m g) (F:Fun K m qual stm g fd) (Sc:QC N ps (Qo stm))
  (hb:∀ (kV doc pm:Value) (an:Option Addr) (cdv ct:Value) (us:List Value),us.length=ps.length->bindArgs (PySem.W.fnOf m qual (Zu stm) (Q3 stm) (Qo stm) .none kV doc pm an cdv ct) ⟨us,[]⟩=pure (ps.zip us))
  (h:∀ (cdv:Value) (A:Around) (outer:List Env) (s:Shared) (H:Hp) (E:XK),Room k (A.deeper (envOfC qual (Qo stm) s.heap.objs.size g cdv))->DSs (qv CX0 P w K mg base N qual (Qo stm) g cdv A outer s H E).nox (Q3 stm) body) :
  yi P w K mg base c m (k+1) ps.length (Zm N.length body):=⟨C,g,fd,ps,nc,cl,me,G0 F Sc h,F.binds hb⟩
theorem G9 {P:Program} {w:World} {K:PySem.W.Frag} {mg:Str->Option Value} {base:Heap} {c qual:Str} {stm:Stmt} {C g:Addr} {fd:FuncData} {N ps:List Str} {k:Nat} {body:DSx} (nc:ClsN K c C) (hm:mg c=some (.ref C)) (me:Mk K C g) (F:Fun K "__init__" qual stm g fd) (Sc:QC N ps (Qo stm))
  (hb:∀ (kV doc pm:Value) (an:Option Addr) (cdv ct:Value) (us:List Value),us.length=ps.length->bindArgs (PySem.W.fnOf "__init__" qual (Zu stm) (Q3 stm) (Qo stm) .none kV doc pm an cdv ct) ⟨us,[]⟩=pure (ps.zip us))
  (h:∀ (cdv:Value) (A:Around) (outer:List Env) (s:Shared) (H:Hp) (E:XK),Room k (A.deeper (envOfC qual (Qo stm) s.heap.objs.size g cdv))->DSs (qv CX0 P w K mg base N qual (Qo stm) g cdv A outer s H E).nox (Q3 stm) body) :
  uB P w K mg base c (k+1) ps.length (Zm N.length body):=⟨C,g,fd,ps,nc,hm,me,G0 F Sc h,F.binds hb⟩
section
variable {X:Cx}
end
end D
namespace D
open PySem PySem.Spec PyProof.Rows L2
end D
namespace D
open PySem PySem.Spec PyProof.Rows L2
mutual
def KRep (K:PySem.W.Frag):DV->V->Prop
 | .non,v=>v=.non
 | .bl b,v=>v=.bl b
 | .int i,v=>v=.int i
 | .str x,v=>v=.str x
 | .tup ds,v=>∃ (a:Addr) (o:Obj) (its:Array Value) (n:Nat) (xs:List V),v=.ref a/\K.lookup a=some o/\o.cls=.type "tuple" /\ o.data=.seq its n/\its.size<=sizeLine/\Vals xs its.toList/\KRepL K ds xs
 | _,_=>False
def KRepL (K:PySem.W.Frag):List DV->List V->Prop
 | [],xs=>xs=[]
 | d::ds,xs=>∃ x r,xs=x::r/\KRep K d x/\KRepL K ds r
end
mutual
theorem KRep.rep {K:PySem.W.Frag} {ρ:List Addr} {B:Addr->Prop} {H:Hp} (hb:∀ a,B a->K.lookup a=none):∀ (d:DV) (v:V),KRep K d v->RepV K ρ B H d v
  | .non,_,h=>by unfold KRep at h;unfold RepV;exact h
  | .bl _,_,h=>by unfold KRep at h;unfold RepV;exact h
  | .int _,_,h=>by unfold KRep at h;unfold RepV;exact h
  | .str _,_,h=>by unfold KRep at h;unfold RepV;exact h
  | .lst _,_,h=>by unfold KRep at h;exact h.elim
  | .ref _,_,h=>by unfold KRep at h;exact h.elim
  | .tup ds,_,h=>by
    unfold KRep at h;unfold RepV
    obtain ⟨a,o,its,n,xs,rfl,h1,h2,h3,h4,h5,h6⟩:=h
    exact ⟨a,xs,rfl,fun z=>(by rw [hb a z] at h1;cases h1),.inr ⟨o,its,n,h1,h2,h3,h4,h5⟩,KRepL.rep hb ds xs h6⟩
theorem KRepL.rep {K:PySem.W.Frag} {ρ:List Addr} {B:Addr->Prop} {H:Hp} (hb:∀ a,B a->K.lookup a=none):∀ (ds:List DV) (xs:List V),KRepL K ds xs->RepL K ρ B H ds xs
  | [],_,h=>by unfold KRepL at h;unfold RepL;exact h
  | d::ds,_,h=>by
    unfold KRepL at h;unfold RepL
    obtain ⟨x,r,e,h1,h2⟩:=h
    exact ⟨x,r,e,KRep.rep hb d x h1,KRepL.rep hb ds r h2⟩
end
theorem QaM {K:PySem.W.Frag} {ds:List DV} {a:Addr} {od:Option Addr} {its:Array Value} {n:Nat} {sl:Array (Option Value)} {xs:List V} (h:K.lookup a=some ⟨.type "tuple", od,.seq its n,sl⟩) (hs:its.size<=sizeLine) (hv:Vals xs its.toList) (hl:KRepL K ds xs):KRep K (.tup ds) (.ref a):=by
 unfold KRep;exact ⟨a,_,its,n,xs,rfl,h,rfl,rfl,hs,hv,hl⟩
theorem xI {K:PySem.W.Frag} {i:Str}:KRep K (.str i) (.str i):=by unfold KRep;rfl
theorem gp {K:PySem.W.Frag}:KRepL K [] []:=by unfold KRepL;rfl
theorem YA {K:PySem.W.Frag} {d:DV} {ds:List DV} {x:V} {r:List V} (h:KRep K d x) (h':KRepL K ds r):KRepL K (d::ds) (x::r):=by unfold KRepL;exact ⟨x,r,rfl,h,h'⟩
theorem uM {X:Cx} {x:Str} {ds:List DV} {a:Addr} {pos:Pos} (hg:Gl X x) (hm:X.mg x=some (.ref a)) (hk:KRep X.K (.tup ds) (.ref a)) (hd:(x==("__debug__" : Str))=false:=by decide):DE X (.Name x pos) (eC (.tup ds)) :=
 (gL (v:=.ref a) hg hm rfl hd).imp fun σ H Q ⟨Z,env,ρ,B,hp,d',hp',S,e,k⟩=>by
  obtain ⟨rfl,rfl⟩:=Qg e
  exact k _ ρ B H Gr.refl S.wo (KRep.rep S.wo.bk _ _ hk)
end D
namespace D
open PySem PySem.Spec PyProof.Rows L2
theorem xU {n i:Nat} {d:DV} (h:(Zl 0 n)[i]?=some d):i < n/\d=.int (i:Int):=by
 obtain ⟨h1,h2⟩:=V2 h
 exact ⟨h1,by rw [h2];simp⟩
theorem Gc {n:Nat} (h:n<=1000000):yc (n:Int)=true:=ud (by omega) (by omega)
theorem J1 {f:DXx} {g:DGx} {body:DSx} {env:En} {hp hp1:Hs} {ds:List DV} {r:(Fl×En)×Hs} (h:f env hp=some (nxD ds,hp1)) (h':J7 (nxD ds) (fun d env=>do let env' <- g d env;body env') 100000 0 env hp1=some r):Xu f g body env hp=some r:=by
 unfold Xu
 rw [Qe h];exact h'
theorem kj {m:Nat} (h:m<=1000000) (hp:Hs):K5 [.int (m:Int)] hp=some (Zl 0 m,hp):=by
 have e:K5 [.int (m:Int)]=pure (Zl 0 (m:Int).toNat):=by
  simp only [K5,Gc h,Qz,if_true,pure_bind]
 rw [e,Int.toNat_natCast];rfl
theorem xF {f:DAx} {env:En} {hp hp1:Hs} {m:Nat} (h:f env hp=some ([.int (m:Int)],hp1)) (hm:m<=1000000):KF f env hp=some (Zl 0 m,hp1):=by
 unfold KF
 rw [Qe h];exact kj hm hp1
theorem Xz {f:DEx} {env:En} {hp hp1:Hs} {ds:List DV} (h:f env hp=some (.lst ds,hp1)):xLs f env hp=some (nxD ds,hp1):=by
 unfold xLs
 rw [Qe h];rfl
end D
namespace D
open PySem PySem.Spec PyProof.Rows L2
section
variable {X:Cx}
def YB (x:DV):List DV->M DV
 | [y]=>onL x fun n ds=>onL y fun _ es=>do Qz (decide (ds.length+es.length<=lim));YN n (.lst (ds++es));pure .non
 | _=>failure
theorem vo:MtR X "list.extend" (tPm X.K YB):=by
 intro pins s σ H x vs v us Q I rx rv h
 obtain ⟨ρ,B,hp,dx,es,d,hp',W,r1,r2,e,k⟩:=h
 unfold YB at e
 split at e
 ·rename_i y
  obtain ⟨n,ds,rfl,h0,e⟩:=Xs e
  obtain ⟨m,zs,rfl,h0',e⟩:=Xs e
  obtain ⟨_,hp1,e1,e2⟩:=bind_some e
  obtain ⟨hl,rfl⟩:=Qx e1
  cases e2
  obtain ⟨a,rfl,i1,xs,h1,l1⟩:=RepV.refW W r1 h0
  obtain ⟨w,rfl,rw'⟩:=r2.oneI
  obtain ⟨b,rfl,i2,ys,h2,l2⟩:=RepV.refW W rw' h0'
  obtain ⟨g,W'⟩:=Xy W i1 h1 (RepL.append l1 l2)
  exact KQ pins s σ H _ _ v us Q I rx rv ⟨a,b,xs,ys,rfl,rfl,h1,h2,by rw [<- l1.length,<- l2.length];exact Nat.le_trans (of_decide_eq_true hl) zq,k _ ρ B _ g W' Jt⟩
 ·cases e
def xO (x:DV):List DV->M DV
 | []=>onL x fun n _=>do YN n (.lst []);pure .non
 | _=>failure
theorem gy:MtR X "list.clear" (tPm X.K xO):=by
 intro pins s σ H x vs v us Q I rx rv h
 obtain ⟨ρ,B,hp,dx,es,d,hp',W,r1,r2,e,k⟩:=h
 unfold xO at e
 split at e
 ·obtain ⟨n,ds,rfl,h0,e⟩:=Xs e
  cases e
  obtain ⟨a,rfl,i1,xs,h1,l1⟩:=RepV.refW W r1 h0
  have hv:vs=[]:=by unfold RepL at r2;exact r2
  obtain ⟨g,W'⟩:=Xy W i1 h1 RepL.nil
  exact vz pins s σ H _ _ v us Q I rx rv ⟨a,xs,rfl,hv,h1,k _ ρ B _ g W' Jt⟩
 ·cases e
end
end D
namespace L2
open PySem PySem.Spec PyProof.Rows
section
variable {prog:Program} {w:World} {A:Around} {E:Value->Shared->Prop} {s:Shared}
end
section
variable {X:Cx} {xn:Str} {p2:Pos} {pins:List (Addr×Obj)} {σ:L2.St}
end
end L2
namespace D
open PySem PySem.Spec PyProof.Rows L2
section
variable {X:Cx} {xn:Str} {p2:Pos} {f g:DEx}
end
end D
namespace D
open PySem PySem.Spec PyProof.Rows L2
def prD (ps:List (Int×Int)):List DV:=ps.map fun p=>.tup [.int p.1,.int p.2]
section
variable (s f q:Nat) (d a g p n w e x:DV)
end
end D
namespace D
open PySem PySem.Spec PyProof.Rows L2
section
variable {c f m:Str} {o e:DEx} {fa:DAx} {env:En} {hp hp1 hp2:Hs} {a n:Nat} {fs:List (Str×DV)} {d v:DV} {ds:List DV} {F:List DV->M DV}
theorem xQ {α:Type} {k:Nat->List (Str×DV)->M α} (h:hp[a]?=some (.ins c fs)):onI c (.ref a) k hp=k a fs hp:=by
 show (Q0 a >>= _) hp=_
 rw [Qe (QO h)]
 show (Qz (decide (c=c)) >>= fun _=>k a fs) hp=_
 rw [decide_eq_true rfl];rfl
theorem qD (he:e env hp=some (v,hp1)) (ho:o env hp1=some (.ref a,hp1)) (h:hp1[a]?=some (.ins c fs)) (hl:fs.length < 1000):Xt c f o e env hp=some ((.nx,env),hp1.set a (.ins c (zG f v fs))):=by
 unfold Xt
 rw [Qe he,Qe ho]
 unfold Qbs
 have:onI c (.ref a) (fun n fs=>do Qz (decide (fs.length < 1000));YN n (.ins c (zG f v fs))) hp1=some ((),hp1.set a (.ins c (zG f v fs))):=by
  rw [xQ h,decide_eq_true hl];rfl
 rw [Qe this];rfl
theorem QaA (ho:o env hp=some (.ref a,hp1)) (h:hp1[a]?=some (.ins c fs)) (hf:fs.lookup f=some d):ZI c f o env hp=some (d,hp1):=by
 unfold ZI
 rw [Qe ho]
 unfold QaC
 rw [xQ h,hf];rfl
theorem YE (ho:o env hp=some (.ref a,hp)) (h:hp[a]?=some (.ins c fs)) (hm:fs.lookup m=none) (ha:fa env hp=some (ds,hp1)) (hn:ds.length+1=n) (hF:F (.ref a::ds) hp1=some (d,hp2)):Xh c m n F o fa env hp=some (d,hp2):=by
 unfold Xh
 rw [Qe ho]
 have:onI c (.ref a) (fun _ fs=>Qz (fs.lookup m).isNone) hp=some ((),hp):=by rw [xQ h,hm];rfl
 rw [Qe this,Qe ha,decide_eq_true hn]
 show (Qz true >>= fun _=>F (.ref a::ds)) hp1=_
 exact hF
theorem kN:Qn env hp=some ([],hp):=rfl
theorem ZF (h:e env hp=some (v,hp1)):Qa e Qn env hp=some ([v],hp1):=by unfold Qa;rw [Qe h];rfl
theorem Za {e':DEx} {v':DV} (h:e env hp=some (v,hp1)) (h':e' env hp1=some (v',hp2)):Qa e (Qa e' Qn) env hp=some ([v,v'],hp2):=by
 have:=ZF h'
 unfold Qa at this ⊢;rw [Qe h,Qe this];rfl
theorem qi {e' e'':DEx} {v' v'':DV} {hp3:Hs} (h:e env hp=some (v,hp1)) (h':e' env hp1=some (v',hp2)) (h'':e'' env hp2=some (v'',hp3)):Qa e (Qa e' (Qa e'' Qn)) env hp=some ([v,v',v''],hp3):=by
 have:=Za h' h''
 unfold Qa at this ⊢;rw [Qe h,Qe this];rfl
theorem Qf {i:Nat} (h:env[i]?=some (.val d)):Qd i env hp=some (d,hp):=by unfold Qd;rw [h];rfl
theorem QR {k:Nat} (ha:fa env hp=some (ds,hp1)) (hk:ds.length=k) (hF:F ds hp1=some (d,hp2)):Qv k F fa env hp=some (d,hp2):=by
 unfold Qv;rw [Qe ha,decide_eq_true hk];exact hF
theorem Zk {c:DTx} {f g:DSx} (h:c env hp=some (true,hp1)):sIf c f g env hp=f env hp1:=by rw [vV h];rfl
theorem QD {c:DTx} {f g:DSx} (h:c env hp=some (false,hp1)):sIf c f g env hp=g env hp1:=by rw [vV h];rfl
theorem gi {i:Nat} (h:hp[a]?=some (.lst ds)) (hd:ds[i]?=some d):ixG (.ref a) (.int i) hp=some (d,hp):=by
 show (Q0 a >>= _) hp=_
 rw [Qe (QO h)]
 show (asI (.int (i:Int)) >>= fun i=>yU (atI ds i)) hp=_
 simp only [asI,pure_bind,j4 hd];rfl
end
theorem uu {xs:List DV} {i:Nat} {d:DV} (h:xs[i]?=some d) (hp:Hs):ixG (.tup xs) (.int i) hp=some (d,hp):=by
 show ixD (.tup xs) (.int i) hp=_
 simp only [ixD,j4 h];rfl
end D
namespace D
open PySem PySem.Spec PyProof.Rows L2
section
variable {e e' e'' e3 e4:DEx} {fa:DAx} {env:En} {hp hp1 hp2 hp3 hp4 hp5:Hs} {v v' v'' v3 v4 d:DV} {ds:List DV}
theorem ZW (ha:fa env hp=some (ds,hp1)) (hs:ds.length<=100000):ZJ fa env hp=some (.tup ds,hp1):=by
 unfold ZJ
 rw [Qe ha]
 have:zT ds=true:=decide_eq_true hs
 rw [this];rfl
theorem Gk (h:e env hp=some (v,hp1)) (h':e' env hp1=some (v',hp2)) (h'':e'' env hp2=some (v'',hp3)) (h3:e3 env hp3=some (v3,hp4)):Qa e (Qa e' (Qa e'' (Qa e3 Qn))) env hp=some ([v,v',v'',v3],hp4):=by
 have:=qi h' h'' h3
 unfold Qa at this ⊢;rw [Qe h,Qe this];rfl
theorem Gm (h:e env hp=some (v,hp1)) (h':e' env hp1=some (v',hp2)) (h'':e'' env hp2=some (v'',hp3)) (h3:e3 env hp3=some (v3,hp4)) (h4:e4 env hp4=some (v4,hp5)):Qa e (Qa e' (Qa e'' (Qa e3 (Qa e4 Qn)))) env hp=some ([v,v',v'',v3,v4],hp5):=by
 have:=Gk h' h'' h3 h4
 unfold Qa at this ⊢;rw [Qe h,Qe this];rfl
end
theorem Kv {t:DV->M Bool} {f:DV->M DV} {p:DV->Bool} {hp:Hs} (ds:List DV) (ht:∀ d∈ds,t d hp=some (p d,hp)) (hf:∀ d∈ds,f d hp=some (d,hp)) (hl:ds.length < 100000):ZA (nxD ds) t f 100000 0 hp=some (ds.filter p,hp):=by
  suffices h:∀ (m i n:Nat),m+i=ds.length->m < n->ZA (nxD ds) t f n i hp=some ((ds.drop i).filter p,hp) by simpa using h ds.length 0 100000 rfl hl
  intro m
  induction m with
  | zero =>
    intro i n e hn'
    obtain ⟨n,rfl⟩:∃ k,n=k+1:=⟨n - 1,by omega⟩
    have:i=ds.length:=by omega
    subst this
    have e1:=qb ds ds.length (Nat.le_refl _) hp
    rw [show ds[ds.length]?=none by simp] at e1
    rw [ZA,Qe e1,List.drop_length]
    rfl
  | succ m ih =>
    intro i n e hn'
    obtain ⟨n,rfl⟩:∃ k,n=k+1:=⟨n - 1,by omega⟩
    have hlt:i < ds.length:=by omega
    have e1:=qb ds i (by omega) hp
    rw [List.getElem?_eq_getElem hlt] at e1
    have hi:=ih (i+1) n (by omega) (by omega)
    rw [ZA,Qe e1]
    simp only
    rw [Qe (ht ds[i] (List.getElem_mem hlt)),List.drop_eq_getElem_cons hlt]
    cases q:p ds[i] with
    | false=>rw [List.filter_cons_of_neg (by simp [q])];simpa using hi
    | true =>
      rw [List.filter_cons_of_pos q]
      simp only [if_true]
      rw [Qe (hf ds[i] (List.getElem_mem hlt)),Qe hi]
      rfl
def Qch (l h:Int):DV->Bool
 | .tup [.int x,_]=>decide (l<=x)&&decide (x < h)
 | _=>false
theorem V1 (l h:Int) (zs:List (Int×Int)):(prD zs).filter (Qch l h)=prD (zs.filter fun q=>decide (l<=q.1)&&decide (q.1 < h)):=by
 unfold prD
 rw [List.filter_map];rfl
theorem KC {o:DEx} {fa:DAx} {env:En} {hp:Hs} {a b:Nat} {ds es:List DV} (ho:o env hp=some (.ref a,hp)) (h:hp[a]?=some (.lst ds)) (ha:fa env hp=some ([.ref b],hp)) (hb:hp[b]?=some (.lst es)) (hl:ds.length+es.length<=100000):Zc "list" YB o fa env hp=some (.non,hp.set a (.lst (ds++es))):=by
 unfold Zc
 rw [Qe ho]
 have e2:Yz "list" (.ref a) hp=some ((),hp):=by
  show (Q0 a >>= _) hp=_
  rw [Qe (QO h)];rfl
 rw [Qe e2,Qe ha]
 show (Q0 a >>= _) hp=_
 rw [Qe (QO h)]
 show (Q0 b >>= _) hp=_
 rw [Qe (QO hb)]
 show (Qz (decide (ds.length+es.length<=lim)) >>= fun _=>YN a (.lst (ds++es)) >>= fun _=>pure DV.non) hp=_
 rw [show decide (ds.length+es.length<=lim)=true from decide_eq_true hl];rfl
theorem VU (o:Option Int):vb (opt o) .non=pure (.bl o.isSome):=by cases o<;>rfl
theorem qH {x:Str} (h:PyData.strOk x=true):okP (.str x)=true:=by simp [okP,jI,toP,SeqAt.shaped,PyData.canLay0,PyData.depth,h]
theorem eqS {x y:Str} (hp:Hs) (h1:PyData.strOk x=true) (h2:PyData.strOk y=true) {b:Bool} (h:(x==y)=b):eqG (.str x) (.str y) hp=some (.bl b,hp):=by
 unfold eqG
 have e:Xl (.str x) (.str y) hp=some (x==y,hp):=by
  rw [xw (qB 39 hp x) (qB 39 hp y) (qH h1) (qH h2)];rfl
 rw [Qe e,h];rfl
section
variable {c c':DTx} {e e':DEx} {env:En} {hp hp1:Hs} {b:Bool}
theorem Ut (h:c env hp=some (true,hp1)):eOr c c' env hp=some (true,hp1):=by unfold eOr;rw [Qe h];rfl
theorem XU (h:c env hp=some (false,hp1)):eOr c c' env hp=c' env hp1:=by unfold eOr;rw [Qe h];rfl
theorem GN (h:c env hp=some (true,hp1)):Ys c c' env hp=c' env hp1:=by unfold Ys;rw [Qe h];rfl
theorem VI (h:c env hp=some (false,hp1)):Ys c c' env hp=some (false,hp1):=by unfold Ys;rw [Qe h];rfl
end
end D
namespace D
open PySem PySem.Spec PyProof.Rows L2
section
variable {f g:DEx} {fa:DAx} {env:En} {hp hp1 hp2:Hs} {d x y:DV} {ds:List DV} {F:List DV->M DV}
theorem X3 (h:fa env hp=some (ds,hp1)) (hF:F ds hp1=some (d,hp2)):Q1 F fa env hp=some (d,hp2):=by unfold Q1;rw [Qe h];exact hF
theorem vi (ds:List DV) (hp:Hs):Zx [.lst ds] hp=some (.int ds.length,hp):=rfl
theorem vj {n:Nat} (h:hp[n]?=some (.lst ds)):Zx [.ref n] hp=some (.int ds.length,hp):=by
 show (Q0 n >>= _) hp=_
 rw [Qe (QO h)];rfl
theorem eqI (i j:Int) (hp:Hs):eqG (.int i) (.int j) hp=some (.bl (i==j),hp):=by
 unfold eqG;rw [Qe (GU i j hp)];rfl
end
theorem Uf {f:DIx} {env:En} {hp hp1:Hs} {ds:List DV} (h:f env hp=some (ds,hp1)):xOf f env hp=some (nxD ds,hp1):=by unfold xOf;rw [Qe h];rfl
end D
namespace D
open PySem PySem.Spec PyProof.Rows L2
section
variable {c:DTx} {b:DSx} {n:Nat} {env env1:En} {hp hp1 hp2:Hs}
end
theorem XB {o e:DEx} {env:En} {hp:Hs} {a:Nat} {ds:List DV} {d:DV} (ho:o env hp=some (.ref a,hp)) (h:hp[a]?=some (.lst ds)) (he:e env hp=some (d,hp)) (hl:ds.length < 100000):Zc "list" Z1 o (Qa e Qn) env hp=some (.non,hp.set a (.lst (ds++[d]))):=by
 unfold Zc
 rw [Qe ho]
 have e2:Yz "list" (.ref a) hp=some ((),hp):=by
  show (Q0 a >>= _) hp=_
  rw [Qe (QO h)];rfl
 rw [Qe e2,Qe (ZF he)]
 show (Q0 a >>= _) hp=_
 rw [Qe (QO h)]
 show (Qz (decide (ds.length < lim)) >>= fun _=>YN a (.lst (ds++[d])) >>= fun _=>pure DV.non) hp=_
 rw [show decide (ds.length < lim)=true from decide_eq_true hl];rfl
end D
namespace D
open PySem PySem.Spec PyProof.Rows L2
theorem ko {n:Nat} {body:DSx} {ds:List DV} {env:En} {hp hp1:Hs} (h:body (ds.map .val++List.replicate (n - ds.length) .un) hp=some ((.nx,env),hp1)):Zm n body ds hp=some (.non,hp1):=by
 unfold Zm
 rw [Qe h];rfl
end D
namespace D
open PySem PySem.Spec PyProof.Rows L2
section
variable {X:Cx} {e:Expr} {f:DEx} {pos:Pos}
def yE (T:String) (f:DEx):DEx:=fun env=>do
  let x <- f env
  match x with
  | .ref n=>do
    match <- Q0 n with
    | .lst _=>pure (.bl (jg "list" T))
    | _=>failure
  | x=>match zX x with
    | some t=>pure (.bl (jg t T))
    | none=>failure
theorem Qao {T:String} (hT:T∈["int", "bool", "tuple", "str", "list"]):Zy X (.builtin "isinstance") (fun xs H Q=>(∃ ρ B d x t,xs=[x,.ty T]/\RepV X.K ρ B H d x/\zX d=some t/\Q (.bl (jg t T)) H)∨∃ a ys,xs=[.ref a,.ty T]/\SqL X.K H a ys/\Q (.bl (jg "list" T)) H):=by
 intro pins s σ H xs us Q I r h
 rcases h with h | ⟨a,ys,rfl,sq,q⟩
 ·exact kO hT pins s σ H xs us Q I r h
 ·obtain ⟨u,w',rfl,ru,rw'⟩:=Vo r
  cases rw'
  have fin:∀ tk,EP X pins σ Q (.bool (jg "list" T)) { s with toks:=tk }:=fun tk=>⟨.bl _,H,I.tok _,rfl,q⟩
  have kit:PySem.W.kitOne X.K (.type "list") (.type T)=some (jg "list" T):=by
   simp only [List.mem_cons,List.not_mem_nil,or_false] at hT
   rcases hT with rfl | rfl | rfl | rfl | rfl<;>first | rfl | decide | with_unfolding_all rfl | kernel_rfl
  cases ru
  obtain ⟨its,_,⟨o,k,e1,e2,_⟩,_⟩:=I.list sq
  exact PySem.W.kia_one PySem.W.kitx_list I.kIn ⟨o,e1,e2⟩ kit (fun z=>nomatch z) fin
theorem uN {T:String} {p p':Pos} (hm:X.mg "isinstance" = none) (hm':X.mg (Str.ofString T)=none) (hv:bootBuiltins (Str.ofString T)=some (.type T)) (hT:T∈["int", "bool", "tuple", "str", "list"]) (h:DE X e f) (hg:Gl X "isinstance" := by rfl) (hg':Gl X (Str.ofString T):=by rfl)
    (hn:Str.ofString T ≠ "__name__" := by decide) (hdb:(Str.ofString T==("__debug__" : Str))=false:=by decide) (hs:starEach [e,.Name (Str.ofString T) p'] X.env=(false,eval e X.env)::starEach [.Name (Str.ofString T) p'] X.env:=by rfl)
    (hs2:starEach [.Name (Str.ofString T) p'] X.env=(false,eval (.Name (Str.ofString T) p') X.env)::starEach [] X.env:=by rfl) (hpl:(backTo pos (starEach [.Name (Str.ofString T) p'] X.env)).any (·.1)=false:=by rfl):DE X (.Call (.Name "isinstance" p) [e,.Name (Str.ofString T) p'] [] pos) (yE T f) :=
  L2.PE.imp (zC (Qao hT) hg hm boot_isinstance (XN h (XN (U4 (v:=.ty T) hg' hm' hv rfl hn hdb) pa_nil hs2) hs) (by decide) (by decide) hs hpl) fun σ H Q ⟨Z,env,ρ,B,hp,d,hp',S,e,k⟩=>by
    obtain ⟨x,hp1,e1,e2⟩:=bind_some e
    refine tD.run S e1 fun v ρ1 B1 H1 g1 S1 r1=>?_
    cases x with
    | ref n =>
      obtain ⟨o,hp2,e3,e4⟩:=bind_some e2
      obtain ⟨e5,rfl⟩:=QX e3
      cases o with
      | lst zs =>
        obtain ⟨rfl,rfl⟩:=Qg e4
        obtain ⟨a,rfl,_,ys,h1,l1⟩:=RepV.refW S1.wo r1 e5
        exact .inr ⟨a,ys,rfl,SqL.of h1,k _ ρ1 B1 H1 g1 S1.wo Zh⟩
      | dic _=>cases e4
      | ins _ _=>cases e4
    | non=>obtain ⟨rfl,rfl⟩:=Qg e2;exact .inl ⟨ρ1,B1,_,v,_,rfl,r1,rfl,k _ ρ1 B1 H1 g1 S1.wo Zh⟩
    | bl _=>obtain ⟨rfl,rfl⟩:=Qg e2;exact .inl ⟨ρ1,B1,_,v,_,rfl,r1,rfl,k _ ρ1 B1 H1 g1 S1.wo Zh⟩
    | int _=>obtain ⟨rfl,rfl⟩:=Qg e2;exact .inl ⟨ρ1,B1,_,v,_,rfl,r1,rfl,k _ ρ1 B1 H1 g1 S1.wo Zh⟩
    | str _=>obtain ⟨rfl,rfl⟩:=Qg e2;exact .inl ⟨ρ1,B1,_,v,_,rfl,r1,rfl,k _ ρ1 B1 H1 g1 S1.wo Zh⟩
    | tup _=>obtain ⟨rfl,rfl⟩:=Qg e2;exact .inl ⟨ρ1,B1,_,v,_,rfl,r1,rfl,k _ ρ1 B1 H1 g1 S1.wo Zh⟩
    | lst _=>obtain ⟨rfl,rfl⟩:=Qg e2;exact .inl ⟨ρ1,B1,_,v,_,rfl,r1,rfl,k _ ρ1 B1 H1 g1 S1.wo Zh⟩
end
end D
namespace D
open PySem PySem.Spec PyProof.Rows L2
def Pl:Nat->DV->Prop
 | _,.non=>True
 | _,.bl _=>True
 | _,.int _=>True
 | _,.str x=>PyData.strOk x=true
 | n+1,.tup ds=>∀ d∈ds,Pl n d
 | n+1,.lst ds=>∀ d∈ds,Pl n d
 | _,_=>False
theorem YX:∀ (n:Nat) (d:DV) (k:Nat) (hp:Hs),Pl n d->drf (n+k+1) hp d=some d
  | n,.non,k,hp,_=>rfl
  | n,.bl _,k,hp,_=>rfl
  | n,.int _,k,hp,_=>rfl
  | n,.str _,k,hp,_=>rfl
  | 0,.tup ds,k,hp,h=>h.elim
  | 0,.lst ds,k,hp,h=>h.elim
  | 0,.ref _,k,hp,h=>h.elim
  | n+1,.ref _,k,hp,h=>h.elim
  | n+1,.tup ds,k,hp,h=>by
    show (ds.mapM (drf (n+1+k) hp)).map DV.tup=_
    rw [Ji fun d hd=>(by rw [Nat.add_right_comm];exact YX n d k hp (h d hd))];rfl
  | n+1,.lst ds,k,hp,h=>by
    show (ds.mapM (drf (n+1+k) hp)).map DV.lst=_
    rw [Ji fun d hd=>(by rw [Nat.add_right_comm];exact YX n d k hp (h d hd))];rfl
theorem xK:∀ (ds:List DV),(∀ d∈ds,(toP d).canLay0=true)->PyData.canLayAll0 (toPs ds)=true
 | [],_=>by unfold toPs PyData.canLayAll0;rfl
 | d::ds,h=>by unfold toPs PyData.canLayAll0;rw [h d (by simp),xK ds fun x hx=>h x (List.mem_cons_of_mem _ hx)];rfl
theorem zo:∀ (n:Nat) (d:DV),Pl n d->(toP d).canLay0=true
 | n,.non,_=>by unfold toP PyData.canLay0;rfl
 | n,.bl _,_=>by unfold toP PyData.canLay0;rfl
 | n,.int _,_=>by unfold toP PyData.canLay0;rfl
 | n,.str x,h=>by cases n<;>(unfold toP PyData.canLay0;exact h)
 | 0,.tup ds,h=>h.elim
 | 0,.lst ds,h=>h.elim
 | 0,.ref _,h=>h.elim
 | n+1,.ref _,h=>h.elim
 | n+1,.tup ds,h=>by unfold toP PyData.canLay0;exact xK ds fun d hd=>zo n d (h d hd)
 | n+1,.lst ds,h=>by unfold toP PyData.canLay0;exact xK ds fun d hd=>zo n d (h d hd)
theorem YV (n:Nat):∀ (ds:List DV),(∀ d∈ds,(toP d).depth<=n)->PyData.depthAll (toPs ds)<=n
 | [],_=>by unfold toPs PyData.depthAll;exact Nat.zero_le _
 | d::ds,h=>by unfold toPs PyData.depthAll;exact Nat.max_le.mpr ⟨h d (by simp),YV n ds fun x hx=>h x (List.mem_cons_of_mem _ hx)⟩
theorem qU:∀ (n:Nat) (d:DV),Pl n d->(toP d).depth<=n
 | n,.non,_=>by unfold toP PyData.depth;exact Nat.zero_le _
 | n,.bl _,_=>by unfold toP PyData.depth;exact Nat.zero_le _
 | n,.int _,_=>by unfold toP PyData.depth;exact Nat.zero_le _
 | n,.str x,h=>by unfold toP PyData.depth;exact Nat.zero_le _
 | 0,.tup ds,h=>h.elim
 | 0,.lst ds,h=>h.elim
 | 0,.ref _,h=>h.elim
 | n+1,.ref _,h=>h.elim
 | n+1,.tup ds,h=>by unfold toP PyData.depth;exact Nat.succ_le_succ (YV n ds fun d hd=>qU n d (h d hd))
 | n+1,.lst ds,h=>by unfold toP PyData.depth;exact Nat.succ_le_succ (YV n ds fun d hd=>qU n d (h d hd))
theorem qf {n:Nat} {d:DV} (h:Pl n d) (hn:n<=64):SeqAt.shaped (toP d)=true:=by
 unfold SeqAt.shaped;rw [zo n d h,decide_eq_true (Nat.le_trans (qU n d h) hn)];rfl
theorem Xf {n:Nat} {d:DV} (h:Pl n d) (hn:n < 40) (hp:Hs):drf 40 hp d=some d:=by
 have:=YX n d (39 - n) hp h
 rwa [show n+(39 - n)+1=40 by omega] at this
theorem Pl.mono:∀ {n m:Nat} {d:DV},Pl n d->n<=m->Pl m d
 | n,m,.non,h,hn=>by cases m<;>trivial
 | n,m,.bl _,h,hn=>by cases m<;>trivial
 | n,m,.int _,h,hn=>by cases m<;>trivial
 | n,m,.str _,h,hn=>by cases n<;>cases m<;>exact h
 | 0,m,.tup ds,h,hn=>h.elim
 | 0,m,.lst ds,h,hn=>h.elim
 | 0,m,.ref _,h,hn=>h.elim
 | n+1,m,.ref _,h,hn=>h.elim
 | n+1,0,.tup ds,h,hn=>absurd hn (Nat.not_succ_le_zero _)
 | n+1,0,.lst ds,h,hn=>absurd hn (Nat.not_succ_le_zero _)
 | n+1,m+1,.tup ds,h,hn=>fun d hd=>(h d hd).mono (Nat.le_of_succ_le_succ hn)
 | n+1,m+1,.lst ds,h,hn=>fun d hd=>(h d hd).mono (Nat.le_of_succ_le_succ hn)
theorem JZ (n:Nat) (i:Int):Pl n (.int i):=by cases n<;>trivial
theorem VY (n:Nat):Pl n .non:=by cases n<;>trivial
theorem zF {n:Nat} {x:Str} (h:PyData.strOk x=true):Pl n (.str x):=by cases n<;>exact h
theorem vM (n:Nat) (o:Option Int):Pl n (opt o):=by cases o;exact VY n;exact JZ n _
theorem VZ {n:Nat} {ds:List DV} (h:∀ d∈ds,Pl n d):Pl (n+1) (.tup ds):=h
theorem Qbe {n:Nat} {ds:List DV} (h:∀ d∈ds,Pl n d):Pl (n+1) (.lst ds):=h
theorem jy {x y:DV} {n m:Nat} (h:Pl n x) (h':Pl m y) (hn:n < 40) (hm:m < 40) (hp:Hs):Xl x y hp=some (PyData.eqv (toP x) (toP y),hp):=by
 unfold Xl xo
 show ((Option.map _ (drf 40 hp x)).bind _)=_
 rw [Xf h hn]
 show ((Option.map _ (drf 40 hp y)).bind _)=_
 rw [Xf h' hm]
 show (Qz (SeqAt.shaped (toP x)&&SeqAt.shaped (toP y)) >>= fun _=>pure (PyData.eqv (toP x) (toP y)):M Bool) hp=_
 rw [qf h (by omega),qf h' (by omega)]
 rfl
theorem Y1 {x:DV} {n:Nat} (h:Pl n x) (hn:n < 40) (hp:Hs):Xl x x hp=some (true,hp):=by
 rw [jy h h hn hn,SeqAt.eqv_refl _ (zo n x h)]
theorem GR {x:DV} {n:Nat} (h:Pl n x) (hn:n < 40) (hp:Hs):eqG x x hp=some (.bl true,hp):=by
 unfold eqG;rw [Qe (Y1 h hn hp)];rfl
theorem yR {x:DV} {n:Nat} (h:Pl n x) (hn:n < 40) (hp:Hs):neG x x hp=some (.bl false,hp):=by
 unfold neG;rw [Qe (Y1 h hn hp)];rfl
theorem KB {a:Nat} {ds:List DV} {n:Nat} {hp:Hs} (ha:hp[a]?=some (.lst ds)) (h:∀ d∈ds,Pl n d) (hn:n < 38):Xl (.ref a) (.lst ds) hp=some (true,hp):=by
 have hl:Pl (n+1) (.lst ds):=h
 have e:drf 40 hp (.ref a)=some (.lst ds):=by
  show (match hp[a]? with | some (.lst ds)=>(ds.mapM (drf 39 hp)).map DV.lst | _=>none)=_
  rw [ha]
  show (ds.mapM (drf 39 hp)).map DV.lst=_
  rw [Ji fun d hd=>(by have:=YX n d (38 - n) hp (h d hd);rwa [show n+(38 - n)+1=39 by omega] at this)];rfl
 unfold Xl xo
 show ((Option.map _ (drf 40 hp (.ref a))).bind _)=_
 rw [e]
 show ((Option.map _ (drf 40 hp (.lst ds))).bind _)=_
 rw [Xf hl (by omega)]
 show (Qz (SeqAt.shaped (toP (.lst ds))&&SeqAt.shaped (toP (.lst ds))) >>= fun _=>pure (PyData.eqv (toP (.lst ds)) (toP (.lst ds))):M Bool) hp=_
 rw [qf hl (by omega),SeqAt.eqv_refl _ (zo _ _ hl)]
 rfl
theorem GQ {a:Nat} {ds:List DV} {n:Nat} {hp:Hs} (ha:hp[a]?=some (.lst ds)) (h:∀ d∈ds,Pl n d) (hn:n < 38):eqG (.ref a) (.lst ds) hp=some (.bl true,hp):=by
 unfold eqG;rw [Qe (KB ha h hn)];rfl
section
variable {env:En} {hp hp1 hp2 hp3 hp4 hp5 hp6 hp7:Hs} {e e' e'' e3 e4 e5 e6:DEx} {v v' v'' v3 v4 v5 v6:DV}
theorem Ui (h:e env hp=some (v,hp1)) (h':e' env hp1=some (v',hp2)) (h'':e'' env hp2=some (v'',hp3)) (h3:e3 env hp3=some (v3,hp4)) (h4:e4 env hp4=some (v4,hp5)) (h5:e5 env hp5=some (v5,hp6)):Qa e (Qa e' (Qa e'' (Qa e3 (Qa e4 (Qa e5 Qn))))) env hp=some ([v,v',v'',v3,v4,v5],hp6):=by
 show (e env >>= fun x=>Qa e' (Qa e'' (Qa e3 (Qa e4 (Qa e5 Qn)))) env >>= fun xs=>pure (x::xs)) hp=_
 rw [Qe h,Qe (Gm h' h'' h3 h4 h5)];rfl
theorem Gn (h:e env hp=some (v,hp1)) (h':e' env hp1=some (v',hp2)) (h'':e'' env hp2=some (v'',hp3)) (h3:e3 env hp3=some (v3,hp4)) (h4:e4 env hp4=some (v4,hp5)) (h5:e5 env hp5=some (v5,hp6)) (h6:e6 env hp6=some (v6,hp7)):Qa e (Qa e' (Qa e'' (Qa e3 (Qa e4 (Qa e5 (Qa e6 Qn)))))) env hp=some ([v,v',v'',v3,v4,v5,v6],hp7):=by
 show (e env >>= fun x=>Qa e' (Qa e'' (Qa e3 (Qa e4 (Qa e5 (Qa e6 Qn))))) env >>= fun xs=>pure (x::xs)) hp=_
 rw [Qe h,Qe (Ui h' h'' h3 h4 h5 h6)];rfl
theorem QaE {x:DV} {ds:List DV} (h1:Zn x=true) (h2:ds.all Zn=true) (hp:Hs):inG x (.tup ds) hp=some (.bl (inB x ds),hp):=by
 show ((Qz (Zn x&&ds.all Zn) >>= fun _=>pure (inB x ds)) >>= fun b=>pure (DV.bl b):M DV) hp=_
 rw [h1,h2];rfl
theorem GB {o:DEx} {a:Nat} {ds:List DV} (ho:o env hp=some (.ref a,hp)) (h:hp[a]?=some (.lst ds)):Zc "list" xO o Qn env hp=some (.non,hp.set a (.lst [])):=by
 unfold Zc
 rw [Qe ho]
 have e2:Yz "list" (.ref a) hp=some ((),hp):=by
  show (Q0 a >>= _) hp=_
  rw [Qe (QO h)];rfl
 rw [Qe e2,Qe (rfl:Qn env hp=some ([],hp))]
 show (Q0 a >>= _) hp=_
 rw [Qe (QO h)];rfl
theorem ge {f:DEx} {a:Nat} {ds:List DV} (h:f env hp=some (.ref a,hp1)) (h':hp1[a]?=some (.lst ds)):yE "list" f env hp=some (.bl true,hp1):=by
 unfold yE;rw [Qe h]
 show (Q0 a >>= _) hp1=_
 rw [Qe (QO h')];rfl
end
end D
namespace D
open PySem PySem.Spec PyProof.Rows L2
theorem QcF (ds:List DV) (a b:Nat) (h:a<=b):D.qu ds (some (a:Int)) (some (b:Int))=(ds.drop a).take (b - a):=by
 unfold D.qu
 rw [HT.sIx_nat,HT.sIx_nat]
 rcases Nat.le_total a ds.length with q | q
 ·rw [Nat.min_eq_left q]
  rcases Nat.le_total b ds.length with q2 | q2
  ·rw [Nat.min_eq_left q2]
  ·rw [Nat.min_eq_right q2,List.take_of_length_le (by simp),List.take_of_length_le (by simp;omega)]
 ·rw [Nat.min_eq_right q,List.drop_of_length_le q,List.drop_of_length_le (Nat.le_refl _)]
  simp
section
variable {env:En} {hp hp1 hp2 hp3:Hs} {f g h:DEx} {ds:List DV} {d:DV}
theorem ub {a b:Nat} (hf:f env hp=some (.lst ds,hp)) (hg:g env hp=some (.int (a:Int),hp)) (hh:h env hp=some (.int (b:Int),hp)) (hab:a<=b):eSl f (J5 g) (J5 h) env hp=some (.lst ((ds.drop a).take (b - a)),hp):=by
 unfold eSl J5
 rw [Qe hf]
 have e1:(do let i <- asI (<- g env);pure (some i):M (Option Int)) hp=some (some (a:Int),hp):=by rw [Qe hg];rfl
 have e2:(do let i <- asI (<- h env);pure (some i):M (Option Int)) hp=some (some (b:Int),hp):=by rw [Qe hh];rfl
 rw [Qe e1,Qe e2,<- QcF ds a b hab];rfl
theorem Xm {i:Nat} (hf:f env hp=some (.lst ds,hp)) (hg:g env hp=some (.int (i:Int),hp)) (hd:ds[i]?=some d):Qh ixG f g env hp=some (d,hp):=by
 refine Qp hf hg ?_
 show ixD (.lst ds) (.int (i:Int)) hp=_
 rw [JS (d:=d)]
 ·rfl
 ·rw [Gq (by omega) (by have:=(List.getElem?_eq_some_iff.mp hd).1;omega)];exact hd
theorem QV {i:Nat} (hf:f env hp=some (.tup ds,hp)) (hg:g env hp=some (.int (i:Int),hp)) (hd:ds[i]?=some d):Qh ixG f g env hp=some (d,hp):=Qp hf hg (uu hd hp)
theorem VN {i n:Nat} (hf:f env hp=some (.ref n,hp)) (hn:hp[n]?=some (.lst ds)) (hg:g env hp=some (.int (i:Int),hp)) (hd:ds[i]?=some d):Qh ixG f g env hp=some (d,hp):=Qp hf hg (gi hn hd)
theorem Y6 (hf:f env hp=some (.lst ds,hp)):Q1 Zx (Qa f Qn) env hp=some (.int ds.length,hp):=X3 (ZF hf) (vi ds hp)
theorem UV {n:Nat} (hf:f env hp=some (.ref n,hp)) (hn:hp[n]?=some (.lst ds)):Q1 Zx (Qa f Qn) env hp=some (.int ds.length,hp):=X3 (ZF hf) (vj hn)
theorem XA {i j:Int} (hf:f env hp=some (.int i,hp)) (hg:g env hp=some (.int j,hp)):Qh Zv f g env hp=some (.int (i+j),hp):=Qp hf hg rfl
theorem yd {i j:Int} (hf:f env hp=some (.int i,hp)) (hg:g env hp=some (.int j,hp)):Qh qg f g env hp=some (.int (i - j),hp):=Qp hf hg rfl
theorem G7 {i j:Int} (hf:f env hp=some (.int i,hp)) (hg:g env hp=some (.int j,hp)):Qh gtD f g env hp=some (.bl (decide (j < i)),hp):=Qp hf hg rfl
theorem xN {i j:Int} (hf:f env hp=some (.int i,hp)) (hg:g env hp=some (.int j,hp)):Qh ltD f g env hp=some (.bl (decide (i < j)),hp):=Qp hf hg rfl
theorem Y0 {i j:Int} (hf:f env hp=some (.int i,hp)) (hg:g env hp=some (.int j,hp)):Qh eqG f g env hp=some (.bl (i==j),hp):=Qp hf hg (eqI i j hp)
theorem Gp {i:Nat} (hf:f env hp=some (d,hp1)) (ha:env[i]?=some (.acc ds)) (hl:ds.length < 100000):y0 i f env hp=some ((.nx,env.set i (.acc (ds++[d]))),hp1):=by
 unfold y0
 rw [Qe hf]
 simp only [ha]
 rw [if_pos (show ds.length < lim from hl)];rfl
end
end D
namespace D
open PySem PySem.Spec PyProof.Rows L2
section
variable {prog:Program} {w:World} {A:Around} {E:Value->Shared->Prop} {s:Shared}
theorem gc:typeLookup (.type "list") "keys" = pure none:=am_miss_of_fast (by decide +kernel)
theorem gb {a:Addr} {o:Obj} {xs:Array Value} {k:Nat} {Q:Option Value->Shared->Prop} (hx:s.heap.get? a=some o) (hc:o.cls=.type "list") (hdat:o.data=.seq xs k) (hd:o.dict=none) (hA:A.handled=none)
  (h:∀ h' tk e,Heap.NewExcOf s.heap h' e "AttributeError" -> Q none { s with heap:=h',toks:=tk }):wpAny (model prog w) A (getAttr? (.ref a) "keys") Q E s:=by
 obtain ⟨c,dct,dat,sl⟩:=o
 simp only at hc hdat hd
 subst hc hdat hd
 obtain ⟨hp,g,d,tk,os⟩:=s
 have hT:∀ tk',(⟨hp,g,d,tk',os⟩:Shared).TypeIs (.ref a) "list" := fun _=>⟨_,hx,rfl⟩
 have f1:=sub_AttributeError
 have f3:=PySem.F.slot_list_getattribute.lookup
 have f4:=PySem.F.slot_list_getattribute.bind (.ref a)
 have f5:=am_list_getattr_none
 unfold getAttr? getAttrBy? getAttrBy
 repeat (any_goals (first | assumption | exact hT _ | ((with_reducible show wpAny _ _ (call (Value.builtin "list.__getattribute__") _ _) _ _ _);refine call_meets PySem.F.slot_list_getattribute (hT _) am_entry_list_getattribute (PySem.F.args_list_getattribute_2 _ _) (meets_getattribute_miss_list a xs k sl "keys" _ gc (by decide +kernel)) ⟨hx,hA,fun h' tk' e hx'=>?_⟩) | wp_step))
 obtain ⟨t',u',he⟩:=hx'.there
 show wpAny _ _ (getattributeRaised _ _ _ _ _ _ _) _ _ _
 unfold getattributeRaised
 repeat (any_goals (first | assumption | wp_step))
 exact h _ _ _ hx'.of
end
section
variable {prog:Program} {w:World} {K:Type} [DecidableEq K] {knd:KeyKind prog w K} {A:Around} {R:Result->Shared->Prop}
theorem jv:entryFor table "dict.update.loop" = some Builtin.«dict.update.loop»:=entryFor_of_tree (by kernel_rfl)
theorem XG:plainId "dict.update.loop" = true:=by decide +kernel
def PairAt (knd:KeyKind prog w K) (h:Heap) (u:Value) (kv:K×Value):Prop:=∃ t o n key,u=.ref t/\h.get? t=some o/\o.cls=.type "tuple" /\ o.data=.seq #[key,kv.2] n/\knd.is kv.1 key=true
theorem GK {d it l:Addr} {items:Array Value} {more:List (K×Value)} (hh:A.handled=none) (hdi:d≠it) (hld:l≠d) (hli:l≠it) (hsz:more.length<=sizeLine) (hlen:items.size=more.length) :
    ∀ (k i:Nat) (s:Shared),more.length - i=k->i<=more.length->s.heap.IsListIter it l i->s.heap.IsList l items ->
    (∀ (j:Nat) (u:Value) (kv:K×Value),items[j]?=some u->more[j]?=some kv->PairAt knd s.heap u kv/\u≠.ref d/\u≠.ref it)->s.heap.DictOf knd d (merged [] (more.take i)) ->
    (∀ h' t',h'.DictOf knd d (merged [] more)->(∀ b o,b≠d->b≠it->s.heap.get? b=some o->h'.get? b=some o)->R (.ok (.ret .none)) { s with heap:=h',toks:=t' }) ->
    codeAny (model prog w) A (.builtin "dict.update.loop" ⟨[.ref d,.ref it,rawInt i,.none],[]⟩) R s:=by
  intro k
  induction k with
  | zero =>
    intro i s hk hi hit hl hp hd hR
    have hin:i=more.length:=by omega
    refine codeAny_builtin jv ?_
    rw [Around.under_plainId XG _]
    show wpAny _ A.in1 (pyNext (.ref it) >>= _) _ _ s
    refine wpAny_bind (wpAny_pyNext_list_end (by exact hh) hit hl (by rw [Array.getElem?_eq_none];omega) fun h' hx=>?_)
    refine wpAny_bind (wpAny_pure (wpAny_pure (hR h' s.toks ?_ fun b o hb hb' e=>hx b o hb' e)))
    rw [hin,List.take_length] at hd
    obtain ⟨o,es,ep,ho,r⟩:=hd
    exact ⟨o,es,ep,hx d o hdi ho,r⟩
  | succ k ih =>
    intro i s hk hi hit hl hp hd hR
    have hlt:i < more.length:=by omega
    obtain ⟨u,hu⟩:∃ u,items[i]?=some u:=⟨items[i]'(by omega),Array.getElem?_eq_getElem _⟩
    have hkv:more[i]?=some more[i]:=List.getElem?_eq_getElem _
    obtain ⟨⟨t,o,n,key,rfl,ht,htc,htd,hkey⟩,n1,n2⟩:=hp i u _ hu hkv
    refine codeAny_builtin jv ?_
    rw [Around.under_plainId XG _]
    show wpAny _ A.in1 (pyNext (.ref it) >>= _) _ _ s
    refine wpAny_bind (wpAny_pyNext_list_item hit hl hu fun h1 hit1 hs1=>?_)
    have td:t≠d:=fun e=>n1 (by rw [e])
    have ti:t≠it:=fun e=>n2 (by rw [e])
    have ht1:h1.get? t=some o:=(hs1.2 t ti).trans ht
    refine wpAny_bind (wpAny_holding ?_)
    refine wpAny_bind (wpAny_tryCatch ?_)
    unfold Builtin.Dict.pairItems
    refine wpAny_bind (wpAny_typeOf ⟨o,ht1,htc⟩ ?_)
    rw [if_pos (by decide)]
    refine wpAny_bind (wpAny_seqItems ht1 htd (wpAny_pure ?_))
    show wpAny _ _ (holding [key,more[i].2] (dictSet d key more[i].2)) _ _ _
    refine wpAny_holding ?_
    unfold dictSet
    try with_reducible refine wpAny_holding ?_
    obtain ⟨od,es,ep,hod,rd⟩:=hd
    have hd1:h1.DictOf knd d (merged [] (more.take i)):=⟨od,es,ep,(hs1.2 d hdi).trans hod,rd⟩
    have ml:(merged [] (more.take i)).length<=sizeLine:=by
      have:=merged_length_le (K:=K) [] (more.take i)
      rw [List.length_take] at this
      simp at this;omega
    refine wpAny_bind (knd.pyHash hkey (wpAny_dictSetHashed_pairs (hsz:=ml) hkey hd1 fun h2 hd2 hs2=>?_))
    rw [<- merged_take_succ [] more i _ hkv] at hd2
    have keep:∀ b o,b≠d->b≠it->s.heap.get? b=some o->h2.get? b=some o:=fun b o hb hb' e=>(hs2.2 b hb).trans ((hs1.2 b hb').trans e)
    obtain ⟨oi,hoi,ri⟩:=hit1
    obtain ⟨ol,hol,rl⟩:=hl
    refine wpAny_pure ⟨plainId_quiet XG _,?_⟩
    refine ih (i+1) _ (by omega) (by omega) ⟨oi,(hs2.2 it hdi.symm).trans hoi,ri⟩ ⟨ol,keep l ol hld hli hol,rl⟩ (fun j u kv h1' h2'=>?_) hd2 fun h' t' hd' hk'=>?_
    . obtain ⟨⟨t',o',n',key',rfl,a,b⟩,c1,c2⟩:=hp j u kv h1' h2'
      exact ⟨⟨t',o',n',key',rfl,keep t' o' (fun e=>c1 (by rw [e])) (fun e=>c2 (by rw [e])) a,b⟩,c1,c2⟩
    . exact hR h' t' hd' fun b o hb hb' e=>hk' b o hb hb' (keep b o hb hb' e)
end
section
variable {prog:Program} {w:World} {K:Type} [DecidableEq K] {knd:KeyKind prog w K} {A:Around} {E:Value->Shared->Prop} {s:Shared}
theorem qR {l:Addr} {o:Obj} {items:Array Value} {n:Nat} {more:List (K×Value)} {Q:Value->Shared->Prop} (hh:A.handled=none) (ho:s.heap.get? l=some o) (hc:o.cls=.type "list") (hdat:o.data=.seq items n) (hdn:o.dict=none)
  (hsz:more.length<=sizeLine) (hlen:items.size=more.length) (hp:∀ (j:Nat) (u:Value) (kv:K×Value),items[j]?=some u->more[j]?=some kv->PairAt knd s.heap u kv)
  (h:∀ h' t',h'.DictOf knd s.heap.objs.size (merged [] more)->(∀ b o,s.heap.get? b=some o->h'.get? b=some o)->Q (.ref s.heap.objs.size) { s with heap:=h',toks:=t' }) :
  wpAny (model prog w) A (call (.type "dict") [.ref l]) Q E s:=by
 refine callType_codes (Q₁:=fun obj s₁=>obj=.ref s.heap.objs.size/\s₁={ s with heap:=s.heap.push { cls:=.type "dict", data:=.dict #[] } }) PySem.F.kt_called_dict (PySem.F.kt_typeCall_dict_1 _) PySem.F.entry_dict_init (kt_code_dict_new _ ⟨rfl,rfl⟩) ?_
 rintro obj s₁ ⟨rfl,rfl⟩
 have hnew:(s.heap.push { cls:=.type "dict", data:=.dict #[] }).DictOf knd s.heap.objs.size []:=Heap.DictOf.new s.heap
 have ho':(s.heap.push { cls:=.type "dict", data:=.dict #[] }).get? l=some o:=Heap.get?_push_of_some _ ho
 have lts:∀ b q,s.heap.get? b=some q->b≠s.heap.objs.size:=fun b q e z=>absurd (Heap.lt_size e) (by rw [z];exact Nat.lt_irrefl _)
 refine ⟨hnew.typeIs,PySem.F.args_dict_init_2 _ _,?_⟩
 unfold Builtin.«dict.__init__»
 refine wpAny_bind ?_
 unfold Builtin.Dict.selfAndRest
 refine wpAny_bind (wpAny_notOrdered_dict hnew.typeIs ?_)
 show wpAny _ _ (pure (s.heap.objs.size,[Value.ref l])) _ _ _
 refine wpAny_pure ?_
 show wpAny _ _ (Builtin.Dict.updateFrom "dict.__init__" s.heap.objs.size (.ref l) [] .none) _ _ _
 unfold Builtin.Dict.updateFrom
 refine wpAny_bind (wpAny_typeOf ⟨o,ho',hc⟩ ?_)
 rw [if_pos (by decide)]
 refine wpAny_bind (gb ho' hc hdat hdn (by exact hh) fun h1 t1 e1 hx=>?_)
 rw [if_pos (show (none:Option Value).isNone=true from rfl)]
 refine wpAny_bind (wpAny_rule ?_)
 have hl1:h1.IsList l items:=⟨o,hx.keeps l o ho',hc,n,hdat⟩
 refine wpAny_bind (wpAny_pyIter_list hl1 ?_)
 have dn:s.heap.objs.size≠h1.objs.size:=fun z=>by
  obtain ⟨od,_,_,hod,_⟩:=hnew
  exact absurd (Heap.lt_size (hx.keeps _ _ hod)) (by rw [z];exact Nat.lt_irrefl _)
 have kp:∀ b q,s.heap.get? b=some q->(h1.push { cls:=.type "list_iterator", data:=.fields #[.ref l,.int 0 0] }).get? b=some q:=fun b q e=>Heap.get?_push_of_some _ (hx.keeps b q (Heap.get?_push_of_some _ e))
 have li:∀ b q,s.heap.get? b=some q->b≠h1.objs.size:=fun b q e z=>absurd (Heap.lt_size (hx.keeps b q (Heap.get?_push_of_some _ e))) (by rw [z];exact Nat.lt_irrefl _)
 refine wpAny_pure ⟨plainId_quiet XG _,?_⟩
 refine GK (knd:=knd) (l:=l) (items:=items) (more:=more) (by exact hh) dn (lts l o ho) (li l o ho) hsz hlen more.length 0 _ rfl (Nat.zero_le _) ⟨_,Heap.get?_push_size _ rfl,rfl,rfl⟩ (hl1.push _) (fun j u kv h1' h2'=>?_) ?_ fun h' t' hd' hk'=>⟨rfl,h h' t' hd' fun b q e=>hk' b q (lts b q e) (li b q e) (kp b q e)⟩
 ·obtain ⟨t,o',n',key,rfl,a,b⟩:=hp j u kv h1' h2'
  exact ⟨⟨t,o',n',key,rfl,kp t o' a,b⟩,fun e=>lts t o' a (by injection e),fun e=>li t o' a (by injection e)⟩
 ·obtain ⟨od,es,ep,hod,r⟩:=hnew
  exact ⟨od,es,ep,Heap.get?_push_of_some _ (hx.keeps _ _ hod),r⟩
end
section
variable {X:Cx}
def prM:List DV->Option (List (Key×DV))
  | []=>some []
  | .tup [k,v]::r=>match jc k,prM r with
    | some k,some ps=>some ((k,v)::ps)
    | _,_=>none
  | _=>none
def lsG:DV->M (List DV)
  | .lst ds=>pure ds
  | .ref n=>do
    match <- Q0 n with
    | .lst ds=>pure ds
    | _=>failure
  | _=>failure
theorem gu {d:DV} {ds:List DV} {hp hp':Hs} {K:PySem.W.Frag} {ρ:List Addr} {B:Addr->Prop} {H:Hp} {v:V} (W:WOk K ρ B hp H) (r:RepV K ρ B H d v) (h:lsG d hp=some (ds,hp')):hp=hp'/\∃ p xs,v=.ref p/\SqL K H p xs/\RepL K ρ B H ds xs:=by
  cases d with
  | lst xs =>
    obtain ⟨rfl,rfl⟩:=Qg h
    obtain ⟨a,ys,rfl,_,sq,l⟩:=r.lstI
    exact ⟨rfl,a,ys,rfl,sq,l⟩
  | ref n =>
    obtain ⟨o,hp1,e1,e2⟩:=bind_some (show (Q0 n >>= fun o=>(match o with | .lst ds=>pure ds | _=>failure:M (List DV))) hp=some (ds,hp') from h)
    obtain ⟨e3,rfl⟩:=QX e1
    cases o with
    | lst zs =>
      obtain ⟨rfl,rfl⟩:=Qg e2
      obtain ⟨a,rfl,_,ys,h1,l1⟩:=RepV.refW W r e3
      exact ⟨rfl,a,ys,rfl,SqL.of h1,l1⟩
    | dic _=>cases e2
    | ins _ _=>cases e2
  | non=>cases h
  | bl _=>cases h
  | int _=>cases h
  | str _=>cases h
  | tup _=>cases h
def opM (o:Option α):M α:=match o with
 | some a=>pure a
 | none=>failure
theorem vF {o:Option α} {a:α} {hp hp':Hs} (h:opM o hp=some (a,hp')):o=some a/\hp=hp':=by
 cases o with
 | none=>cases h
 | some z=>obtain ⟨rfl,rfl⟩:=Qg h;exact ⟨rfl,rfl⟩
def uR:List DV->M DV:=vE fun d=>do
 let ds <- lsG d
 let ps <- opM (prM ds)
 Jx (.dic (Ye [] ps))
theorem gW {pins:List (Addr×Obj)} {σ:St} {H:Hp} {s:Shared} {ρ:List Addr} {B:Addr->Prop} (I:Inv X pins σ H s):∀ {ds:List DV} {kvs:List (Key×DV)} {ys:List V} {its:List Value},prM ds=some kvs->RepL X.K ρ B H ds ys->Vals ys its ->
    ∃ (xk:List (Key×V)) (more:List (Key×Value)),RepK X.K ρ B H kvs xk/\KV xk more/\its.length=more.length/\∀ (j:Nat) (u:Value) (kv:Key×Value),its[j]?=some u->more[j]?=some kv->PairAt (QT X.prog X.w) s.heap u kv:=by
  intro ds
  induction ds with
  | nil =>
    intro kvs ys its h r v
    cases h
    unfold RepL at r;subst r
    cases v
    exact ⟨[],[],.nil,.nil,rfl,fun j u kv h=>by simp at h⟩
  | cons d ds ih =>
    intro kvs ys its h r v
    unfold RepL at r
    obtain ⟨y,ys',rfl,r1,r2⟩:=r
    cases v with
    | @cons _ u _ us v1 v2 =>
    obtain ⟨k,dv,rfl,ky,ps,hk,hps,rfl⟩:∃ k dv,d=.tup [k,dv]/\∃ ky ps,jc k=some ky/\prM ds=some ps/\kvs=(ky,dv)::ps:=by
      unfold prM at h
      split at h
      . rename_i e;cases e
      . rename_i k v r e
        injection e with e1 e2
        subst e1 e2
        split at h
        . rename_i a b c d;cases h;exact ⟨_,_,rfl,_,_,c,d,rfl⟩
        . cases h
      . cases h
    obtain ⟨xk,more,a1,a2,a3,a4⟩:=ih hps r2 v2
    obtain ⟨a,xs,rfl,_,sq,l⟩:=r1.tupI
    obtain ⟨x1,r',rfl,b1,l⟩:=(show ∃ x r,xs=x::r/\RepV X.K ρ B H k x/\RepL X.K ρ B H [dv] r by unfold RepL at l;exact l)
    obtain ⟨x2,r'',rfl,b2,l⟩:=(show ∃ x r,r'=x::r/\RepV X.K ρ B H dv x/\RepL X.K ρ B H [] r by unfold RepL at l;exact l)
    unfold RepL at l;subst l
    obtain rfl:=Z3 hk b1
    cases v1
    obtain ⟨its2,r2',pl,hz⟩:=I.tuple sq
    cases r2' with
    | @cons _ w1 _ ws q1 q2 =>
    cases q2 with
    | @cons _ w2 _ ws q2 q3 =>
    cases q3
    obtain ⟨o,ho,hc,n,hd⟩:=pl
    refine ⟨(ky,x2)::xk,(ky,w2)::more,.cons ⟨rfl,b2⟩ a1,.cons ⟨rfl,q2⟩ a2,by simp [a3],fun j u kv h1 h2=>?_⟩
    cases j with
    | zero =>
      cases h1;cases h2
      exact ⟨a,o,n,w1,rfl,ho,hc,hd,XV q1⟩
    | succ j=>exact a4 j u kv h1 h2
theorem uJ (hc:X.calm=true):Zy X (.type "dict") (tPn X.K uR):=by
 intro pins s σ H xs us Q I r h
 obtain ⟨ρ,B,hp,ds,d,hp',W,rl,e,k⟩:=h
 obtain ⟨x,rfl,e⟩:=qc e
 obtain ⟨zs,hp1,e1,e2⟩:=bind_some e
 obtain ⟨kvs,hp2,e3,e4⟩:=bind_some e2
 obtain ⟨e5,rfl⟩:=vF e3
 cases e4
 obtain ⟨v,rfl,rv⟩:=rl.oneI
 obtain ⟨rfl,p,ys,rfl,sq,l⟩:=gu W rv e1
 obtain ⟨u,rfl,rx⟩:=YR r
 cases rx
 obtain ⟨its,r',pl,hz⟩:=I.list sq
 obtain ⟨o,n,ho,hc',hdn,hdat⟩:=pl
 obtain ⟨xk,more,a1,a2,a3,a4⟩:=gW I e5 l r'
 have zm:more.length<=sizeLine:=by rw [<- a3,<- r'.length];exact hz
 have zk:(Xp [] xk).length<=sizeLine:=by
  have h1:=XW xk []
  have h2:=a2.length
  rw [List.length_nil] at h1
  omega
 refine qR (knd:=QT X.prog X.w) (I.ok.hd hc) ho hc' hdat hdn zm (by simpa using a3) (fun j u kv h1 h2=>a4 j u kv (by simpa using h1) h2) fun h' t' dd kp=>?_
 have hn:=I.hok.fresh (Nat.le_refl s.heap.objs.size)
 refine ⟨.ref s.heap.objs.size,_,I.laid (a:=s.heap.objs.size) (o:=.dK (Xp [] xk)) (t':=t') kp (Nat.le_refl _) (xj zk (beq_eq_false_iff_ne.mpr (Ne.symm (Nat.ne_of_lt I.big))) (a2.merge .nil) dd),rfl,?_⟩
 have g:Gr X.K ρ B H (ρ++[s.heap.objs.size]) (X2 B s.heap.objs.size) (upd H s.heap.objs.size (.dK (Xp [] xk))):=Gr.wnew hn I.kfresh
 refine k _ _ _ _ g (W.wnew hn I.kfresh (RepK.orep (RepK.gs ?_ (RepK.merge a1 (kvs:=[]) (xs:=[]) .nil)) QI)) ?_
 ·exact g.gs W.rb
 ·unfold RepV
  exact ⟨_,rfl,by rw [<- W.len];simp⟩
end
end D
namespace L2
open PySem PySem.Spec PyProof.Rows
section
variable {X:Cx} {pins:List (Addr×Obj)} {σ:L2.St}
end
section
variable {X:Cx}
end
end L2
namespace D
open PySem PySem.Spec PyProof.Rows L2
theorem RepL.of_get {K:PySem.W.Frag} {ρ:List Addr} {B:Addr->Prop} {H:Hp}:∀ {ds:List DV} {ts:List V},ds.length=ts.length->(∀ (m:Nat) (d:DV) (t:V),ds[m]?=some d->ts[m]?=some t->RepV K ρ B H d t)->RepL K ρ B H ds ts
  | [],[],_,_=>by unfold RepL;rfl
  | [],_::_,h,_=>by cases h
  | _::_,[],h,_=>by cases h
  | d::ds,t::ts,h,f=>by
    unfold RepL
    exact ⟨t,ts,rfl,f 0 d t rfl rfl,RepL.of_get (Nat.succ.inj h) fun m x y h1 h2=>f (m+1) x y h1 h2⟩
theorem Gr.more {K:PySem.W.Frag} {ρ:List Addr} {B:Addr->Prop} {H H':Hp} (kp:∀ c q,H c=some q->H' c=some q):Gr K ρ B H ρ B H' :=
 ⟨List.prefix_rfl,fun _ h=>h,fun _ h=>.inl h,fun _ z=>.inl z,fun a o _ h=>kp a o h,fun a q=>by
  cases e:H a with
  | none=>rfl
  | some o=>rw [kp a o e] at q;cases q⟩
theorem WOk.more {K:PySem.W.Frag} {ρ:List Addr} {B:Addr->Prop} {hp:Hs} {H H':Hp} (W:WOk K ρ B hp H) (kp:∀ c q,H c=some q->H' c=some q):WOk K ρ B hp H' where
 len:=W.len
 nd:=W.nd
 obj:=fun i a u e q=>by
  refine ORep.gs ((Gr.more kp).gs W.rb) ?_ (W.obj i a u e q)
  have:=W.bt a (W.rb a (List.mem_of_getElem? e))
  cases z:H a with
  | none=>exact absurd z this
  | some o=>exact kp a o z
 rb:=W.rb
 bt:=fun a h z=>by
  have:=W.bt a h
  cases y:H a with
  | none=>exact this y
  | some o=>rw [kp a o y] at z;cases z
 bk:=W.bk
section
variable {X:Cx} {f g:DEx}
end
end D
namespace D
open PySem PySem.Spec PyProof.Rows L2
structure UF (K:PySem.W.Frag) (mg:Str->Option Value) (x:Str) (st:Stmt):Prop where
 ex:∃ g fd,Fun K x x st g fd/\mg x=some (.ref g)
structure UC (K:PySem.W.Frag) (c:Str):Prop where
 ex:∀ C,ClsN K c C->Cls K C
structure UM (K:PySem.W.Frag) (c m q:Str) (st:Stmt):Prop where
 ex:∃ C g fd,Fun K m q st g fd/\ClsN K c C/\Cls K C/\Vt K C m g
structure UI (K:PySem.W.Frag) (mg:Str->Option Value) (c q:Str) (st:Stmt):Prop where
 ex:∃ C g fd,Fun K "__init__" q st g fd/\ClsN K c C/\mg c=some (.ref C)/\Mk K C g
structure UT (K:PySem.W.Frag) (mg:Str->Option Value) (x:Str) (d:DV):Prop where
 ex:∃ a,mg x=some (.ref a)/\KRep K d (.ref a)
section
variable {K:PySem.W.Frag} {h:Heap} {mg:Str->Option Value} {f C:Addr} {x c m q:Str} {st:Stmt} {oc:Value} {od an:Option Addr} {osl:Array (Option Value)} {kV doc pm cdv ct:Value} {i:Int} {t:Tok} {d:DV} {a:Addr}
theorem uf (X:K.In h) (G:h.Ns mainGlobals mg) (n:PySem.W.nsIn K mainGlobals x=some (some (.ref f))) (l:K.lookup f=some ⟨oc,od,.func (PySem.W.fnOf x x (Zu st) (Q3 st) (Qo st) .none kV doc pm an cdv ct),osl⟩) (e:PySem.W.codeIn K cdv x=true) (k:PySem.W.keepIn K (.ref f)=true):UF K mg x st:=⟨_,_,xy l e k,PySem.W.mg_of X G n⟩
theorem uc (X:K.In h) (n:PySem.W.nsIn K mainGlobals c=some (some (.ref C))) (p:PySem.W.plainGet K C Str.empty=true) (e:PySem.W.hasDictIn K C=true) (o:PySem.W.plainOver K C=true) (s:PySem.W.findIn K (.ref C) "__setattr__" = some (some (.builtin "object.__setattr__"))):UC K c:=⟨fun C' n'=>by cases ClsN.uniq (show ClsN K c C from n) n';exact ⟨p,e,o,s⟩⟩
theorem um (X:K.In h) (u:UC K c) (n:PySem.W.nsIn K mainGlobals c=some (some (.ref C))) (a:PySem.W.findIn K (.ref C) m=some (some (.ref f))) (b:PySem.W.isFn K (.ref f)=true) (l:K.lookup f=some ⟨oc,od,.func (PySem.W.fnOf m q (Zu st) (Q3 st) (Qo st) .none kV doc pm an cdv ct),osl⟩) (e:PySem.W.codeIn K cdv q=true) (k:PySem.W.keepIn K (.ref f)=true):UM K c m q st:=⟨_,_,_,xy l e k,n,u.ex _ n,a,b,k⟩
theorem ui (X:K.In h) (G:h.Ns mainGlobals mg) (n:PySem.W.nsIn K mainGlobals c=some (some (.ref C))) (a:PySem.W.findIn K (.ref C) "__init__" = some (some (.ref f))) (b:PySem.W.isFn K (.ref f)=true) (l:K.lookup f=some ⟨oc,od,.func (PySem.W.fnOf "__init__" q (Zu st) (Q3 st) (Qo st) .none kV doc pm an cdv ct),osl⟩) (e:PySem.W.codeIn K cdv q=true) (k:PySem.W.keepIn K (.ref f)=true) (v:PySem.W.makesIn K C=true) (z:PySem.W.keepIn K (.ref C)=true):UI K mg c q st:=⟨_,_,_,xy l e k,n,PySem.W.mg_of X G n,v,a,b,z⟩
theorem uk (X:K.In h) (u:UC K c) (n:PySem.W.nsIn K mainGlobals c=some (some (.ref C))) (a:PySem.W.findIn K (.ref C) x=some none):Vr K c x:=⟨C,n,u.ex _ n,a⟩
theorem ut (X:K.In h) (G:h.Ns mainGlobals mg) (n:PySem.W.nsIn K mainGlobals x=some (some (.ref a))) (r:KRep K d (.ref a)):UT K mg x d:=⟨_,PySem.W.mg_of X G n,r⟩
theorem ZC {N ps:List Str} {s:Scope} (h:(s.kind==.function&&!s.isCoroutine&&!s.isGenerator&&decide N.Nodup&&decide (N.take ps.length=ps)&&ps.all (fun x=>decide (s.names.lookup x=some .local)||decide (s.names.lookup x=some .cell))&&s.names.all fun y=>decide (y.2≠.free))=true:=by decide +kernel):QC N ps s:=by
 simp only [Bool.and_eq_true,Bool.not_eq_true',decide_eq_true_eq,List.all_eq_true,Bool.or_eq_true] at h
 obtain ⟨⟨⟨⟨⟨⟨a,b⟩,c⟩,d⟩,e⟩,f⟩,g⟩:=h
 refine ⟨?_,b,c,d,e,f,fun y hy=>by have:=g y hy;simpa using this⟩
 revert a;cases s.kind<;>first | (intro _;rfl) | (intro z;exact absurd z (by decide))
end
section
variable {P:Program} {w:World} {K:PySem.W.Frag} {mg:Str->Option Value} {base:Heap} {x c m q:Str} {st:Stmt} {N ps:List Str} {k:Nat} {body:DSx}
def Bn (ps:List Str) (x q:Str) (st:Stmt):Prop:=∀ (kV doc pm:Value) (an:Option Addr) (cdv ct:Value) (us:List Value),us.length=ps.length->bindArgs (PySem.W.fnOf x q (Zu st) (Q3 st) (Qo st) .none kV doc pm an cdv ct) ⟨us,[]⟩=pure (ps.zip us)
def Bd (P:Program) (w:World) (K:PySem.W.Frag) (mg:Str->Option Value) (base:Heap) (N:List Str) (k:Nat) (q:Str) (st:Stmt) (body:DSx):Prop:=∀ (g:Addr) (cdv:Value) (A:Around) (outer:List Env) (s:Shared) (H:Hp) (E:XK),Room k (A.deeper (envOfC q (Qo st) s.heap.objs.size g cdv))->DSs (qv CX0 P w K mg base N q (Qo st) g cdv A outer s H E).nox (Q3 st) body
theorem hf (u:UF K mg x st) (Sc:QC N ps (Qo st)) (h:N.Nodup->Bd P w K mg base N k x st body:=by intro s _ _ _ _ _ _ _ hr;trivial) (hb:Bn ps x x st:=by intro _ _ _ _ _ _ us hl;rcases us with _ | ⟨_,_ | ⟨_,_ | ⟨_,_ | ⟨_,_ | ⟨_,_ | ⟨_,_⟩⟩⟩⟩⟩⟩<;>first | rfl | cases hl):Has P w K mg base x (k+1) ps.length (Zm N.length body):=let ⟨_,_,F,hm⟩:=u.ex;GZ F Sc hm hb (h Sc.nd _)
theorem hM (u:UM K c m q st) (Sc:QC N ps (Qo st)) (h:N.Nodup->Bd P w K mg base N k q st body:=by intro s _ _ _ _ _ _ _ hr;trivial) (hb:Bn ps m q st:=by intro _ _ _ _ _ _ us hl;rcases us with _ | ⟨_,_ | ⟨_,_ | ⟨_,_ | ⟨_,_ | ⟨_,_ | ⟨_,_⟩⟩⟩⟩⟩⟩<;>first | rfl | cases hl):yi P w K mg base c m (k+1) ps.length (Zm N.length body):=let ⟨_,_,_,F,nc,cl,me⟩:=u.ex;vv nc cl me F Sc hb (h Sc.nd _)
theorem hI (u:UI K mg c q st) (Sc:QC N ps (Qo st)) (h:N.Nodup->Bd P w K mg base N k q st body:=by intro s _ _ _ _ _ _ _ hr;trivial) (hb:Bn ps "__init__" q st:=by intro _ _ _ _ _ _ us hl;rcases us with _ | ⟨_,_ | ⟨_,_ | ⟨_,_ | ⟨_,_ | ⟨_,_ | ⟨_,_⟩⟩⟩⟩⟩⟩<;>first | rfl | cases hl):uB P w K mg base c (k+1) ps.length (Zm N.length body):=let ⟨_,_,_,F,nc,hm,me⟩:=u.ex;G9 nc hm me F Sc hb (h Sc.nd _)
end
end D
namespace D
open PySem PySem.Spec PyProof.Rows L2
def gOf {α:Type} (m:M α) (k:α->Hs->Option (Str×Hs)):Hs->Option (Str×Hs):=fun hp=>(m hp).bind fun r=>k r.1 r.2
section
variable {X:Cx} {E:XK} {e o:Expr} {es:List Expr} {st:Stmt} {rest:List Stmt} {g g':DRx} {f:DSx} {pos apos p:Pos} {c m:Str} {fo:DEx} {fa:DAx}
end
end D
namespace D
open PySem PySem.Spec PyProof.Rows L2
section
variable {X:Cx} {E:XK} {c:Str} {C:Addr} {np cpos pos p2:Pos} {msg:Str} {j:Nat}
end
section
variable {P:Program} {w:World} {K:PySem.W.Frag} {mg:Str->Option Value} {base:Heap} {x c m q:Str} {st:Stmt} {N ps:List Str} {k:Nat} {g:DRx}
end
section
variable {K:PySem.W.Frag} {h:Heap} {mg:Str->Option Value} {c sc a1 b1 b2 b3 b4:Str} {C SC A1 B1 B2 B3 B4:Addr}
end
section
variable {X:Cx} {a C:Addr} {oe:Obj}
end
end D
namespace D
open PySem PySem.Spec PyProof.Rows L2
section
variable {X:Cx} {E:XK} {l:List Stmt} {g g':DRx}
end
section
variable {X:Cx} {c sc a1 b1 b2 b3 b4 x n nr no:Str} {e:Expr} {es:List Expr} {fa:DAx} {p pos cpos epos hpos np p1 p2 p3 p4 p5 p6 p7 p8 p9 p10 p11 p12 p13 p14 p15 p16 p17 p18 p19 q1 q2:Pos} {kt:Nat}
end
end D
namespace L2
open PySem PySem.Spec PyProof.Rows
section
variable {X:Cx}
def isI (i:Int):Value->Bool
 | .int a _=>a==i
 | _=>false
theorem zi:∀ {vs:List Value} {ns:List Int},IntsAre vs ns->∀ (j:Nat) (n:Int),ns[j]?=some n->∃ t,vs[j]?=some (.int n t)
 | _,_,.cons _ t h,0,n,e=>by cases e;exact ⟨t,rfl⟩
 | _,_,.cons _ t h,j+1,n,e=>zi h j n e
theorem zh:∀ {vs:List Value} {ns:List Int},IntsAre vs ns->∀ (j:Nat),IntsAre (vs.eraseIdx j) (ns.eraseIdx j)
 | _,_,.nil,j=>by simpa using IntsAre.nil
 | _,_,.cons _ t h,0=>h
 | _,_,.cons m t h,j+1=>.cons m t (zh h j)
theorem UH {i:Int} {t:Tok}:∀ {vs:List Value} {ns:List Int},IntsAre vs ns->∀ y∈vs,PySem.MeetsSeq.EqGives y (.int i t) (isI i y)
  | _,_,.cons _ u h,y,hy=>by
    rcases List.mem_cons.mp hy with rfl | hy
    . exact PySem.MeetsSeq.EqGives.int _ _ _ _
    . exact UH h y hy
def kc:V->List V->Hp->VK->Prop:=fun x vs H Q=>∃ (l:Addr) (ns:List Int) (i:Int) (j:Nat),x=.ref l/\vs=[.int i]/\H l=some (.lst (ns.map .int))/\ns[j]?=some i/\(∀ m,m < j->ns[m]?≠some i)/\Q .non (upd H l (.lst ((ns.eraseIdx j).map .int)))
theorem KR:MtR X "list.remove" kc:=by
 intro pins s σ H x vs v us Q I rx rv h
 obtain ⟨l,ns,i,j,rfl,rfl,hH,hj,hno,q⟩:=h
 cases rx
 obtain ⟨u,rfl,t,rfl⟩:=YR rv
 obtain ⟨z,its,n,r,hl,e⟩:=I.lstM hH
 have II:IntsAre its ns:=D.XL r
 obtain ⟨tj,gj⟩:=zi II j i hj
 have lj:j < its.toArray.size:=by rw [List.size_toArray];exact (List.getElem?_eq_some_iff.mp gj).1
 have ej:its.toArray[j]=.int i tj:=by
  have:=(List.getElem?_eq_some_iff.mp gj).2
  simpa using this
 refine call_meets F.slot_list_remove ⟨_,e,rfl⟩ F.entry_list_remove (F.args_list_remove_2 _ _) (PySem.MeetsSeq.list_remove l its.toArray n (.int i t) (isI i) (fun y hy=>UH II y (by simpa using hy)) j lj (by rw [ej];exact beq_self_eq_true i) (fun m hm hmj=>?_) ?_) ⟨e,?_⟩
 ·have hm':m < ns.length:=by have:=II.length;rw [List.size_toArray] at hm;omega
  obtain ⟨tm,gm⟩:=zi II m ns[m] (List.getElem?_eq_getElem hm')
  have em:its.toArray[m]=.int ns[m] tm:=by
   have:=(List.getElem?_eq_some_iff.mp gm).2
   simpa using this
  rw [em]
  refine Bool.eq_false_iff.mpr fun z=>hno m hmj ?_
  rw [List.getElem?_eq_getElem hm',beq_iff_eq.mp z]
 ·rw [List.size_toArray];omega
 ·refine ⟨.non,_,I.lset (its':=its.eraseIdx j) hH e ?_ (D.ZZ (zh II j)) ?_,rfl,q⟩
  ·apply Array.toList_inj.mp
   simp
  ·rw [List.length_map] at z ⊢
   exact Nat.le_trans (List.length_eraseIdx_le ns j) z
end
end L2
namespace D
open PySem PySem.Spec PyProof.Rows L2
section
variable {X:Cx}
def YC (x:DV):List DV->M DV
  | [.int i]=>onL x fun n ds=>do
    let ns <- JY (Z2 ds)
    Qz (decide (i∈ns))
    YN n (.lst ((ns.erase i).map .int))
    pure .non
  | _=>failure
theorem GV (ns:List Int) (i:Int) (h:i∈ns):ns[ns.idxOf i]?=some i/\(∀ m,m < ns.idxOf i->ns[m]?≠some i)/\ns.eraseIdx (ns.idxOf i)=ns.erase i:=by
 refine ⟨?_,fun m hm q=>?_,?_⟩
 ·rw [List.getElem?_eq_getElem (List.idxOf_lt_length_iff.mpr h),List.getElem_idxOf]
 ·have hl:m < ns.length:=(List.getElem?_eq_some_iff.mp q).1
  have:=List.not_of_lt_findIdx (xs:=ns) (p:=(· == i)) hm
  rw [List.getElem?_eq_getElem hl] at q
  cases q
  simp at this
 ·rw [List.erase_eq_eraseIdx_of_idxOf rfl]
theorem vp:MtR X "list.remove" (tPm X.K YC):=by
 intro pins s σ H x vs v us Q I rx rv h
 obtain ⟨ρ,B,hp,dx,es,d,hp',W,r1,r2,e,k⟩:=h
 unfold YC at e
 split at e
 ·rename_i i
  obtain ⟨n,ds,rfl,h0,e⟩:=Xs e
  obtain ⟨ns,hp1,e1,e⟩:=bind_some e
  obtain ⟨hd,rfl⟩:=ZT e1
  obtain ⟨_,hp2,e2,e⟩:=bind_some e
  obtain ⟨hi,rfl⟩:=Qx e2
  cases e
  obtain ⟨a,rfl,i1,xs,h1,l1⟩:=RepV.refW W r1 h0
  obtain ⟨w,rfl,rw'⟩:=r2.oneI
  obtain rfl:=rw'.intI
  obtain rfl:=ZQ hd l1
  obtain ⟨a1,a2,a3⟩:=GV ns i (of_decide_eq_true hi)
  obtain ⟨g,W'⟩:=Xy W i1 h1 (XJ (ns.erase i))
  exact KR pins s σ H _ _ v us Q I rx rv ⟨a,ns,i,ns.idxOf i,rfl,rfl,h1,a1,a2,by rw [a3];exact k .non ρ B _ g W' Jt⟩
 ·cases e
end
end D
namespace D
open PySem PySem.Spec PyProof.Rows L2
def Ge (T:List (Str×Str)):List (Str×PyData):=T.map fun p=>(p.1,.str p.2)
def Qcx (T:List (Str×Str)):DV->M DV
  | .str x=>match T.lookup x with
    | some y=>pure (.str y)
    | none=>failure
  | _=>failure
def GP (T:List (Str×Str)) (f:DEx):DEx:=fun env=>do
 let d <- f env
 Qcx T d
theorem Gd {T:List (Str×Str)} {d r:DV} {hp hp':Hs} (h:Qcx T d hp=some (r,hp')):∃ k z,d=.str k/\T.lookup k=some z/\r=.str z/\hp'=hp:=by
  cases d with
  | str k =>
    have h:(match T.lookup k with | some y=>pure (DV.str y) | none=>failure:M DV) hp=some (r,hp'):=h
    cases e:T.lookup k with
    | none=>rw [e] at h;cases h
    | some z=>rw [e] at h;cases h;exact ⟨k,z,rfl,e,rfl,rfl⟩
  | _=>cases h
structure uF (K:PySem.W.Frag) (mg:Str->Option Value) (x:Str) (T:List (Str×Str)):Prop where
 ex:∃ a,mg x=some (.ref a)/\KTD.tabLook KTD.flatLooks (fun b=>K.lookup b) a (Ge T)=true
theorem Qc6 {K:PySem.W.Frag} {h:Heap} {mg:Str->Option Value} {x:Str} {a:Addr} {o:Obj} {T:List (Str×Str)} (X:K.In h) (G:h.Ns mainGlobals mg) (n:PySem.W.nsIn K mainGlobals x=some (some (.ref a))) (l:K.lookup a=some o) (r:KTD.tabLook KTD.flatLooks (fun _=>some o) a (Ge T)=true):uF K mg x T :=
 ⟨_,PySem.W.mg_of X G n,by unfold KTD.tabLook at r ⊢;simp only [l];exact r⟩
theorem Ub {x y:Str}:∀ {T:List (Str×Str)},T.lookup x=some y->KTD.datumAt x ((Ge T).map fun p=>(p.1,KTD.Dat.flat p.2))=some (.flat (.str y))
  | [],h=>by cases h
  | (a,b)::r,h=>by
    show (if decide (x=a)=true then some (KTD.Dat.flat (.str b)) else KTD.datumAt x ((Ge r).map fun p=>(p.1,KTD.Dat.flat p.2)))=_
    by_cases e:x=a
    . rw [if_pos (decide_eq_true e)]
      rw [List.lookup_cons,show (x==a)=true from beq_iff_eq.mpr e] at h
      cases h;rfl
    . rw [if_neg (by simpa using e)]
      rw [List.lookup_cons,show (x==a)=false from Bool.eq_false_iff.mpr fun z=>e (beq_iff_eq.mp z)] at h
      exact Ub h
section
variable {X:Cx} {x:Str} {T:List (Str×Str)} {e:Expr} {p pos:Pos}
theorem Qbb {ty:TE} (u:uF X.K X.mg x T) (hi:PE X e ty) (hg:Gl X x) (hd:(x==("__debug__" : Str))=false) (hs:Qai e):PE X (.Subscript (.Name x p) e pos) (fun σ H Q=>ty σ H fun y H2=>∃ k z,y=.str k/\T.lookup k=some z/\Q (.str z) H2):=by
 obtain ⟨a,hm,lk⟩:=u.ex
 intro pins s σ H Q I h
 refine kF PySem.F.slot_dict_getitem.lookup hs (qE I hg hm (thn (hi pins s σ H _ I h) fun iv s2 z=>?_) hd)
 obtain ⟨y,H2,I2,ry,k,z,rfl,el,q⟩:=z
 obtain ⟨t,rfl⟩:=ry
 have T0:KTD.TabOf (fun d v=>PyProof.V.Flat v d) s2.heap a (Ge T):=KTD.tab_of_look (fun _ _=>KTD.flat_of_looks) (fun b o e=>I2.kIn b o e) lk
 have TT:KTD.Here s2.heap s2.heap a ((Ge T).map fun p=>(p.1,KTD.Dat.flat p.2)):=⟨T0.text,fun _ _ e=>e⟩
 refine ⟨TT.typeIs,?_⟩
 unfold getItem
 try with_reducible refine wpAny_holding ?_
 refine wpAny_bind (wpAny_sequenceKey TT.typeIs (by decide) ?_)
 refine wpAny_bind (wpAny_callSpecial?_slot (name:=Str.ofString "__getitem__") TT.typeIs slot_dict_getitem
  (wpAny_call_entry slot_dict_getitem TT.typeIs entry_dict_getitem ?_ (args_dict_getitem _ _)))
 show wpAny _ _ (dictGet a (.str k t) >>= _) _ _ s2
 refine wpAny_bind (KTD.dictGet_text TT (fun d v ha hv=>?_) fun hn=>?_)
 ·rw [Ub el] at ha
  cases ha
  obtain ⟨t',rfl⟩:∃ t',v=.str z t':=KTD.Opened.of (h:=s2.heap) (P:=fun v=>∃ t',v=.str z t') (KTD.opened_str fun t'=>⟨t',rfl⟩) v hv
  exact wpAny_pure ⟨_,rfl,wpAny_pure ⟨.str z,H2,I2.tok _,⟨_,rfl⟩,q⟩⟩
 ·rw [Ub el] at hn;cases hn
theorem Qav {f:DEx} (u:uF X.K X.mg x T) (he:DE X e f) (hg:Gl X x:=by rfl) (hd:(x==("__debug__" : Str))=false:=by decide) (hs:Qai e:=by intro _ _;rfl):DE X (.Subscript (.Name x p) e pos) (GP T f) :=
 (Qbb u he hg hd hs).imp fun σ H Q z=>by
  obtain ⟨Z,env,ρ,B,hp,d,hp',S,e1,k⟩:=z
  obtain ⟨y,hp1,e2,e3⟩:=bind_some e1
  refine tD.run S e2 fun v ρ1 B1 H1 g1 S1 r1=>?_
  obtain ⟨kk,z,rfl,hz,rfl,rfl⟩:=Gd e3
  exact ⟨kk,z,r1.strI,hz,k _ ρ1 B1 H1 g1 S1.wo kh⟩
end
end D
namespace D
open PySem PySem.Spec PyProof.Rows L2
section
variable {X:Cx}
end
section
variable {P:Program} {w:World} {K:PySem.W.Frag} {mg:Str->Option Value} {base:Heap} {x:Str} {st:Stmt} {N ps:List Str} {k:Nat} {body:DSx}
theorem hf6 (u:UF K mg x st) (Sc:QC N ps (Qo st)) (h:N.Nodup->Bd P w K mg base N k x st body:=by intro s _ _ _ _ _ _ _ hr;trivial) (hb:Bn ps x x st:=by intro _ _ _ _ _ _ us hl;rcases us with _ | ⟨_,_ | ⟨_,_ | ⟨_,_ | ⟨_,_ | ⟨_,_ | ⟨_,_ | ⟨_,_⟩⟩⟩⟩⟩⟩⟩<;>first | rfl | cases hl):Has P w K mg base x (k+1) ps.length (Zm N.length body):=let ⟨_,_,F,hm⟩:=u.ex;GZ F Sc hm hb (h Sc.nd _)
end
end D
namespace D
open PySem PySem.Spec PyProof.Rows L2
section
variable {X:Cx}
end
section
variable {env env1:En} {hp hp1:Hs} {f g:DSx} {c:DTx} {r:Option ((Fl×En)×Hs)}
theorem UA {α:Type} {xs:List α} {i:Nat} {x:α} (h:xs[i]?=some x):i < xs.length:=(List.getElem?_eq_some_iff.mp h).1
theorem QbO {α:Type} {xs ys:List α} {i:Nat} {x:α} (h:xs[i]?=some x):(xs++ys)[i]?=some x:=(List.getElem?_append_left (UA h)).trans h
end
end D
namespace L2
open PySem PySem.Spec PyProof.Rows
section
variable {X:Cx}
theorem Inv.layAll {pins:List (Addr×Obj)} {σ:St} {H H':Hp} {s:Shared} {h':Heap} {t':Nat} (I:Inv X pins σ H s) (k:∀ b u,s.heap.get? b=some u->h'.get? b=some u) (old:∀ b o,H b=some o->H' b=some o)
    (new:∀ b o,H' b=some o->H b=some o∨(s.heap.objs.size<=b/\ObjOk X.prog X.w H' h' b o)):Inv X pins σ H' { s with heap:=h',toks:=t' }:=by
  refine I.un ⟨fun b u q _ _ _=>k b u q,fun b u q _ _ _=>⟨u.slots,k b u q⟩,fun b u q n _=>?_,fun b u q _=>⟨u,k b u q⟩,fun b xs q=>old b _ q,fun b u xs q=>old b _ q,fun b ps q=>⟨#[],by rw [old b _ q];simp⟩⟩ fun b o e=>?_
  . cases e:H' b with
    | none=>rfl
    | some o =>
      rcases new b o e with h | ⟨h,_⟩
      . rw [n] at h;cases h
      . exact absurd (Nat.lt_of_lt_of_le (Heap.lt_size q) h) (Nat.lt_irrefl _)
  . rcases new b o e with h | ⟨_,h⟩
    . exact (I.hok b o h).stay (fun c v _ q=>k c v q) (fun c q=>old c _ q) fun c xs q=>old c _ q
    . exact h
theorem vd {κ:Type}:∀ {kvs:List (κ×V)} {vs:List (κ×Value)} {i:Nat} {x:κ×V},KV kvs vs->kvs[i]?=some x->∃ y,vs[i]?=some y/\x.1=y.1/\RelV x.2 y.2
 | _,_,0,_,.cons a _,e=>by cases e;exact ⟨_,rfl,a⟩
 | _,_,i+1,_,.cons _ b,e=>vd (i:=i) b e
theorem jR:∀ as:List Addr,Vals (as.map V.ref) (as.map Value.ref)
 | []=>.nil
 | _::as=>.cons rfl (jR as)
def gOf (z:List (Int×Int)) (n:Int):Int:=((z.find? fun p=>decide (p.1=n)).map (·.2)).getD 0
theorem Yu:∀ {z:List (Int×Int)},(z.map (·.1)).Nodup->∀ p∈z,gOf z p.1=p.2
  | q::z,nd,p,hp=>by
    obtain ⟨h1,h2⟩:=List.nodup_cons.mp nd
    unfold gOf
    rw [List.find?_cons]
    rcases List.mem_cons.mp hp with rfl | hp
    . simp
    . have ne:¬ q.1=p.1:=fun e=>h1 (List.mem_map.mpr ⟨p,hp,e.symm⟩)
      simp only [ne,decide_false]
      exact Yu h2 p hp
theorem vJ {o:Expr} {to:TE} {p apos cpos pos:Pos} (hgl:Gl X "sorted") (hml:X.mg "sorted" = none) (hc:X.calm=true) (ho:PE X o to)
    (hbase:attributeBase o "items" X.env (eval o X.env)=eval o X.env:=by rfl) (hline:(apos.endLine==cpos.line)=true:=by rfl)
    (hs3:starEach [.Call (.Attribute o "items" apos) [] [] cpos] X.env=[(false,eval (.Call (.Attribute o "items" apos) [] [] cpos) X.env)]:=by rfl) :
    PE X (.Call (.Name "sorted" p) [.Call (.Attribute o "items" apos) [] [] cpos] [] pos) (fun σ H Q=>to σ H fun v H1=>∃ (a:Addr) (z:List (Int×Int)),v=.ref a/\H1 a=some (.dK (z.map fun p=>(.inl p.1,.int p.2)))/\(z.map (·.1)).Nodup /\
      ∀ (l:Addr) (H':Hp) (as:List Addr) (zs:List (Int×Int)),zs.Perm z->zs.Pairwise (fun p q=>p.1<=q.1)->H1 l=none->(∀ b o,H1 b=some o->H' b=some o)->H' l=some (.lst (as.map .ref))->as.length=zs.length->(∀ (m:Nat) (b:Addr) (q:Int×Int),as[m]?=some b->zs[m]?=some q->H1 b=none/\H' b=some (.tup [.int q.1,.int q.2]))->Q (.ref l) H'):=by
  intro pins s σ H Q I h
  refine wpAny_Call_Name_kw (Yd I hgl hml boot_sorted ?_)
  refine PyProof.Rows.callWith_builtin1 ?_ hs3 rfl
  rw [hs3]
  show wpAny _ _ (spliced ((false,eval (.Call (.Attribute o "items" apos) [] [] cpos) X.env)::[])) _ _ s
  refine Calls.spliced_cons (wpAny_Call_method0_late hbase hline (thn (ho pins s σ H _ I h) fun v s1 ⟨x,H1,I1,r1,q1⟩=>?_))
  obtain ⟨a,z,rfl,hd,nd,q⟩:=q1
  have hh:X.A.handled=none:=I1.ok.hd hc
  obtain ⟨hz,lo,vs,kv,hdo⟩:=qV I1.hok hd
  obtain ⟨ep,hat⟩:=hdo.dictAt
  obtain ⟨h1,h2⟩:=Ud (T := "dict") I1 r1 (.inr (.inr (.inl ⟨rfl,.inl ⟨_,hd⟩⟩)))
  cases r1
  refine ⟨"dict", "dict.items", PySem.F.plainAttrs_dict,PySem.F.slot_dict_items,PySem.F.type_dict_items,h1,h2,Calls.callWith_builtin rfl (PySem.evalArgs_none ?_)⟩
  refine call_meetsIn PySem.F.slot_dict_items hdo.typeIs PySem.F.entry_dict_items (PySem.F.args_dict_items_1 _) (meets_dict_items (QT X.prog X.w) a lo) ⟨⟨vs,hdo⟩,Calls.spliced_nil ?_⟩
  have kl:z.length=vs.length:=by have:=Paired.length kv;rw [List.length_map] at this;exact this
  have zl:z.length<=sizeLine:=by rw [List.length_map] at hz;exact hz
  have I2:Inv X pins σ H1 { s1 with heap:=s1.heap.push { cls:=.type "dict_items", data:=.fields #[.ref a] },toks:=s1.toks }:=I1.kept fun b u e=>Heap.get?_push_of_some _ e
  have ve:∀ (j:Nat) (k:Key) (u:Value),vs[j]?=some (k,u)->∃ p t,z[j]?=some p/\k=.inl p.1/\u=.int p.2 t:=fun j k u e=>by
    have lj:j < z.length:=by rw [kl];exact (List.getElem?_eq_some_iff.mp e).1
    have ez:(z.map fun p=>((.inl p.1:Key),V.int p.2))[j]?=some (.inl z[j].1,.int z[j].2):=by rw [List.getElem?_map,List.getElem?_eq_getElem lj];rfl
    obtain ⟨y,y1,y2⟩:=vd kv ez
    rw [e] at y1;cases y1
    obtain ⟨e1,t,e2⟩:=y2
    exact ⟨z[j],t,List.getElem?_eq_getElem lj,e1.symm,e2⟩
  refine TS.sorted_ofP (g:=gOf z) (ks:=z.map (·.1)) (F:=fun v=>∃ b,v=.ref b/\s1.heap.objs.size+1<=b) (fun R hR=>?_) fun h1 h' tk out c k1 k2 g2 hF pm so=>?_
  . refine PySem.W.kdx_collect (knd:=QT X.prog X.w) (kvs:=vs) (ep:=ep) hh ⟨_,Heap.get?_push_size _ rfl,rfl,rfl⟩ (hat.push _) (by omega) fun h' tk as k1 al G=>hR h' tk (as.map .ref) (fun v hv=>?_) ?_ (by rw [List.length_map];omega) k1
    . obtain ⟨b,hb,rfl⟩:=List.mem_map.mp hv
      obtain ⟨j,hj⟩:=List.mem_iff_getElem?.mp hb
      obtain ⟨key,k,x,e1,e2,e3⟩:=G.pairs j b hj
      obtain ⟨p,t,p1,rfl,rfl⟩:=ve j k x e1
      have ab:=G.above b hb
      have ab:s1.heap.objs.size+1 < b:=by rw [<- Heap.size_push s1.heap];exact ab
      refine ⟨⟨b,rfl,Nat.le_of_lt ab⟩,p.1,?_⟩
      rcases QZ (show Yy (Sum.inl p.1) key=true from e2) with ⟨i,t',h1,h2⟩ | ⟨_,_,h1,_⟩
      . cases h1
        subst h2
        exact ⟨b,_,t',t,0,rfl,e3,rfl,by rw [Yu nd p (List.mem_of_getElem? p1)]⟩
      . cases h1
    . refine List.ext_getElem? fun j=>?_
      rw [List.getElem?_map,List.getElem?_map,List.getElem?_map]
      cases hj:as[j]? with
      | none =>
        have:z[j]?=none:=by
          rw [List.getElem?_eq_none_iff] at hj ⊢;omega
        rw [this];rfl
      | some b =>
        obtain ⟨key,k,x,e1,e2,e3⟩:=G.pairs j b hj
        obtain ⟨p,t,p1,rfl,rfl⟩:=ve j k x e1
        rw [p1]
        show some (TS.vKey h' (.ref b))=some p.1
        rcases QZ (show Yy (Sum.inl p.1) key=true from e2) with ⟨i,t',h1,h2⟩ | ⟨_,_,h1,_⟩
        . cases h1
          subst h2
          simp only [TS.vKey,e3]
          rfl
        . cases h1
  . obtain ⟨as,rfl⟩:∃ as:List Addr,out=as.map .ref:=by
      clear pm so g2
      induction out with
      | nil=>exact ⟨[],rfl⟩
      | cons v out ih =>
        obtain ⟨as,e⟩:=ih fun v hv=>hF v (List.mem_cons_of_mem _ hv)
        obtain ⟨⟨b,rfl,_⟩,_⟩:=hF v List.mem_cons_self
        exact ⟨b::as,by rw [e];rfl⟩
    have sz:s1.heap.objs.size+1<=h1.objs.size:=Heap.lt_size (k1 _ _ (Heap.get?_push_size s1.heap rfl))
    let K:Addr->Int:=fun b=>TS.vKey h1 (.ref b)
    let H':Hp:=fun b=>if b=h1.objs.size then some (.lst (as.map .ref)) else if b∈as then some (.tup [.int (K b),.int (gOf z (K b))]) else H1 b
    have asF:∀ b∈as,s1.heap.objs.size+1<=b/\b < h1.objs.size/\∃ n,TS.PairAt h1 (gOf z) (.ref b) n:=fun b hb=>by
      obtain ⟨⟨b',e,h3⟩,n,p⟩:=hF (.ref b) (List.mem_map.mpr ⟨b,hb,rfl⟩)
      cases e
      refine ⟨h3,?_,n,p⟩
      obtain ⟨a',o',_,_,_,e,e1,_⟩:=p
      cases e
      exact Heap.lt_size e1
    have none1:∀ b,s1.heap.objs.size+1<=b->H1 b=none:=fun b hb=>I1.hok.fresh (by omega)
    have Hl:H' h1.objs.size=some (.lst (as.map .ref)):=if_pos rfl
    have Ha:∀ b∈as,H' b=some (.tup [.int (K b),.int (gOf z (K b))]):=fun b hb=>by
      show (if b=h1.objs.size then _ else _)=_
      rw [if_neg (Nat.ne_of_lt (asF b hb).2.1),if_pos hb]
    have old:∀ b o,H1 b=some o->H' b=some o:=fun b o e=>by
      have lt:b < s1.heap.objs.size:=I1.hok.lt e
      show (if b=h1.objs.size then _ else _)=_
      rw [if_neg (Nat.ne_of_lt (Nat.lt_of_lt_of_le lt (Nat.le_trans (Nat.le_succ _) sz))),if_neg (fun hb=>Nat.lt_irrefl _ (Nat.lt_of_lt_of_le lt (Nat.le_trans (Nat.le_succ _) (asF b hb).1)))];exact e
    have I3:=Inv.layAll (H':=H') (h':=h') (t':=tk) I2 (fun b u e=>k2 b u (k1 b u e)) old (fun b o e=>by
      by_cases hb:b=h1.objs.size
      . subst hb
        rw [Hl] at e;cases e
        refine .inr ⟨by show (s1.heap.push _).objs.size<=_;rw [Heap.size_push];exact sz,?_,as.map .ref,c,?_,g2⟩
        . have:=pm.length_eq
          simp only [List.length_map] at this ⊢
          omega
        . exact jR as
      . by_cases ha:b∈as
        . rw [Ha b ha] at e;cases e
          obtain ⟨f1,f2,n,p⟩:=asF b ha
          have en:K b=n:=TS.vKey_of p
          obtain ⟨a',o',t,u,k,e,e1,e2,e3⟩:=p
          cases e
          refine .inr ⟨by show (s1.heap.push _).objs.size<=_;rw [Heap.size_push];exact f1,Nat.le_of_ble_eq_true rfl,[.int n t,.int (gOf z n) u],?_,o',k2 _ _ e1,e2,k,e3⟩
          rw [en]
          exact .cons ⟨t,rfl⟩ (.cons ⟨u,rfl⟩ .nil)
        . left
          have:(if b=h1.objs.size then some (HO.lst (as.map .ref)) else if b∈as then some (HO.tup [.int (K b),.int (gOf z (K b))]) else H1 b)=some o:=e
          rw [if_neg hb,if_neg ha] at this;exact this)
    let zs:List (Int×Int):=as.map fun b=>(K b,gOf z (K b))
    have km:(as.map Value.ref).map (TS.vKey h1)=zs.map (·.1):=by rw [List.map_map,List.map_map];rfl
    rw [km] at pm so
    have zz:z.map (fun p=>(p.1,gOf z p.1))=z:=by
      conv=>rhs;rw [<- List.map_id z]
      exact List.map_congr_left fun p hp=>by rw [Yu nd p hp];rfl
    have zp:zs.Perm z:=by
      have:=pm.map fun n=>(n,gOf z n)
      rw [show (zs.map (·.1)).map (fun n=>(n,gOf z n))=zs by show ((as.map _).map _).map _=as.map _;rw [List.map_map,List.map_map];rfl,List.map_map] at this
      exact this.trans (by rw [show z.map ((fun n=>(n,gOf z n))∘fun x=>x.1)=z from zz])
    refine ⟨.ref h1.objs.size,H',I3,rfl,q h1.objs.size H' as zs zp (List.pairwise_map.mp so) (none1 _ sz) old Hl (by show as.length=(as.map _).length;rw [List.length_map]) fun m b p hb hp=>?_⟩
    have mb:=List.mem_of_getElem? hb
    have ep:zs[m]?=some (K b,gOf z (K b)):=by show (as.map _)[m]?=_;rw [List.getElem?_map,hb];rfl
    rw [ep] at hp;cases hp
    exact ⟨none1 b (asF b mb).1,Ha b mb⟩
end
end L2
namespace D
open PySem PySem.Spec PyProof.Rows L2
section
variable {X:Cx}
def zOf:List (Key×DV)->Option (List (Int×Int))
 | []=>some []
 | (.inl n,.int m)::r=>(zOf r).map ((n,m) :: ·)
 | _=>none
theorem Vq:∀ {kvs:List (Key×DV)} {z:List (Int×Int)},zOf kvs=some z->kvs=z.map fun p=>(.inl p.1,.int p.2)
  | [],_,h=>by cases h;rfl
  | (.inl n,.int m)::r,z,h=>by
    cases e:zOf r with
    | none=>simp [zOf,e] at h
    | some z' =>
      simp [zOf,e] at h
      subst h
      rw [Vq e];rfl
  | (.inr _,_)::_,_,h=>by simp [zOf] at h
  | (.inl _,.non)::_,_,h=>by simp [zOf] at h
  | (.inl _,.bl _)::_,_,h=>by simp [zOf] at h
  | (.inl _,.str _)::_,_,h=>by simp [zOf] at h
  | (.inl _,.tup _)::_,_,h=>by simp [zOf] at h
  | (.inl _,.lst _)::_,_,h=>by simp [zOf] at h
  | (.inl _,.ref _)::_,_,h=>by simp [zOf] at h
theorem Kq:∀ z:List (Int×Int),zOf (z.map fun p=>(.inl p.1,.int p.2))=some z
 | []=>rfl
 | p::z=>by show (zOf _).map _=_;rw [Kq z];rfl
def V9 (z:List (Int×Int)):List (Int×Int):=z.mergeSort fun p q=>decide (p.1<=q.1)
theorem jP (z:List (Int×Int)):(V9 z).Perm z:=List.mergeSort_perm _ _
theorem Vg (z:List (Int×Int)):(V9 z).Pairwise fun p q=>p.1<=q.1:=by
 have:=List.pairwise_mergeSort (le:=fun p q:Int×Int=>decide (p.1<=q.1)) (fun a b c h1 h2=>by simp at *;omega) (fun a b=>by simp;omega) z
 exact this.imp fun h=>by simpa using h
theorem uZ:∀ {z:List (Int×Int)},(z.map (·.1)).Nodup->∀ p∈z,∀ q∈z,p.1=q.1->p=q:=fun nd p hp q hq e=>by
 have h1:=Yu nd p hp
 have h2:=Yu nd q hq
 rw [e] at h1
 exact Prod.ext e (h1.symm.trans h2)
theorem qt {z zs:List (Int×Int)} (nd:(z.map (·.1)).Nodup) (p:zs.Perm z) (h:zs.Pairwise fun p q=>p.1<=q.1):zs=V9 z :=
 (p.trans (jP z).symm).eq_of_pairwise (fun a b ha hb h1 h2=>uZ nd a (p.mem_iff.mp ha) b ((jP z).mem_iff.mp hb) (Int.le_antisymm h1 h2)) h (Vg z)
theorem vf:∀ {xs:List (Key×V)} {z:List (Int×Int)},xs.map (·.1)=z.map (fun p=>.inl p.1)->xs.map (·.2)=z.map (fun p=>V.int p.2)->xs=z.map fun p=>(.inl p.1,.int p.2)
  | [],[],_,_=>rfl
  | [],_::_,h,_=>by simp at h
  | _::_,[],h,_=>by simp at h
  | (k,v)::xs,p::z,h1,h2=>by
    simp only [List.map_cons,List.cons.injEq] at h1 h2 ⊢
    exact ⟨by rw [h1.1,h2.1],vf h1.2 h2.2⟩
theorem uL (z:List (Int×Int)):Z2 (z.map fun p=>DV.int p.2)=some (z.map (·.2)):=by
 induction z with
 | nil=>rfl
 | cons p z ih=>show (Z2 _).map _=_;rw [ih];rfl
end
end D
namespace L2
open PySem PySem.Spec PyProof.Rows
section
variable {X:Cx}
theorem Gx:bootBuiltins "set" = some (.type "set"):=by with_unfolding_all rfl
theorem Inv.dr {pins:List (Addr×Obj)} {σ:St} {H:Hp} {s:Shared} (I:Inv X pins σ H s) (d:Drawn):Inv X pins σ H { s with drawn:=d } :=
 I.call (h':=s.heap) (g':=s.gens) (d':=d) (t':=s.toks) (ch:=[]) Un.refl I.hok I.bare fun _ z=>nomatch z
theorem VX {x:Expr} {tx:TE} {p p' pos' pos:Pos} (hgl:Gl X "sorted") (hml:X.mg "sorted" = none) (hgs:Gl X "set") (hms:X.mg "set" = none) (hc:X.calm=true) (hx:PE X x tx)
  (hs:starEach [x] X.env=[(false,eval x X.env)]:=by rfl)
  (hs3:starEach [.Call (.Name "set" p') [x] [] pos'] X.env=[(false,eval (.Call (.Name "set" p') [x] [] pos') X.env)]:=by rfl) :
  PE X (.Call (.Name "sorted" p) [.Call (.Name "set" p') [x] [] pos'] [] pos) (fun σ H Q=>tx σ H fun v H1=>∃ (a:Addr) (ns:List Int),v=.ref a/\SqL X.K H1 a (ns.map .int)/\ns.length<=4000/\∀ l,H1 l=none->Q (.ref l) (upd H1 l (.lst ((D.srt (TS.met ns ns.length)).map .int)))):=by
 intro pins s σ H Q I h
 refine wpAny_Call_Name_kw (Yd I hgl hml boot_sorted ?_)
 refine PyProof.Rows.callWith_builtin1 ?_ hs3 rfl
 rw [hs3]
 show wpAny _ _ (spliced ((false,eval (.Call (.Name "set" p') [x] [] pos') X.env)::[])) _ _ s
 refine Calls.spliced_cons (Call_ (Yd I hgs hms Gx (PyProof.Rows.callWith_type1 ?_ hs rfl)))
 rw [hs]
 show wpAny _ _ (spliced ((false,eval x X.env)::[])) _ _ s
 refine Calls.spliced_cons (thn (hx pins s σ H _ I h) fun v s1 ⟨y,H1,I1,r1,q1⟩=>?_)
 obtain ⟨a,ns,rfl,hq,hn,q⟩:=q1
 cases r1
 have hh:X.A.handled=none:=I1.ok.hd hc
 obtain ⟨its,r',pl,z⟩:=I1.list hq
 have hI:=D.XL r'
 have hl:its.length=ns.length:=TS.ints_len hI
 refine Calls.spliced_nil ?_
 refine TS.set_list (items:=its.toArray) (ns:=ns) hh pl.isList (by simpa using hI) (by show its.toArray.size+1 < 4096;rw [List.size_toArray];omega) fun h1 tk g k1=>?_
 have I2:Inv X pins σ H1 { s1 with heap:=h1,toks:=tk }:=I1.kept fun b u e=>k1 b u (Heap.lt_size e) e
 refine Calls.spliced_nil ?_
 have ml:=TS.met_len ns its.toArray.size
 have es:its.toArray.size=ns.length:=by rw [List.size_toArray];exact hl
 rw [es] at g ml
 have hz:(TS.met ns ns.length).length<=sizeLine:=Nat.le_trans ml (Nat.le_trans hn (by decide))
 refine TS.sorted_set hh g hz fun h2 h3 d out ns' c k2 k3 g3 o1 o2 o3=>?_
 obtain rfl:=D.Yg o2 o3
 have I3:Inv X pins σ H1 { s1 with heap:=h2,toks:=tk }:=I2.kept k2
 have hlen:(D.srt (TS.met ns ns.length)).length<=sizeLine:=by rw [(D.JL _).length_eq];exact hz
 exact ⟨.ref h2.objs.size,_,Inv.dr (I3.laid (t':=tk) k3 (Nat.le_refl _) (show ObjOk X.prog X.w _ h3 _ (.lst ((D.srt (TS.met ns ns.length)).map .int)) from ⟨by simpa using hlen,out,c,D.ZZ o1,g3⟩)) d,rfl,q _ (I3.hok.fresh (Nat.le_refl _))⟩
end
end L2
namespace D
open PySem PySem.Spec PyProof.Rows L2
section
variable {X:Cx}
def QcK:DV->M (List Int)
  | .lst ds=>JY (Z2 ds)
  | .ref n=>do
    match <- Q0 n with
    | .lst ds=>JY (Z2 ds)
    | _=>failure
  | _=>failure
def Xk (f:DEx):DEx:=fun env=>do
 let d <- f env
 let ns <- QcK d
 Qz (decide (ns.length<=4000))
 pure (.lst ((srt (TS.met ns ns.length)).map .int))
theorem VG {x:Expr} {f:DEx} {p p' pos' pos:Pos} (hml:X.mg "sorted" = none) (hms:X.mg "set" = none) (hc:X.calm=true) (hx:DE X x f) (hgl:Gl X "sorted" := by rfl) (hgs:Gl X "set" := by rfl)
    (hs:starEach [x] X.env=[(false,eval x X.env)]:=by rfl)
    (hs3:starEach [.Call (.Name "set" p') [x] [] pos'] X.env=[(false,eval (.Call (.Name "set" p') [x] [] pos') X.env)]:=by rfl) :
    DE X (.Call (.Name "sorted" p) [.Call (.Name "set" p') [x] [] pos'] [] pos) (Xk f) :=
  L2.PE.imp (VX hgl hml hgs hms hc hx hs hs3) fun σ H Q ⟨Z,env,ρ,B,hp,d,hp',S,e,k⟩=>by
    obtain ⟨v,hp1,e1,e2⟩:=bind_some e
    obtain ⟨ns,hp2,e3,e4⟩:=bind_some e2
    obtain ⟨_,hp3,e5,e6⟩:=bind_some e4
    obtain ⟨hn,rfl⟩:=Qx e5
    obtain ⟨rfl,rfl⟩:=Qg e6
    refine tD.run S e1 fun v' ρ1 B1 H1 g1 S1 r1=>?_
    have key:hp1=hp2/\∃ p,v'=.ref p/\SqL X.K H1 p (ns.map .int):=by
      cases v with
      | lst zs =>
        obtain ⟨h1,rfl⟩:=ZT e3
        obtain ⟨a,ys,rfl,_,sq,l⟩:=r1.lstI
        exact ⟨rfl,a,rfl,ZQ h1 l▸sq⟩
      | ref n =>
        obtain ⟨o,hp2,e7,e8⟩:=bind_some (show (Q0 n >>= fun o=>(match o with | .lst ds=>JY (Z2 ds) | _=>failure:M (List Int))) hp1=some (ns,_) from e3)
        obtain ⟨e9,rfl⟩:=QX e7
        cases o with
        | lst zs =>
          obtain ⟨h1,rfl⟩:=ZT e8
          obtain ⟨a,rfl,_,ys,h2,l1⟩:=RepV.refW S1.wo r1 e9
          exact ⟨rfl,a,rfl,ZQ h1 l1▸SqL.of h2⟩
        | dic _=>cases e8
        | ins _ _=>cases e8
      | tup _=>cases e3
      | non=>cases e3
      | bl _=>cases e3
      | int _=>cases e3
      | str _=>cases e3
    obtain ⟨rfl,a,rfl,hq⟩:=key
    exact ⟨a,ns,rfl,hq,of_decide_eq_true hn,XI S1.wo (XJ _) (k.after g1)⟩
theorem V7 {f:DEx} {env:En} {hp hp1:Hs} {ns:List Int} (hf:f env hp=some (.lst (ns.map .int),hp1)) (hn:ns.length<=4000):Xk f env hp=some (.lst ((srt (TS.met ns ns.length)).map .int),hp1):=by
 unfold Xk
 rw [Qe hf]
 show (JY (Z2 (ns.map .int)) >>= _) hp1=_
 rw [XD,Qe (show JY (some ns) hp1=some (ns,hp1) from rfl)]
 rw [Qe (show Qz (decide (ns.length<=4000)) hp1=some ((),hp1) by rw [decide_eq_true hn];rfl)];rfl
end
end D
namespace D
open PySem PySem.Spec PyProof.Rows L2
section
variable {X:Cx} {e:Expr} {f:DEx} {pos:Pos}
def slN (d:DV) (lo hi:Option Int):M DV:=match d with
 | .lst ds=>Jx (.lst (qu ds lo hi))
 | _=>failure
def GO (f:DEx) (lo hi:DOx):DEx:=fun env=>do let d <- f env;let l <- lo env;let h <- hi env;slN d l h
theorem Qau {lo hi:Option Expr} {ol oh:DOx} {p2:Pos} (h:DE X e f) (hl:DO X lo ol) (hh:DO X hi oh):DE X (.Subscript e (.Slice lo hi none p2) pos) (GO f ol oh) :=
  L2.PE.imp (yV Kh h hl hh).kf fun σ H Q ⟨Z,env,ρ,B,hp,d,hp',S,e,k⟩=>by
    obtain ⟨x,hp1,e1,e⟩:=bind_some e
    obtain ⟨l,hp2,e2,e⟩:=bind_some e
    obtain ⟨u,hp3,e3,e⟩:=bind_some e
    refine tD.run S e1 fun v ρ1 B1 H1 g1 S1 r1=>tDO.run S1 e2 fun ρ2 B2 H2 g2 S2=>tDO.run S2 e3 fun ρ3 B3 H3 g3 S3=>?_
    have r3:=RepV.grow S1.wo.rb (g2.trans g3) _ _ r1
    cases x with
    | lst ds =>
      cases e
      obtain ⟨a,xs,rfl,nb,sq,rl⟩:=r3.lstI
      exact ⟨a,xs,rfl,sq,xx S3.wo (qS rl) (k.after (g1.trans (g2.trans g3)))⟩
    | tup _=>cases e
    | non=>cases e
    | bl _=>cases e
    | int _=>cases e
    | str _=>cases e
    | ref _=>cases e
theorem Qbt {ol oh:DOx} {env:En} {hp hp1:Hs} {ds:List DV} {lo hi:Option Int} (hf:f env hp=some (.lst ds,hp1)) (hl:ol env hp1=some (lo,hp1)) (hh:oh env hp1=some (hi,hp1)):GO f ol oh env hp=some (.ref hp1.length,hp1++[.lst (qu ds lo hi)]):=by
 unfold GO
 rw [Qe hf,Qe hl,Qe hh];rfl
def xt (f:DEx):DEx:=fun env=>do
 let d <- f env
 onD d fun _ kvs=>do
  let z <- JY (zOf kvs)
  Qz (decide (z.map (·.1)).Nodup)
  Jx (.lst ((V9 z).map fun p=>.tup [.int p.1,.int p.2]))
theorem GE {o:Expr} {fo:DEx} {p apos cpos pos:Pos} (hml:X.mg "sorted" = none) (hc:X.calm=true) (ho:DE X o fo) (hgl:Gl X "sorted" := by rfl)
    (hbase:attributeBase o "items" X.env (eval o X.env)=eval o X.env:=by rfl) (hline:(apos.endLine==cpos.line)=true:=by rfl)
    (hs3:starEach [.Call (.Attribute o "items" apos) [] [] cpos] X.env=[(false,eval (.Call (.Attribute o "items" apos) [] [] cpos) X.env)]:=by rfl) :
    DE X (.Call (.Name "sorted" p) [.Call (.Attribute o "items" apos) [] [] cpos] [] pos) (xt fo) :=
  L2.PE.imp (vJ hgl hml hc ho hbase hline hs3).kf fun σ H Q ⟨Z,env,ρ,B,hp,d,hp',S,e,k⟩=>by
    obtain ⟨x,hp1,e1,ea⟩:=bind_some e
    refine tD.run S e1 fun v ρ1 B1 H1 g1 S1 r1=>?_
    obtain ⟨n,kvs,rfl,e4,e3⟩:=Xr ea
    obtain ⟨z,hp2,e5,e6⟩:=bind_some e3
    obtain ⟨e7,rfl⟩:=ZT e5
    obtain ⟨_,hp3,e8,e9⟩:=bind_some e6
    obtain ⟨nd,rfl⟩:=Qx e8
    cases e9
    have nd:=of_decide_eq_true nd
    have ek:=Vq e7
    subst ek
    obtain ⟨a,rfl,ra⟩:=r1.refI
    obtain ⟨xs,h1,rk⟩:=(S1.wo.obj n a _ ra e4).dic
    have t1:=rk.to.1
    have t2:=rk.to.2
    rw [List.map_map] at t1 t2
    have ex:xs=z.map fun p=>(.inl p.1,.int p.2):=vf (t1.trans rfl) ((ZQ (uL z) t2).trans (by rw [List.map_map];rfl))
    subst ex
    refine ⟨a,z,rfl,h1,nd,fun l H' as zs pm so hl kp Hl len pr=>?_⟩
    obtain rfl:=qt nd pm so
    let H2:Hp:=fun b=>if b=l then none else H' b
    have eH:H'=upd H2 l (.lst (as.map .ref)):=by
      funext b
      by_cases hb:b=l
      . subst hb;rw [QI];exact Hl
      . show H' b=if b=l then _ else _;rw [if_neg hb];exact (if_neg hb).symm
    have n2:H2 l=none:=if_pos rfl
    have k2:∀ c q,H1 c=some q->H2 c=some q:=fun c q z=>by
      show (if c=l then none else H' c)=_
      rw [if_neg (fun zz=>by subst zz;rw [hl] at z;cases z)];exact kp c q z
    have g2:Gr X.K ρ1 B1 H1 ρ1 B1 H2:=Gr.more k2
    have W2:=S1.wo.more k2
    rw [eH]
    refine xx W2 (RepL.of_get (by rw [List.length_map,List.length_map];exact len.symm) fun m d t h2 h3=>?_) (k.after (g1.trans g2)) l n2
    rw [List.getElem?_map] at h2 h3
    cases hz:(V9 z)[m]? with
    | none=>rw [hz] at h2;cases h2
    | some q =>
      cases ha:as[m]? with
      | none=>rw [ha] at h3;cases h3
      | some b =>
        rw [hz] at h2;rw [ha] at h3
        cases h2;cases h3
        obtain ⟨n1,n3⟩:=pr m b q ha hz
        have nb:b≠l:=fun zz=>by subst zz;rw [Hl] at n3;cases n3
        exact XO (fun zz=>S1.wo.bt b zz n1) (SqT.of ((if_neg nb).trans n3)) (RepL.cons Zo (RepL.one Zo))
theorem ug {f:DEx} {env:En} {hp hp1:Hs} {n:Nat} {z:List (Int×Int)} (hf:f env hp=some (.ref n,hp1)) (h:hp1[n]?=some (.dic (z.map fun p=>(.inl p.1,.int p.2)))) (nd:(z.map (·.1)).Nodup):xt f env hp=some (.ref hp1.length,hp1++[.lst ((V9 z).map fun p=>.tup [.int p.1,.int p.2])]):=by
 unfold xt
 rw [Qe hf]
 show (Q0 n >>= _) hp1=_
 rw [Qe (QO h)]
 show (JY (zOf _) >>= _) hp1=_
 rw [Kq,Qe (show JY (some z) hp1=some (z,hp1) from rfl)]
 rw [Qe (show Qz (decide (z.map (·.1)).Nodup) hp1=some ((),hp1) by rw [decide_eq_true nd];rfl)];rfl
end
end D
namespace K42
open PySem PySem.Spec PyProof.Rows L2 D
def top (i:Nat):Stmt:=PySem.Challenge.pw_sidelink_k42_moments_that_fit.main.body.getD i (.Pass ⟨0,0,0,0⟩)
abbrev Z9:Stmt:=Yw (top 5) 1
def XQ:DSx:=Q7 (xt (ZI "Judge" "worths" (Qd 0)))
def Q4:List DV->M DV:=Zm 1 XQ
abbrev JK:Stmt:=Yw (top 5) 3
def YU:DSx:=QB (QP 3 (Qh ixG (Qd 1) (eC (.int 1)))) (QB (sIf (eB (Qh neG (Qd 2) (Zc "dict" JE (ZI "Judge" "worths" (Qd 0)) (Qa (Qd 3) (Qn))))) (Q7 (eC (.bl false))) (Zp)) (QB (sIf (eB (Qh eqG (Qh ixG (Qd 1) (eC (.int 0))) (eC (.str "put")))) (zL (Qh ixG (Qd 1) (eC (.int 2))) (gSb (ZI "Judge" "worths" (Qd 0)) (Qd 3))) (Zp)) (QB (sIf (Ys (eB (Qh eqG (Qh ixG (Qd 1) (eC (.int 0))) (eC (.str "cut")))) (eB (Qh vb (Qd 2) (eC .non)))) (Jp (Zc "dict" jF (ZI "Judge" "worths" (Qd 0)) (Qa (Qd 3) (Qn)))) (Zp)) (Q7 (eC (.bl true))))))
def ZP:List DV->M DV:=Zm 4 YU
abbrev Z5:Stmt:=Yw (top 5) 4
def Q5:DEx:=ZH false (xLs (Xh "Judge" "plain_table" 1 Q4 (Qd 0) Qn)) [5,6] (eB (Z7 leD ltD (Qd 1) (Qh ixG (Qd 0) (eC (.int 0))) (Qd 2))) (Qd 0)
def Xe:DSx:=QB (QP 5 (Zc "dict" JE (ZI "Judge" "begins" (Qd 0)) (Qa (Qd 1) (Qa (Qh ixG (Qd 2) (eC (.int 1))) (Qn))))) (QB (QP 6 (Qh ixG (Qd 2) (eC (.int 2)))) (QB (sIf (eB (Qh isD (Qd 4) (eC .non))) (zL (eC (.bl true)) (gSb (ZI "Judge" "closed" (Qd 0)) (Qd 1))) (QB (sIf (Xj (eB (Z7 ltD ltD (Qd 5) (Qd 4) (Qd 6)))) (Q7 (eC (.bl false))) (Zp)) (QB (zL (Qd 4) (gSb (ZI "Judge" "begins" (Qd 0)) (Qd 1))) (QP 6 (Qd 4))))) (Q7 (Qh eqG (Q1 KO (Qa (Qd 3) (Qn))) (Q5)))))
def Zq:List DV->M DV:=Zm 7 Xe
abbrev YG:Stmt:=Yw (top 5) 2
def j6:DSx:=QB (QP 2 (Qh ixG (Qd 1) (eC (.int 2)))) (QB (sIf (eOr (Xj (eB (Z7 leD ltD (eC (.int 0)) (Qd 2) (Q1 Zx (Qa (ZI "Judge" "deeds" (Qd 0)) (Qn)))))) (eB (Qh inG (Qd 2) (ZI "Judge" "closed" (Qd 0))))) (Q7 (eC (.bl false))) (Zp)) (QB (QP 3 (Qh ixG (ZI "Judge" "deeds" (Qd 0)) (Qd 2))) (QB (sIf (eB (Qh neG (Qh ixG (Qd 1) (eC (.int 0))) (GP [("find", "found"),("put", "put"),("cut", "cut"),("stretch", "read")] (Qh ixG (Qd 3) (eC (.int 0)))))) (Q7 (eC (.bl false))) (Zp)) (QB (sIf (eB (Qh eqG (Qh ixG (Qd 1) (eC (.int 0))) (eC (.str "read")))) (Q7 (Xh "Judge" "fits_stretch" 5 Zq (Qd 0) (Qa (Qd 2) (Qa (Qd 3) (Qa (Qh ixG (Qd 1) (eC (.int 4))) (Qa (Qh ixG (Qd 1) (eC (.int 6))) (Qn))))))) (Zp)) (QB (zL (eC (.bl true)) (gSb (ZI "Judge" "closed" (Qd 0)) (Qd 2))) (Q7 (Xh "Judge" "fits_key" 3 ZP (Qd 0) (Qa (Qd 3) (Qa (Qh ixG (Qd 1) (eC (.int 4))) (Qn))))))))))
def ZD:List DV->M DV:=Zm 4 j6
abbrev jM:Stmt:=top 3
def qh:DEx:=ZH false (xLs (Qd 0)) [] (eB (Qh inG (Qh ixG (Qd 0) (eC (.int 0))) (eC (.tup [.str "found", .str "put", .str "cut", .str "read"])))) (Qd 0)
def Kr:DSx:=Q7 (qh)
def YS:List DV->M DV:=Zm 1 Kr
abbrev JJ:Stmt:=Yw (top 5) 0
def YT:DSx:=QB (Xt "Judge" "deeds" (Qd 0) (Qd 1)) (QB (Xt "Judge" "worths" (Qd 0) (Q1 uR (Qa (Qd 2) (Qn)))) (QB (Xt "Judge" "begins" (Qd 0) (Xi)) (Xt "Judge" "closed" (Qd 0) (Xi))))
def Zt:List DV->M DV:=Zm 3 YT
abbrev y6:Stmt:=top 4
def JT:DSx:=sIf (Xj (eB (Xh "Judge" "fits" 2 ZD (Qd 3) (Qa (Qh ixG (Qd 4) (Qd 5)) (Qn))))) (Q7 (ZJ (Qa (eC (.str "unfit")) (Qa (Qd 5) (Qn))))) (Zp)
def qN:DSx:=Xu (xOf (KF (Qa (Q1 Zx (Qa (Qd 4) (Qn))) (Qn)))) (gN 5) (JT)
def Gv:DSx:=QB (QP 3 (Us "Judge" 3 Zt (Qa (Qd 1) (Qa (Qd 2) (Qn))))) (QB (QP 4 (Qv 1 YS (Qa (Qd 0) (Qn)))) (QB (qN) (Q7 (ZJ (Qa (eC (.str "fits")) (Qa (Xh "Judge" "plain_table" 1 Q4 (Qd 3) Qn) (Qn)))))))
def Yh:List DV->M DV:=Zm 6 Gv
abbrev zN:Stmt:=top 18
def JU:DSx:=sIf (eOr (Xj (eB (qw "tuple" (Qd 2)))) (eOr (eB (qw "bool" (Qh ixG (Qd 2) (eC (.int 0))))) (eB (qw "bool" (Qh ixG (Qd 2) (eC (.int 1))))))) (Q7 (eC (.bl false))) (Zp)
def jU:DSx:=Xu (xLs (Qh ixG (Qd 0) (eC (.int 1)))) (gN 2) (JU)
def Vw:DSx:=QB (sIf (eOr (Xj (eB (qw "tuple" (Qd 0)))) (eOr (eB (Qh neG (Q1 Zx (Qa (Qd 0) (Qn))) (eC (.int 2)))) (eOr (eB (Qh neG (Qh ixG (Qd 0) (eC (.int 0))) (eC (.str "fits")))) (Xj (eB (yE "list" (Qh ixG (Qd 0) (eC (.int 1))))))))) (Q7 (eC (.bl false))) (Zp)) (QB (jU) (Q7 (Qh eqG (Qh ixG (Qd 0) (eC (.int 1))) (Qd 1))))
def Jk:List DV->M DV:=Zm 3 Vw
abbrev qq:Stmt:=top 13
def Jv:DEx:=ZH false (xLs (Q1 YO (Qa (Qd 0) (Qn)))) [0,1,2] (Ys (eB (Qh leD (Qd 2) (Qd 0))) (eB (Qh ltD (Qd 0) (Qd 3)))) (ZJ (Qa (Qd 0) (Qa (Qh ixG (Qd 1) (Qd 0)) (Qn))))
def yp:DSx:=Q7 (Q1 Qbx (Qa (Jv) (Qn)))
def Zz:List DV->M DV:=Zm 3 yp
abbrev qp:Stmt:=top 8
def yo:DSx:=QB (QP 2 (Qh QY (Qh Zv (Qh QY (Qd 0) (eC (.int 982451653))) (Qh Xq (eC (.int 7368787)) (Qh Zv (Qd 1) (eC (.int 1))))) (eC (.int 982451653)))) (QB (QP 2 (Qh Zv (Qh QY (Qh Xq (Qd 2) (Qd 2)) (eC (.int 982451653))) (Qh Xq (eC (.int 3)) (Qd 1)))) (Q7 (Qh QY (Qh Xq (Qd 2) (Qh Zv (Qd 2) (eC (.int 15485863)))) (eC (.int 899809343)))))
def Qm:List DV->M DV:=Zm 3 yo
abbrev zP:Stmt:=top 14
def JM:DEx:=ZH false (xLs (Qd 2)) [6,4] (Ys (eB (Qh ltD (Qd 1) (Qd 0))) (eB (Qh ltD (Qd 0) (Qh ixG (Qd 2) (eC (.int 2)))))) (Qd 0)
def Vy:DSx:=QB (QP 6 (Zc "dict" JE (Qd 1) (Qa (Qd 3) (Qa (Qh ixG (Qd 4) (eC (.int 1))) (Qn))))) (QB (QP 7 (Qh QY (Qv 2 Qm (Qa (Qd 5) (Qa (eC (.int 10)) (Qn)))) (eC (.int 8)))) (QB (QP 8 (Qh QY (Qv 2 Qm (Qa (Qd 5) (Qa (eC (.int 11)) (Qn)))) (eC (.int 40)))) (QB (QP 9 (JM)) (QB (sIf (eOr (eB (Qh eqG (Qd 9) (Je (Qn)))) (eB (Qh eqG (Qh QY (Qv 2 Qm (Qa (Qd 5) (Qa (eC (.int 12)) (Qn)))) (eC (.int 2))) (eC (.int 0))))) (Q7 (ZJ (Qa (eC (.str "read")) (Qa (Qd 7) (Qa (Qd 3) (Qa (Qd 8) (Qa (Qv 3 Zz (Qa (Qd 0) (Qa (Qd 6) (Qa (Qh ixG (Qd 4) (eC (.int 2))) (Qn))))) (Qa (eC .non) (Qa (eC .non) (Qn)))))))))) (Zp)) (QB (zL (Qh ixG (Qd 9) (Qh QY (Qv 2 Qm (Qa (Qd 5) (Qa (eC (.int 13)) (Qn)))) (Q1 Zx (Qa (Qd 9) (Qn))))) (gSb (Qd 1) (Qd 3))) (Q7 (ZJ (Qa (eC (.str "read")) (Qa (Qd 7) (Qa (Qd 3) (Qa (Qd 8) (Qa (Qv 3 Zz (Qa (Qd 0) (Qa (Qd 6) (Qa (Qh ixG (Qd 1) (Qd 3)) (Qn))))) (Qa (Qh QY (Qv 2 Qm (Qa (Qd 5) (Qa (eC (.int 14)) (Qn)))) (eC (.int 40))) (Qa (Qh ixG (Qd 1) (Qd 3)) (Qn)))))))))))))))
def X0:List DV->M DV:=Zm 10 Vy
abbrev YI:Stmt:=top 15
def j8:DSx:=QB (QP 6 (Qh QY (Qv 2 Qm (Qa (Qd 5) (Qa (eC (.int 10)) (Qn)))) (eC (.int 8)))) (QB (QP 7 (Qh QY (Qv 2 Qm (Qa (Qd 5) (Qa (eC (.int 11)) (Qn)))) (eC (.int 40)))) (QB (sIf (eB (Qh eqG (Qh ixG (Qd 4) (eC (.int 0))) (eC (.str "stretch")))) (Q7 (Qv 6 X0 (Qa (Qd 0) (Qa (Qd 1) (Qa (Qd 2) (Qa (Qd 3) (Qa (Qd 4) (Qa (Qd 5) (Qn))))))))) (Zp)) (QB (QP 8 (Zc "dict" JE (Qd 0) (Qa (Qh ixG (Qd 4) (eC (.int 1))) (Qn)))) (QB (sIf (eB (Qh eqG (Qh ixG (Qd 4) (eC (.int 0))) (eC (.str "find")))) (Q7 (ZJ (Qa (eC (.str "found")) (Qa (Qd 6) (Qa (Qd 3) (Qa (Qd 7) (Qa (Qd 8) (Qn)))))))) (Zp)) (QB (sIf (eB (Qh eqG (Qh ixG (Qd 4) (eC (.int 0))) (eC (.str "cut")))) (QB (Jp (Zc "dict" jF (Qd 0) (Qa (Qh ixG (Qd 4) (eC (.int 1))) (Qa (eC .non) (Qn))))) (Q7 (ZJ (Qa (eC (.str "cut")) (Qa (Qd 6) (Qa (Qd 3) (Qa (Qd 7) (Qa (Qd 8) (Qn))))))))) (Zp)) (QB (zL (Qh ixG (Qd 4) (eC (.int 2))) (gSb (Qd 0) (Qh ixG (Qd 4) (eC (.int 1))))) (Q7 (ZJ (Qa (eC (.str "put")) (Qa (Qd 6) (Qa (Qd 3) (Qa (Qd 7) (Qa (Qd 8) (Qa (Qh ixG (Je (Qa (eC .non) (Qa (Qh QY (Qv 2 Qm (Qa (Qd 5) (Qa (eC (.int 12)) (Qn)))) (eC (.int 40))) (Qn)))) (Qh QY (Qv 2 Qm (Qa (Qd 5) (Qa (eC (.int 13)) (Qn)))) (eC (.int 2)))) (Qn)))))))))))))))
def Jb:List DV->M DV:=Zm 9 j8
abbrev YH:Stmt:=top 16
def j7:DSx:=QB (QP 2 (Qh QY (Qv 2 Qm (Qa (Qd 0) (Qa (eC (.int 15)) (Qn)))) (eC (.int 8)))) (QB (QP 3 (Qh QY (Qv 2 Qm (Qa (Qd 0) (Qa (eC (.int 16)) (Qn)))) (eC (.int 40)))) (QB (QP 4 (Je (Qa (ZJ (Qa (eC (.str "rest")) (Qa (Qd 2) (Qn)))) (Qa (ZJ (Qa (eC (.str "take")) (Qa (Qd 2) (Qa (Qd 1) (Qn))))) (Qa (ZJ (Qa (eC (.str "side")) (Qa (Qd 2) (Qa (Qd 1) (Qa (Qd 3) (Qa (Qh Zv (Qd 3) (eC (.int 1))) (Qn))))))) (Qa (ZJ (Qa (eC (.str "down")) (Qa (Qd 2) (Qa (Qd 1) (Qa (Qd 3) (Qa (eC (.int 3)) (Qn))))))) (Qn))))))) (Q7 (Qh Zv (Qd 4) (Je (Qa (ZJ (Qa (eC (.str "told")) (Qa (Qd 2) (Qa (Qd 1) (Qa (Qd 3) (Qa (eC .non) (Qn))))))) (Qa (ZJ (Qa (eC (.str "raised")) (Qa (Qd 2) (Qa (Qd 1) (Qa (Qd 3) (Qa (eC (.int 7)) (Qn))))))) (Qn))))))))
def ZE:List DV->M DV:=Zm 5 j7
abbrev YJ:Stmt:=top 9
def j9:DSx:=QB (QP 2 (Qv 2 Qm (Qa (Qd 0) (Qa (Qh Zv (Qd 1) (eC (.int 1))) (Qn))))) (QB (sIf (eB (Qh eqD (Qh QY (Qv 2 Qm (Qa (Qd 0) (Qa (Qd 1) (Qn)))) (eC (.int 4))) (eC (.int 0)))) (Q7 (Qh ixD (Je (Qa (Qh J8 (eC (.int 10)) (eC (.int 30))) (Qa (YZ (Qh J8 (eC (.int 10)) (eC (.int 30)))) (Qa (eC (.int 0)) (Qa (Qh qg (eC (.int 1)) (Qh J8 (eC (.int 10)) (eC (.int 30)))) (Qn)))))) (Qh QY (Qd 2) (eC (.int 4))))) (Zp)) (QB (sIf (eB (Qh eqD (Qh QY (Qv 2 Qm (Qa (Qd 0) (Qa (Qd 1) (Qn)))) (eC (.int 4))) (eC (.int 1)))) (Q7 (Qh qg (Qh QY (Qh Zv (Qh Zv (Qh Xq (Qd 2) (Qh J8 (eC (.int 10)) (eC (.int 22)))) (Qh Xq (Qv 2 Qm (Qa (Qd 0) (Qa (Qh Zv (Qd 1) (eC (.int 2))) (Qn)))) (Qh J8 (eC (.int 10)) (eC (.int 13))))) (Qd 2)) (Qh Zv (Qh Xq (eC (.int 2)) (Qh J8 (eC (.int 10)) (eC (.int 30)))) (eC (.int 1)))) (Qh J8 (eC (.int 10)) (eC (.int 30))))) (Zp)) (Q7 (Qh qg (Qh QY (Qd 2) (eC (.int 9))) (eC (.int 4))))))
def Zf:List DV->M DV:=Zm 3 j9
abbrev zM:Stmt:=top 12
def Vv:DSx:=QB (QP 2 (Qh QY (Qv 2 Qm (Qa (Qd 0) (Qa (eC (.int 1)) (Qn)))) (eC (.int 8)))) (QB (sIf (eB (Qh gtD (Qd 2) (eC (.int 5)))) (QB (QP 4 (Qh QY (Qv 2 Qm (Qa (Qd 0) (Qa (eC (.int 2)) (Qn)))) (Qh qg (Q1 Zx (Qa (Qd 1) (Qn))) (eC (.int 1))))) (QB (QP 5 (Qh Zv (Qh Zv (Qd 4) (eC (.int 1))) (Qh QY (Qv 2 Qm (Qa (Qd 0) (Qa (eC (.int 3)) (Qn)))) (Qh qg (Qh qg (Q1 Zx (Qa (Qd 1) (Qn))) (eC (.int 1))) (Qd 4))))) (Q7 (ZJ (Qa (eC (.str "stretch")) (Qa (Qh ixG (Qd 1) (Qd 4)) (Qa (Qh ixG (Qd 1) (Qd 5)) (Qn)))))))) (Zp)) (QB (QP 3 (Qh ixG (Qd 1) (Qh QY (Qv 2 Qm (Qa (Qd 0) (Qa (eC (.int 2)) (Qn)))) (Q1 Zx (Qa (Qd 1) (Qn)))))) (QB (sIf (eB (Qh ltD (Qd 2) (eC (.int 2)))) (Q7 (ZJ (Qa (eC (.str "find")) (Qa (Qd 3) (Qn))))) (Zp)) (QB (sIf (eB (Qh eqG (Qd 2) (eC (.int 5)))) (Q7 (ZJ (Qa (eC (.str "cut")) (Qa (Qd 3) (Qn))))) (Zp)) (Q7 (ZJ (Qa (eC (.str "put")) (Qa (Qd 3) (Qa (Qv 2 Zf (Qa (Qd 0) (Qa (eC (.int 4)) (Qn)))) (Qn))))))))))
def Jj:List DV->M DV:=Zm 6 Vv
abbrev zQ:Stmt:=top 17
def ZK:DSx:=QB (QP 9 (Zc "dict" JE (Qd 5) (Qa (Qd 8) (Qa (Qh ixG (Qh ixG (Qd 3) (Qd 8)) (eC (.int 1))) (Qn))))) (sIf (eB (Qh eqG (Qh ixG (Qh ixG (Qd 3) (Qd 8)) (eC (.int 0))) (eC (.str "stretch")))) (Jp (Zc "list" Z1 (Qd 4) (Qa (ZJ (Qa (eC (.str "read")) (Qa (eC (.int 0)) (Qa (Qd 8) (Qa (eC (.int 0)) (Qa (Qv 3 Zz (Qa (Qd 2) (Qa (Qd 9) (Qa (Qh ixG (Qh ixG (Qd 3) (Qd 8)) (eC (.int 2))) (Qn))))) (Qa (eC .non) (Qa (eC .non) (Qn))))))))) (Qn)))) (Zp))
def Yj:DSx:=Xu (xLs (Qd 6)) (gN 8) (ZK)
def Jf:DSx:=QB (sIf (eOr (eB (Qh eqG (Qd 6) (Je (Qn)))) (eB (Qh gtD (Qh QY (Qv 2 Qm (Qa (Qd 7) (Qa (eC (.int 20)) (Qn)))) (eC (.int 3))) (eC (.int 0))))) (QB (Jp (Zc "list" Z1 (Qd 6) (Qa (Q1 Zx (Qa (Qd 3) (Qn))) (Qn)))) (Jp (Zc "list" Z1 (Qd 3) (Qa (Qv 2 Jj (Qa (Qd 7) (Qa (Qd 1) (Qn)))) (Qn))))) (Zp)) (QB (QP 8 (Qh ixG (Qd 6) (Qh QY (Qv 2 Qm (Qa (Qd 7) (Qa (eC (.int 21)) (Qn)))) (Q1 Zx (Qa (Qd 6) (Qn)))))) (QB (Jp (Zc "list" YB (Qd 4) (Qa (GO (Qv 2 ZE (Qa (Qd 7) (Qa (Qd 8) (Qn)))) (U3) (J5 (Qh QY (Qv 2 Qm (Qa (Qd 7) (Qa (eC (.int 22)) (Qn)))) (eC (.int 7))))) (Qn)))) (QB (Jp (Zc "list" Z1 (Qd 4) (Qa (Qv 6 Jb (Qa (Qd 2) (Qa (Qd 5) (Qa (Qd 1) (Qa (Qd 8) (Qa (Qh ixG (Qd 3) (Qd 8)) (Qa (Qd 7) (Qn)))))))) (Qn)))) (sIf (eOr (eB (Qh neG (Qh ixG (Qh ixG (Qd 4) (YZ (eC (.int 1)))) (eC (.int 0))) (eC (.str "read")))) (eB (Qh isD (Qh ixG (Qh ixG (Qd 4) (YZ (eC (.int 1)))) (eC (.int 6))) (eC .non)))) (Jp (Zc "list" YC (Qd 6) (Qa (Qd 8) (Qn)))) (Zp)))))
def jV:DSx:=Xu (xLs (Qd 0)) (gN 7) (Jf)
def Vz:DSx:=QB (QP 4 (yF (Qn))) (QB (QP 5 (Xi)) (QB (QP 6 (yF (Qn))) (QB (jV) (QB (Yj) (Q7 (Qd 4))))))
def X1:List DV->M DV:=Zm 10 Vz
abbrev XY:Stmt:=top 7
def Jy:DSx:=QB (sIf (eB (Qh ltD (Qd 1) (Q1 KM (Qa (Qd 0) (Qn))))) (Q7 (Qh ixD (Qd 0) (Qd 1))) (Zp)) (Q7 (eC (.int 0)))
def Zj:List DV->M DV:=Zm 2 Jy
abbrev qr:Stmt:=top 11
def Z0:DSx:=sIf (eB (Qh eqG (Qh QY (Qv 2 Qm (Qa (Qd 0) (Qa (Qh Zv (eC (.int 40)) (Qd 3)) (Qn)))) (eC (.int 2))) (eC (.int 0)))) (zL (Qv 2 Zf (Qa (Qd 0) (Qa (Qh Zv (eC (.int 60)) (Qh Xq (eC (.int 4)) (Qd 3))) (Qn)))) (gSb (Qd 2) (Qh ixG (Qd 1) (Qd 3)))) (Zp)
def XR:DSx:=Xu (xOf (KF (Qa (Q1 Zx (Qa (Qd 1) (Qn))) (Qn)))) (gN 3) (Z0)
def yq:DSx:=QB (QP 2 (Xi)) (QB (XR) (Q7 (Qd 2)))
def Xb:List DV->M DV:=Zm 4 yq
abbrev zO:Stmt:=top 10
def JV:DSx:=QB (QP 3 (Qv 2 Zf (Qa (Qd 0) (Qa (Qh Zv (eC (.int 1)) (Qh Xq (eC (.int 4)) (Qd 2))) (Qn))))) (QB (y0 1 (Qd 3)) (sIf (eB (Qh eqG (Qh QY (Qv 2 Qm (Qa (Qd 0) (Qa (Qh Zv (eC (.int 4)) (Qh Xq (eC (.int 4)) (Qd 2))) (Qn)))) (eC (.int 2))) (eC (.int 0)))) (y0 1 (Q1 gC (Qa (Qh Zv (Qd 3) (eC (.int 1))) (Qa (Qh J8 (eC (.int 10)) (eC (.int 30))) (Qn))))) (Zp)))
def Yi:DSx:=Xu (xOf (KF (Qa (Qh Zv (eC (.int 2)) (Qh QY (Qv 2 Qm (Qa (Qd 0) (Qa (eC (.int 0)) (Qn)))) (eC (.int 4)))) (Qn)))) (gN 2) (JV)
def Vx:DSx:=QB (kq 1) (QB (Yi) (QB (JI 1 (QP 1 (Xk (Qd 1)))) (QB (JI 1 (sIf (eB (Qh eqG (Q1 Zx (Qa (Qd 1) (Qn))) (eC (.int 1)))) (JI 1 (QP 1 (Q1 YO (Qa (Je (Qa (Qh ixG (Qd 1) (eC (.int 0))) (Qa (eC (.int 5)) (Qn)))) (Qn))))) (Zp))) (QB (JI 1 (sIf (eB (Qh eqG (Qh ixG (Qd 1) (eC (.int 0))) (Qh ixG (Qd 1) (YZ (eC (.int 1)))))) (JI 1 (QP 1 (Je (Qa (Qh ixG (Qd 1) (eC (.int 0))) (Qa (Qh Zv (Qh ixG (Qd 1) (eC (.int 0))) (eC (.int 1))) (Qn)))))) (Zp))) (JI 1 (Q7 (Qd 1)))))))
def XZ:List DV->M DV:=Zm 4 Vx
abbrev qo:Stmt:=top 19
def jT:DEx:=ZH false (xLs (Q1 YO (Qa (Qd 2) (Qn)))) [2] (kG) (ZJ (Qa (Qd 0) (Qa (Qh ixG (Qd 1) (Qd 0)) (Qn))))
def uA:DEx:=ZH false (xLs (Q1 YO (Qa (Qd 2) (Qn)))) [2] (kG) (ZJ (Qa (Qd 0) (Qa (Qh ixG (Qd 1) (Qd 0)) (Qn))))
def QbC:DSx:=QB (QP 1 (Qv 1 XZ (Qa (Qv 2 Zj (Qa (Qd 0) (Qa (eC (.int 0)) (Qn)))) (Qn)))) (QB (QP 2 (Qv 2 Xb (Qa (Qv 2 Zj (Qa (Qd 0) (Qa (eC (.int 1)) (Qn)))) (Qa (Qd 1) (Qn))))) (QB (QP 3 (uA)) (QB (QP 4 (yF (Qn))) (QB (QP 5 (Qv 4 X1 (Qa (eSl (Qd 0) (J5 (eC (.int 2))) (J5 (eC (.int 252)))) (Qa (Qd 1) (Qa (Qd 2) (Qa (Qd 4) (Qn))))))) (QB (QP 6 (jT)) (QB (QP 7 (Je (Qa (Q1 KO (Qa (Qd 5) (Qn))) (Qa (Q1 KO (Qa (Qd 4) (Qn))) (Qa (Q1 KO (Qa (Qd 3) (Qn))) (Qn)))))) (QB (QP 8 (Qv 3 Yh (Qa (Qh ixG (Qd 7) (eC (.int 0))) (Qa (Qh ixG (Qd 7) (eC (.int 1))) (Qa (Qh ixG (Qd 7) (eC (.int 2))) (Qn)))))) (QB (sIf (eOr (Xj (eB (Qv 2 Jk (Qa (Qd 8) (Qa (Qd 6) (Qn)))))) (eB (Qh neG (Qd 7) (Je (Qa (Qd 5) (Qa (Qd 4) (Qa (Qd 3) (Qn)))))))) (Q7 (eC (.bl false))) (Zp)) (QB (Jp (Zc "list" xO (Qh ixG (Qd 8) (eC (.int 1))) Qn)) (Q7 (jw (Qv 2 Jk (Qa (Qv 3 Yh (Qa (Qh ixG (Qd 7) (eC (.int 0))) (Qa (Qh ixG (Qd 7) (eC (.int 1))) (Qa (Qh ixG (Qd 7) (eC (.int 2))) (Qn))))) (Qa (Qd 6) (Qn)))) (Qh eqG (Qd 7) (Je (Qa (Qd 5) (Qa (Qd 4) (Qa (Qd 3) (Qn)))))))))))))))))
def yh:List DV->M DV:=Zm 9 QbC
structure Al (K:PySem.W.Frag) (mg:Str->Option Value):Prop where
 z0:mg "sorted" = none
 z1:mg "list" = none
 z2:mg "len" = none
 z3:mg "dict" = none
 z4:mg "range" = none
 z5:mg "isinstance" = none
 z6:mg "tuple" = none
 z7:mg "bool" = none
 z8:mg "set" = none
 z9:mg "min" = none
 t0:UT K mg "MOMENT_WORDS" (.tup [.str "found", .str "put", .str "cut", .str "read"])
 d0:uF K mg "WORD_OF_DEED" [("find", "found"),("put", "put"),("cut", "cut"),("stretch", "read")]
 k0:Vr K "Judge" "worths"
 k1:Vr K "Judge" "closed"
 k2:Vr K "Judge" "begins"
 k3:Vr K "Judge" "deeds"
 u0:UM K "Judge" "plain_table" "Judge.plain_table" Z9
 u1:UM K "Judge" "fits_key" "Judge.fits_key" JK
 u2:UM K "Judge" "fits_stretch" "Judge.fits_stretch" Z5
 u3:UM K "Judge" "fits" "Judge.fits" YG
 u4:UF K mg "moments" jM
 u5:UI K mg "Judge" "Judge.__init__" JJ
 u6:UF K mg "judged" y6
 u7:UF K mg "_law_fits" zN
 u8:UF K mg "_law_pairs" qq
 u9:UF K mg "_law_dealt" qp
 u10:UF K mg "_law_read" zP
 u11:UF K mg "_law_moment" YI
 u12:UF K mg "_law_beside" YH
 u13:UF K mg "_law_number" YJ
 u14:UF K mg "_law_deed" zM
 u15:UF K mg "_law_rows" zQ
 u16:UF K mg "_law_cell_at" XY
 u17:UF K mg "_law_table" qr
 u18:UF K mg "_law_pool" zO
theorem Xv:QC ["self"] ["self"] (Qo Z9):=ZC
theorem YL:QC ["self", "deed", "worth", "key"] ["self", "deed", "worth"] (Qo JK):=ZC
theorem Xa:QC ["self", "number", "deed", "pairs", "aim", "begin", "end"] ["self", "number", "deed", "pairs", "aim"] (Qo Z5):=ZC
theorem jh:QC ["self", "row", "number", "deed"] ["self", "row"] (Qo YG):=ZC
theorem V5:QC ["rows"] ["rows"] (Qo jM):=ZC
theorem YK:QC ["self", "deeds", "table"] ["self", "deeds", "table"] (Qo JJ):=ZC
theorem K9:QC ["rows", "deeds", "table", "judge", "told", "number"] ["rows", "deeds", "table"] (Qo y6):=ZC
theorem y9:QC ["found", "due", "pair"] ["found", "due"] (Qo zN):=ZC
theorem xY:QC ["plain", "begin", "end"] ["plain", "begin", "end"] (Qo qq):=ZC
theorem xX:QC ["cell", "k", "stir"] ["cell", "k"] (Qo qp):=ZC
theorem Vb:QC ["plain", "aims", "pool", "deed", "asked", "cell", "begin", "hand", "page", "inner"] ["plain", "aims", "pool", "deed", "asked", "cell"] (Qo zP):=ZC
theorem jj:QC ["plain", "aims", "pool", "deed", "asked", "cell", "hand", "page", "old"] ["plain", "aims", "pool", "deed", "asked", "cell"] (Qo YI):=ZC
theorem ji:QC ["cell", "deed", "hand", "page", "some"] ["cell", "deed"] (Qo YH):=ZC
theorem jl:QC ["cell", "k", "number"] ["cell", "k"] (Qo YJ):=ZC
theorem y8:QC ["cell", "pool", "kind", "key", "at", "to"] ["cell", "pool"] (Qo zM):=ZC
theorem Vc:QC ["cells", "pool", "plain", "deeds", "rows", "aims", "waits", "cell", "deed", "begin"] ["cells", "pool", "plain", "deeds"] (Qo zQ):=ZC
theorem zR:QC ["script", "k"] ["script", "k"] (Qo XY):=ZC
theorem xZ:QC ["cell", "pool", "plain", "k"] ["cell", "pool"] (Qo qr):=ZC
theorem Va:QC ["cell", "some", "k", "key"] ["cell"] (Qo zO):=ZC
theorem sc_law:QC ["script", "pool", "plain", "table", "deeds", "rows", "due", "handed", "found"] ["script"] (Qo qo):=ZC
section
variable {P:Program} {w:World} {K:PySem.W.Frag} {mg:Str->Option Value} {base:Heap} (Z:Al K mg)
include Z
theorem ZN:yi P w K mg base "Judge" "plain_table" 1 1 Q4:=hM Z.u0 Xv fun s _ _ _ _ _ _ _ hr=>Qs (QF (GE Z.z0 rfl (Jm Z.k0 (Qc 0))))
theorem Yb:yi P w K mg base "Judge" "fits_key" 1 3 ZP:=hM Z.u1 YL fun s _ _ _ _ _ _ _ hr=>Qk (QE 3 s (Qt (Qw hr) (Qc 1) Qj)) (Qk (Zb (QM (jJ hr.units) (Qc 2) (ZR (zr (Qw hr)) PySem.F.plainAttrs_dict PySem.F.slot_dict_get PySem.F.type_dict_get (Jm Z.k0 (Qc 0)) (Qb (Qc 3) Ql)) (QJ _)) (Qs (QF XS)) QN) (Qk (Zb (QM (ZO hr.units) (Qt (Qw hr) (Qc 1) Qj) Q2 (QJ _)) (Qs (X5 (Qt (Qw hr) (Qc 1) Qj) (X4 (Qw hr) (Jm Z.k0 (Qc 0)) (Qc 3)))) QN) (Qk (Zb (DW.pt (VH (QM (ZO hr.units) (Qt (Qw hr) (Qc 1) Qj) Q2 (QJ _)) (xq (QM Qb7 (Qc 2) JA (QJ _))))) (Qs (Jc (ZR vn PySem.F.plainAttrs_dict PySem.F.slot_dict_pop PySem.F.type_dict_pop (Jm Z.k0 (Qc 0)) (Qb (Qc 3) Ql)))) QN) (Qs (QF XS)))))
theorem JR:yi P w K mg base "Judge" "fits_stretch" 2 5 Zq:=hM Z.u2 Xa fun s _ _ _ _ _ _ _ hr=>Qk (QE 5 s (ZR (zr (Qw hr)) PySem.F.plainAttrs_dict PySem.F.slot_dict_get PySem.F.type_dict_get (Jm Z.k2 (Qc 0)) (Qb (Qc 1) (Qb (Qt (Qw hr) (Qc 2) Qj) Ql)))) (Qk (QE 6 s (Qt (Qw hr) (Qc 2) Qj)) (Qk (Zb (QM Qb6 (Qc 4) JA (QJ _)) (Qs (X5 XS (X4 (Qw hr) (Jm Z.k1 (Qc 0)) (Qc 1)))) (Qk (Zb (X6 (qZ xS xS (Qc 5) (Qc 4) (Qc 6))) (Qs (QF XS)) QN) (Qk (X5 (Qc 4) (X4 (Qw hr) (Jm Z.k2 (Qc 0)) (Qc 1))) (Qs (QE 6 s (Qc 4)))))) (Qs (QF (VF (ZO hr.units) (jr xa Z.z1 boot_list (Qb (Qc 3) Ql)) (qT (caps:=["begin", "end"]) (idx:=[5,6]) ⟨by with_unfolding_all rfl,by decide +kernel,rfl,by decide +kernel,rfl,(by exact ⟨rfl,⟨rfl,trivial⟩⟩),by with_unfolding_all rfl,(by exact ⟨rfl,.inl rfl,⟨_,rfl⟩,(fun h=>NameKind.noConfusion (Option.some.inj (show some NameKind.cell=some NameKind.local from h))),⟨rfl,.inl rfl,⟨_,rfl⟩,(fun h=>NameKind.noConfusion (Option.some.inj (show some NameKind.cell=some NameKind.local from h))),trivial⟩⟩),by decide⟩ rfl (Jd (yx (ZN Z) hr (by decide) QG (Qc 0))) (fun _ _ _ _=>qC (qZ Qa3 xS (Qc 1) (Qt (Qw hr) (Qc 0) Qj) (Qc 2))) (fun _ _ _ _=>Qc 0)) (QJ _))))))
theorem zc:yi P w K mg base "Judge" "fits" 3 2 ZD:=hM Z.u3 jh fun s _ _ _ _ _ _ _ hr=>Qk (QE 2 s (Qt (Qw hr) (Qc 1) Qj)) (Qk (Zb (DW.pt (XT (X6 (qZ Qa3 xS Qj (Qc 2) (Zr Jl Z.z2 PySem.boot_len (Qb (Jm Z.k3 (Qc 0)) Ql)))) (X7 (QM (k7 (Qw hr)) (Qc 2) (Jm Z.k1 (Qc 0)) (by with_unfolding_all rfl))))) (Qs (QF XS)) QN) (Qk (QE 3 s (Qt (Qw hr) (Jm Z.k3 (Qc 0)) (Qc 2))) (Qk (Zb (QM (jJ hr.units) (Qt (Qw hr) (Qc 1) Qj) (Qav Z.d0 (Qt (Qw hr) (Qc 3) Qj)) (QJ _)) (Qs (QF XS)) QN) (Qk (Zb (QM (ZO hr.units) (Qt (Qw hr) (Qc 1) Qj) Q2 (QJ _)) (Qs (QF (xg (JR Z) hr (by decide) QG (Qc 0) (Qb (Qc 2) (Qb (Qc 3) (Qb (Qt (Qw hr) (Qc 1) Qj) (Qb (Qt (Qw hr) (Qc 1) Qj) Ql))))))) QN) (Qk (X5 XS (X4 (Qw hr) (Jm Z.k1 (Qc 0)) (Qc 2))) (Qs (QF (xg (Yb Z) hr (by decide) QG (Qc 0) (Qb (Qc 3) (Qb (Qt (Qw hr) (Qc 1) Qj) Ql))))))))))
theorem yK:Has P w K mg base "moments" 1 1 YS:=hf Z.u4 V5 fun s _ _ _ _ _ _ _ hr=>let ⟨_,g_MOMENT_WORDS,q_MOMENT_WORDS⟩:=Z.t0.ex;Qs (QF (qT (caps:=[]) (idx:=[]) ⟨by with_unfolding_all rfl,by decide +kernel,rfl,by decide +kernel,rfl,(by exact trivial),by with_unfolding_all rfl,(by exact trivial),by decide⟩ rfl (Jd (Qc 0)) (fun _ _ _ _=>qC (QM (k7 (Qw hr)) (Qt (Qw hr) (Qc 0) Qj) (uM rfl g_MOMENT_WORDS q_MOMENT_WORDS) (by with_unfolding_all rfl))) (fun _ _ _ _=>Qc 0)))
theorem Ya:uB P w K mg base "Judge" 1 3 Zt:=hI Z.u5 YK fun s _ _ _ _ _ _ _ hr=>Qk (xp Z.k3 (Qc 0) (Qc 1)) (Qk (xp Z.k0 (Qc 0) (jr (uJ rfl) Z.z3 boot_dict (Qb (Qc 2) Ql))) (Qk (xp Z.k2 (Qc 0) Yp) (Qs (xp Z.k1 (Qc 0) Yp))))
theorem zd:Has P w K mg base "judged" 4 3 Yh:=hf Z.u6 K9 fun s _ _ _ _ _ _ _ hr=>Qk (QE 3 s (uO (Ya Z) hr (by decide) QG (Qb (Qc 1) (Qb (Qc 2) Ql)))) (Qk (QE 4 s (Qy (yK Z) hr (by decide) QG (Qb (Qc 0) Ql))) (Qk (XF PassesOwn.never rfl (GL (YW rfl Z.z4 (Qb (Zr Jl Z.z2 PySem.boot_len (Qb (Qc 4) Ql)) Ql))) (XE 5 s) (Qs (Zb (X6 (Yr (xg (zc Z) hr (by decide) QG (Qc 3) (Qb (Qt (Qw hr) (Qc 4) (Qc 5)) Ql)))) (Qs (QF (Zd (Qb Q2 (Qb (Qc 5) Ql))))) QN))) (Qs (QF (Zd (Qb Q2 (Qb (yx (ZN Z) hr (by decide) QG (Qc 3)) Ql)))))))
theorem Yv:Has P w K mg base "_law_fits" 1 2 Jk:=hf Z.u7 y9 fun s _ _ _ _ _ _ _ hr=>Qk (Zb (DW.pt (XT (X6 (Yr (xf Z.z5 Z.z6 boot_tuple (by decide) (Qc 0)))) (XT (QM (jJ hr.units) (Zr Jl Z.z2 PySem.boot_len (Qb (Qc 0) Ql)) Qj (QJ _)) (XT (QM (jJ hr.units) (Qt (Qw hr) (Qc 0) Qj) Q2 (QJ _)) (X7 (X6 (Yr (uN Z.z5 Z.z1 boot_list (by decide) (Qt (Qw hr) (Qc 0) Qj))))))))) (Qs (QF XS)) QN) (Qk (XF PassesOwn.never rfl (Jd (Qt (Qw hr) (Qc 0) Qj)) (XE 2 s) (Qs (Zb (DW.pt (XT (X6 (Yr (xf Z.z5 Z.z6 boot_tuple (by decide) (Qc 2)))) (XT (Yr (xf Z.z5 Z.z7 boot_bool (by decide) (Qt (Qw hr) (Qc 2) Qj))) (X7 (Yr (xf Z.z5 Z.z7 boot_bool (by decide) (Qt (Qw hr) (Qc 2) Qj))))))) (Qs (QF XS)) QN))) (Qs (QF (VF (ZO hr.units) (Qt (Qw hr) (Qc 0) Qj) (Qc 1) (QJ _)))))
theorem JB:Has P w K mg base "_law_pairs" 1 3 Zz:=hf Z.u8 xY fun s _ _ _ _ _ _ _ hr=>Qs (QF (jr Gz Z.z6 boot_tuple (Qb (qT (caps:=["plain", "begin", "end"]) (idx:=[0,1,2]) ⟨by with_unfolding_all rfl,by decide +kernel,rfl,by decide +kernel,rfl,(by exact ⟨rfl,⟨rfl,⟨rfl,trivial⟩⟩⟩),by with_unfolding_all rfl,(by exact ⟨rfl,.inl rfl,⟨_,rfl⟩,(fun h=>NameKind.noConfusion (Option.some.inj (show some NameKind.cell=some NameKind.local from h))),⟨rfl,.inl rfl,⟨_,rfl⟩,(fun h=>NameKind.noConfusion (Option.some.inj (show some NameKind.cell=some NameKind.local from h))),⟨rfl,.inl rfl,⟨_,rfl⟩,(fun h=>NameKind.noConfusion (Option.some.inj (show some NameKind.cell=some NameKind.local from h))),trivial⟩⟩⟩),by decide⟩ rfl (Jd (Zr (XC rfl) Z.z0 boot_sorted (Qb (Qc 0) Ql))) (fun _ _ _ _=>qC (DW.pt (VH (QM Qa3 (Qc 2) (Qc 0) (QJ _)) (xq (QM xS (Qc 0) (Qc 3) (QJ _)))))) (fun _ _ _ _=>Zd (Qb (Qc 0) (Qb (Qt (Qw hr) (Qc 1) (Qc 0)) Ql)))) Ql)))
theorem Qr:Has P w K mg base "_law_dealt" 1 2 Qm:=hf Z.u9 xX fun s _ _ _ _ _ _ _ hr=>Qk (QE 2 s (Qq Q9 (Qq ZB (Qq Q9 (Qc 0) Qj) (Qq XX Qj (Qq ZB (Qc 1) Qj))) Qj)) (Qk (QE 2 s (Qq ZB (Qq Q9 (Qq XX (Qc 2) (Qc 2)) Qj) (Qq XX Qj (Qc 1)))) (Qs (QF (Qq Q9 (Qq XX (Qc 2) (Qq ZB (Qc 2) Qj)) Qj))))
theorem xC:Has P w K mg base "_law_read" 2 6 X0:=hf6 Z.u10 Vb fun s _ _ _ _ _ _ _ hr=>Qk (QE 6 s (ZR (zr (Qw hr)) PySem.F.plainAttrs_dict PySem.F.slot_dict_get PySem.F.type_dict_get (Qc 1) (Qb (Qc 3) (Qb (Qt (Qw hr) (Qc 4) Qj) Ql)))) (Qk (QE 7 s (Qq Q9 (Qy (Qr Z) hr (by decide) QG (Qb (Qc 5) (Qb Qj Ql))) Qj)) (Qk (QE 8 s (Qq Q9 (Qy (Qr Z) hr (by decide) QG (Qb (Qc 5) (Qb Qj Ql))) Qj)) (Qk (qY 9 s (caps:=["begin", "asked"]) (idx:=[6,4]) ⟨by with_unfolding_all rfl,by decide +kernel,rfl,by decide +kernel,rfl,(by exact ⟨rfl,⟨rfl,trivial⟩⟩),by with_unfolding_all rfl,(by exact ⟨rfl,.inl rfl,⟨_,rfl⟩,(fun h=>NameKind.noConfusion (Option.some.inj (show some NameKind.cell=some NameKind.local from h))),⟨rfl,.inl rfl,⟨_,rfl⟩,(fun h=>NameKind.noConfusion (Option.some.inj (show some NameKind.cell=some NameKind.local from h))),trivial⟩⟩),by decide⟩ rfl (Jd (Qc 2)) (fun _ _ _ _=>qC (DW.pt (VH (QM xS (Qc 1) (Qc 0) (QJ _)) (xq (QM xS (Qc 0) (Qt (Qw hr) (Qc 2) Qj) (QJ _)))))) (fun _ _ _ _=>Qc 0)) (Qk (Zb (DW.pt (XT (QM (ZO hr.units) (Qc 9) (Jn Ql) (QJ _)) (X7 (QM (ZO hr.units) (Qq Q9 (Qy (Qr Z) hr (by decide) QG (Qb (Qc 5) (Qb Qj Ql))) Qj) Qj (QJ _))))) (Qs (QF (Zd (Qb Q2 (Qb (Qc 7) (Qb (Qc 3) (Qb (Qc 8) (Qb (Qy (JB Z) hr (by decide) QG (Qb (Qc 0) (Qb (Qc 6) (Qb (Qt (Qw hr) (Qc 4) Qj) Ql)))) (Qb JA (Qb JA Ql)))))))))) QN) (Qk (X5 (Qt (Qw hr) (Qc 9) (Qq Q9 (Qy (Qr Z) hr (by decide) QG (Qb (Qc 5) (Qb Qj Ql))) (Zr Jl Z.z2 PySem.boot_len (Qb (Qc 9) Ql)))) (X4 (Qw hr) (Qc 1) (Qc 3))) (Qs (QF (Zd (Qb Q2 (Qb (Qc 7) (Qb (Qc 3) (Qb (Qc 8) (Qb (Qy (JB Z) hr (by decide) QG (Qb (Qc 0) (Qb (Qc 6) (Qb (Qt (Qw hr) (Qc 1) (Qc 3)) Ql)))) (Qb (Qq Q9 (Qy (Qr Z) hr (by decide) QG (Qb (Qc 5) (Qb Qj Ql))) Qj) (Qb (Qt (Qw hr) (Qc 1) (Qc 3)) Ql)))))))))))))))
theorem zf:Has P w K mg base "_law_moment" 3 6 Jb:=hf6 Z.u11 jj fun s _ _ _ _ _ _ _ hr=>Qk (QE 6 s (Qq Q9 (Qy (Qr Z) hr (by decide) QG (Qb (Qc 5) (Qb Qj Ql))) Qj)) (Qk (QE 7 s (Qq Q9 (Qy (Qr Z) hr (by decide) QG (Qb (Qc 5) (Qb Qj Ql))) Qj)) (Qk (Zb (QM (ZO hr.units) (Qt (Qw hr) (Qc 4) Qj) Q2 (QJ _)) (Qs (QF (Qy (xC Z) hr (by decide) QG (Qb (Qc 0) (Qb (Qc 1) (Qb (Qc 2) (Qb (Qc 3) (Qb (Qc 4) (Qb (Qc 5) Ql))))))))) QN) (Qk (QE 8 s (ZR (zr (Qw hr)) PySem.F.plainAttrs_dict PySem.F.slot_dict_get PySem.F.type_dict_get (Qc 0) (Qb (Qt (Qw hr) (Qc 4) Qj) Ql))) (Qk (Zb (QM (ZO hr.units) (Qt (Qw hr) (Qc 4) Qj) Q2 (QJ _)) (Qs (QF (Zd (Qb Q2 (Qb (Qc 6) (Qb (Qc 3) (Qb (Qc 7) (Qb (Qc 8) Ql)))))))) QN) (Qk (Zb (QM (ZO hr.units) (Qt (Qw hr) (Qc 4) Qj) Q2 (QJ _)) (Qk (Jc (ZR vn PySem.F.plainAttrs_dict PySem.F.slot_dict_pop PySem.F.type_dict_pop (Qc 0) (Qb (Qt (Qw hr) (Qc 4) Qj) (Qb JA Ql)))) (Qs (QF (Zd (Qb Q2 (Qb (Qc 6) (Qb (Qc 3) (Qb (Qc 7) (Qb (Qc 8) Ql))))))))) QN) (Qk (X5 (Qt (Qw hr) (Qc 4) Qj) (X4 (Qw hr) (Qc 0) (Qt (Qw hr) (Qc 4) Qj))) (Qs (QF (Zd (Qb Q2 (Qb (Qc 6) (Qb (Qc 3) (Qb (Qc 7) (Qb (Qc 8) (Qb (Qt (Qw hr) (Jn (Qb JA (Qb (Qq Q9 (Qy (Qr Z) hr (by decide) QG (Qb (Qc 5) (Qb Qj Ql))) Qj) Ql))) (Qq Q9 (Qy (Qr Z) hr (by decide) QG (Qb (Qc 5) (Qb Qj Ql))) Qj)) Ql)))))))))))))))
theorem ze:Has P w K mg base "_law_beside" 2 2 ZE:=hf Z.u12 ji fun s _ _ _ _ _ _ _ hr=>Qk (QE 2 s (Qq Q9 (Qy (Qr Z) hr (by decide) QG (Qb (Qc 0) (Qb Qj Ql))) Qj)) (Qk (QE 3 s (Qq Q9 (Qy (Qr Z) hr (by decide) QG (Qb (Qc 0) (Qb Qj Ql))) Qj)) (Qk (QE 4 s (Jn (Qb (Zd (Qb Q2 (Qb (Qc 2) Ql))) (Qb (Zd (Qb Q2 (Qb (Qc 2) (Qb (Qc 1) Ql)))) (Qb (Zd (Qb Q2 (Qb (Qc 2) (Qb (Qc 1) (Qb (Qc 3) (Qb (Qq ZB (Qc 3) Qj) Ql)))))) (Qb (Zd (Qb Q2 (Qb (Qc 2) (Qb (Qc 1) (Qb (Qc 3) (Qb Qj Ql)))))) Ql)))))) (Qs (QF (Qq ZB (Qc 4) (Jn (Qb (Zd (Qb Q2 (Qb (Qc 2) (Qb (Qc 1) (Qb (Qc 3) (Qb JA Ql)))))) (Qb (Zd (Qb Q2 (Qb (Qc 2) (Qb (Qc 1) (Qb (Qc 3) (Qb Qj Ql)))))) Ql))))))))
theorem Jo:Has P w K mg base "_law_number" 2 2 Zf:=hf Z.u13 jl fun s _ _ _ _ _ _ _ hr=>Qk (QE 2 s (Qy (Qr Z) hr (by decide) QG (Qb (Qc 0) (Qb (Qq ZB (Qc 1) Qj) Ql)))) (Qk (Zb (QM (Qb4 hr.units) (Qq Q9 (Qy (Qr Z) hr (by decide) QG (Qb (Qc 0) (Qb (Qc 1) Ql))) Qj) Qj (QJ _)) (Qs (QF (kR (Jn (Qb (Qq qm Qj Qj) (Qb (xh (Qq qm Qj Qj)) (Qb Qj (Qb (Qq jK Qj (Qq qm Qj Qj)) Ql))))) (Qq Q9 (Qc 2) Qj)))) QN) (Qk (Zb (QM (Qb4 hr.units) (Qq Q9 (Qy (Qr Z) hr (by decide) QG (Qb (Qc 0) (Qb (Qc 1) Ql))) Qj) Qj (QJ _)) (Qs (QF (Qq jK (Qq Q9 (Qq ZB (Qq ZB (Qq XX (Qc 2) (Qq qm Qj Qj)) (Qq XX (Qy (Qr Z) hr (by decide) QG (Qb (Qc 0) (Qb (Qq ZB (Qc 1) Qj) Ql))) (Qq qm Qj Qj))) (Qc 2)) (Qq ZB (Qq XX Qj (Qq qm Qj Qj)) Qj)) (Qq qm Qj Qj)))) QN) (Qs (QF (Qq jK (Qq Q9 (Qc 2) Qj) Qj)))))
theorem xA:Has P w K mg base "_law_deed" 3 2 Jj:=hf Z.u14 y8 fun s _ _ _ _ _ _ _ hr=>Qk (QE 2 s (Qq Q9 (Qy (Qr Z) hr (by decide) QG (Qb (Qc 0) (Qb Qj Ql))) Qj)) (Qk (Zb (QM Qb5 (Qc 2) Qj (QJ _)) (Qk (QE 4 s (Qq Q9 (Qy (Qr Z) hr (by decide) QG (Qb (Qc 0) (Qb Qj Ql))) (Qq jK (Zr Jl Z.z2 PySem.boot_len (Qb (Qc 1) Ql)) Qj))) (Qk (QE 5 s (Qq ZB (Qq ZB (Qc 4) Qj) (Qq Q9 (Qy (Qr Z) hr (by decide) QG (Qb (Qc 0) (Qb Qj Ql))) (Qq jK (Qq jK (Zr Jl Z.z2 PySem.boot_len (Qb (Qc 1) Ql)) Qj) (Qc 4))))) (Qs (QF (Zd (Qb Q2 (Qb (Qt (Qw hr) (Qc 1) (Qc 4)) (Qb (Qt (Qw hr) (Qc 1) (Qc 5)) Ql)))))))) QN) (Qk (QE 3 s (Qt (Qw hr) (Qc 1) (Qq Q9 (Qy (Qr Z) hr (by decide) QG (Qb (Qc 0) (Qb Qj Ql))) (Zr Jl Z.z2 PySem.boot_len (Qb (Qc 1) Ql))))) (Qk (Zb (QM xS (Qc 2) Qj (QJ _)) (Qs (QF (Zd (Qb Q2 (Qb (Qc 3) Ql))))) QN) (Qk (Zb (QM (ZO hr.units) (Qc 2) Qj (QJ _)) (Qs (QF (Zd (Qb Q2 (Qb (Qc 3) Ql))))) QN) (Qs (QF (Zd (Qb Q2 (Qb (Qc 3) (Qb (Qy (Jo Z) hr (by decide) QG (Qb (Qc 0) (Qb Qj Ql))) Ql))))))))))
theorem xD:Has P w K mg base "_law_rows" 4 4 X1:=hf Z.u15 Vc fun s _ _ _ _ _ _ _ hr=>Qk (QE 4 s (xi Ql)) (Qk (QE 5 s Yp) (Qk (QE 6 s (xi Ql)) (Qk (XF PassesOwn.never rfl (Jd (Qc 0)) (XE 7 s) (Qk (Zb (DW.pt (XT (QM (ZO hr.units) (Qc 6) (Jn Ql) (QJ _)) (X7 (QM Qb5 (Qq Q9 (Qy (Qr Z) hr (by decide) QG (Qb (Qc 7) (Qb Qj Ql))) Qj) Qj (QJ _))))) (Qk (Jc (ZR YD PySem.F.plainAttrs_list PySem.F.slot_list_append PySem.F.type_list_append (Qc 6) (Qb (Zr Jl Z.z2 PySem.boot_len (Qb (Qc 3) Ql)) Ql))) (Qs (Jc (ZR YD PySem.F.plainAttrs_list PySem.F.slot_list_append PySem.F.type_list_append (Qc 3) (Qb (Qy (xA Z) hr (by decide) QG (Qb (Qc 7) (Qb (Qc 1) Ql))) Ql))))) QN) (Qk (QE 8 s (Qt (Qw hr) (Qc 6) (Qq Q9 (Qy (Qr Z) hr (by decide) QG (Qb (Qc 7) (Qb Qj Ql))) (Zr Jl Z.z2 PySem.boot_len (Qb (Qc 6) Ql))))) (Qk (Jc (ZR vo PySem.F.plainAttrs_list PySem.F.slot_list_extend PySem.F.type_list_extend (Qc 4) (Qb (Qau (Qy (ze Z) hr (by decide) QG (Qb (Qc 7) (Qb (Qc 8) Ql))) uS (xl (Qq Q9 (Qy (Qr Z) hr (by decide) QG (Qb (Qc 7) (Qb Qj Ql))) Qj))) Ql))) (Qk (Jc (ZR YD PySem.F.plainAttrs_list PySem.F.slot_list_append PySem.F.type_list_append (Qc 4) (Qb (Qy (zf Z) hr (by decide) QG (Qb (Qc 2) (Qb (Qc 5) (Qb (Qc 1) (Qb (Qc 8) (Qb (Qt (Qw hr) (Qc 3) (Qc 8)) (Qb (Qc 7) Ql))))))) Ql))) (Qs (Zb (DW.pt (XT (QM (jJ hr.units) (Qt (Qw hr) (Qt (Qw hr) (Qc 4) (xh Qj)) Qj) Q2 (QJ _)) (X7 (QM Qb6 (Qt (Qw hr) (Qt (Qw hr) (Qc 4) (xh Qj)) Qj) JA (QJ _))))) (Qs (Jc (ZR vp PySem.F.plainAttrs_list PySem.F.slot_list_remove PySem.F.type_list_remove (Qc 6) (Qb (Qc 8) Ql)))) QN))))))) (Qk (XF PassesOwn.never rfl (Jd (Qc 6)) (XE 8 s) (Qk (QE 9 s (ZR (zr (Qw hr)) PySem.F.plainAttrs_dict PySem.F.slot_dict_get PySem.F.type_dict_get (Qc 5) (Qb (Qc 8) (Qb (Qt (Qw hr) (Qt (Qw hr) (Qc 3) (Qc 8)) Qj) Ql)))) (Qs (Zb (QM (ZO hr.units) (Qt (Qw hr) (Qt (Qw hr) (Qc 3) (Qc 8)) Qj) Q2 (QJ _)) (Qs (Jc (ZR YD PySem.F.plainAttrs_list PySem.F.slot_list_append PySem.F.type_list_append (Qc 4) (Qb (Zd (Qb Q2 (Qb Qj (Qb (Qc 8) (Qb Qj (Qb (Qy (JB Z) hr (by decide) QG (Qb (Qc 2) (Qb (Qc 9) (Qb (Qt (Qw hr) (Qt (Qw hr) (Qc 3) (Qc 8)) Qj) Ql)))) (Qb JA (Qb JA Ql)))))))) Ql)))) QN)))) (Qs (QF (Qc 4)))))))
theorem J4:Has P w K mg base "_law_cell_at" 1 2 Zj:=hf Z.u16 zR fun s _ _ _ _ _ _ _ hr=>Qk (Zb (QM xS (Qc 1) (Zr kP Z.z2 PySem.boot_len (Qb (Qc 0) Ql)) (QJ _)) (Qs (QF (kR (Qc 0) (Qc 1)))) QN) (Qs (QF Qj))
theorem jd:Has P w K mg base "_law_table" 3 2 Xb:=hf Z.u17 xZ fun s _ _ _ _ _ _ _ hr=>Qk (QE 2 s Yp) (Qk (XF PassesOwn.never rfl (GL (YW rfl Z.z4 (Qb (Zr Jl Z.z2 PySem.boot_len (Qb (Qc 1) Ql)) Ql))) (XE 3 s) (Qs (Zb (QM (ZO hr.units) (Qq Q9 (Qy (Qr Z) hr (by decide) QG (Qb (Qc 0) (Qb (Qq ZB Qj (Qc 3)) Ql))) Qj) Qj (QJ _)) (Qs (X5 (Qy (Jo Z) hr (by decide) QG (Qb (Qc 0) (Qb (Qq ZB Qj (Qq XX Qj (Qc 3))) Ql))) (X4 (Qw hr) (Qc 2) (Qt (Qw hr) (Qc 1) (Qc 3))))) QN))) (Qs (QF (Qc 2))))
theorem xB:Has P w K mg base "_law_pool" 3 1 XZ:=hf Z.u18 Va fun s _ _ _ _ _ _ _ hr=>Qk (Qax 1 s) (Qk (XF PassesOwn.never rfl (GL (YW rfl Z.z4 (Qb (Qq ZB Qj (Qq Q9 (Qy (Qr Z) hr (by decide) QG (Qb (Qc 0) (Qb Qj Ql))) Qj)) Ql))) (XE 2 s) (Qk (QE 3 s (Qy (Jo Z) hr (by decide) QG (Qb (Qc 0) (Qb (Qq ZB Qj (Qq XX Qj (Qc 2))) Ql)))) (Qk (GI 1 (Qc 3)) (Qs (Zb (QM (ZO hr.units) (Qq Q9 (Qy (Qr Z) hr (by decide) QG (Qb (Qc 0) (Qb (Qq ZB Qj (Qq XX Qj (Qc 2))) Ql))) Qj) Qj (QJ _)) (Qs (GI 1 (Zr (QbG rfl) Z.z9 boot_min (Qb (Qq ZB (Qc 3) Qj) (Qb (Qq qm Qj Qj) Ql))))) QN))))) (Qk (YY 1 (QE 1 s (VG Z.z0 Z.z8 rfl (Qc 1)))) (Qk (YY 1 (Zb (QM (ZO hr.units) (Zr Jl Z.z2 PySem.boot_len (Qb (Qc 1) Ql)) Qj (QJ _)) (Qs (YY 1 (QE 1 s (Zr (XC rfl) Z.z0 boot_sorted (Qb (Jn (Qb (Qt (Qw hr) (Qc 1) Qj) (Qb Qj Ql))) Ql))))) QN)) (Qk (YY 1 (Zb (QM (ZO hr.units) (Qt (Qw hr) (Qc 1) Qj) (Qt (Qw hr) (Qc 1) (xh Qj)) (QJ _)) (Qs (YY 1 (QE 1 s (Jn (Qb (Qt (Qw hr) (Qc 1) Qj) (Qb (Qq ZB (Qt (Qw hr) (Qc 1) Qj) Qj) Ql)))))) QN)) (Qs (YY 1 (QF (Qc 1))))))))
theorem law_fn {g:Addr} {fd:FuncData} (F:Fun K "law" "law" qo g fd):Xc P w K mg base CX0 5 g fd ["script"] (spD K 1 yh):=QbN F sc_law fun _ _ _ _ _ _ hr=>have s:=sc_law.nd;Qk (QE 1 s (Qy (xB Z) hr (by decide) QG (Qb (Qy (J4 Z) hr (by decide) QG (Qb (Qc 0) (Qb Qj Ql))) Ql))) (Qk (QE 2 s (Qy (jd Z) hr (by decide) QG (Qb (Qy (J4 Z) hr (by decide) QG (Qb (Qc 0) (Qb Qj Ql))) (Qb (Qc 1) Ql)))) (Qk (qY 3 s (caps:=["plain"]) (idx:=[2]) ⟨by with_unfolding_all rfl,by decide +kernel,rfl,by decide +kernel,rfl,(by exact ⟨rfl,trivial⟩),by with_unfolding_all rfl,(by exact ⟨rfl,.inl rfl,⟨_,rfl⟩,(fun h=>NameKind.noConfusion (Option.some.inj (show some NameKind.cell=some NameKind.local from h))),trivial⟩),by decide⟩ rfl (Jd (Zr (XC rfl) Z.z0 boot_sorted (Qb (Qc 2) Ql))) (fun _ _ _ _=>Ur) (fun _ _ _ _=>Zd (Qb (Qc 0) (Qb (Qt (Qw hr) (Qc 1) (Qc 0)) Ql)))) (Qk (QE 4 s (xi Ql)) (Qk (QE 5 s (Qy (xD Z) hr (by decide) QG (Qb (QbI (Qc 0) (xl Qj) (xl Qj)) (Qb (Qc 1) (Qb (Qc 2) (Qb (Qc 4) Ql)))))) (Qk (qY 6 s (caps:=["plain"]) (idx:=[2]) ⟨by with_unfolding_all rfl,by decide +kernel,rfl,by decide +kernel,rfl,(by exact ⟨rfl,trivial⟩),by with_unfolding_all rfl,(by exact ⟨rfl,.inl rfl,⟨_,rfl⟩,(fun h=>NameKind.noConfusion (Option.some.inj (show some NameKind.cell=some NameKind.local from h))),trivial⟩),by decide⟩ rfl (Jd (Zr (XC rfl) Z.z0 boot_sorted (Qb (Qc 2) Ql))) (fun _ _ _ _=>Ur) (fun _ _ _ _=>Zd (Qb (Qc 0) (Qb (Qt (Qw hr) (Qc 1) (Qc 0)) Ql)))) (Qk (QE 7 s (Jn (Qb (jr xa Z.z1 boot_list (Qb (Qc 5) Ql)) (Qb (jr xa Z.z1 boot_list (Qb (Qc 4) Ql)) (Qb (jr xa Z.z1 boot_list (Qb (Qc 3) Ql)) Ql))))) (Qk (QE 8 s (Qy (zd Z) hr (by decide) QG (Qb (Qt (Qw hr) (Qc 7) Qj) (Qb (Qt (Qw hr) (Qc 7) Qj) (Qb (Qt (Qw hr) (Qc 7) Qj) Ql))))) (Qk (Zb (DW.pt (XT (X6 (Yr (Qy (Yv Z) hr (by decide) QG (Qb (Qc 8) (Qb (Qc 6) Ql))))) (X7 (QM (jJ hr.units) (Qc 7) (Jn (Qb (Qc 5) (Qb (Qc 4) (Qb (Qc 3) Ql)))) (QJ _))))) (Qs (QF XS)) QN) (Qk (Jc (uP gy PySem.F.plainAttrs_list PySem.F.slot_list_clear PySem.F.type_list_clear (Qt (Qw hr) (Qc 8) Qj))) (Qs (QF (Qas (Qy (Yv Z) hr (by decide) QG (Qb (Qy (zd Z) hr (by decide) QG (Qb (Qt (Qw hr) (Qc 7) Qj) (Qb (Qt (Qw hr) (Qc 7) Qj) (Qb (Qt (Qw hr) (Qc 7) Qj) Ql)))) (Qb (Qc 6) Ql))) (Qat (VF (ZO hr.units) (Qc 7) (Jn (Qb (Qc 5) (Qb (Qc 4) (Qb (Qc 3) Ql)))) (QJ _)))))))))))))))
end
theorem Qcf:J8 (.int 10) (.int 22)=pure (.int 10000000000000000000000):=rfl
theorem Qce:J8 (.int 10) (.int 13)=pure (.int 10000000000000):=rfl
def stir (c k:Int):Int:=(c % 982451653+7368787 * (k+1)) % 982451653
def Qu (c k:Int):Int:=(stir c k * stir c k % 982451653+3 * k) * (stir c k * stir c k % 982451653+3 * k+15485863) % 899809343
theorem yy (c k:Int):0<=Qu c k:=Int.emod_nonneg _ (by decide)
theorem yz (c k:Int):Qu c k < 899809343:=Int.emod_lt_of_pos _ (by decide)
theorem Zw (c k:Int) (h0:0<=k) (h1:k<=1000):Qm [.int c,.int k]=pure (.int (Qu c k)):=by
 have s0:0<=stir c k:=Int.emod_nonneg _ (by decide)
 have s1:stir c k < 982451653:=Int.emod_lt_of_pos _ (by decide)
 have q0:0<=stir c k * stir c k % 982451653:=Int.emod_nonneg _ (by decide)
 have q1:stir c k * stir c k % 982451653 < 982451653:=Int.emod_lt_of_pos _ (by decide)
 refine qJ (env:=[.val (.int c),.val (.int k),.val (.int (stir c k * stir c k % 982451653+3 * k))]) ?_
 refine (Ju (xW (d:=.int (stir c k)) ?_)).trans ((Ju (xW (d:=.int (stir c k * stir c k % 982451653+3 * k)) ?_)).trans (qL ?_))
 ·refine QS (x:=.int (c % 982451653+7368787 * (k+1))) (y:=.int 982451653) ?_ rfl (Q6 _ _ (by decide))
  refine QS (x:=.int (c % 982451653)) (y:=.int (7368787 * (k+1))) (QS (x:=.int c) (y:=.int 982451653) rfl rfl (Q6 _ _ (by decide))) (QS (x:=.int 7368787) (y:=.int (k+1)) rfl rfl (JX _ _ (by decide) (by decide))) rfl
 ·refine QS (x:=.int (stir c k * stir c k % 982451653)) (y:=.int (3 * k)) (QS (x:=.int (stir c k * stir c k)) (y:=.int 982451653) (QS (x:=.int (stir c k)) (y:=.int (stir c k)) rfl rfl (JX _ _ (by omega) (by omega))) rfl (Q6 _ _ (by decide))) (QS (x:=.int 3) (y:=.int k) rfl rfl (JX _ _ (by decide) (by decide))) rfl
 ·refine QS (x:=.int ((stir c k * stir c k % 982451653+3 * k) * (stir c k * stir c k % 982451653+3 * k+15485863))) (y:=.int 899809343) (QS (x:=.int (stir c k * stir c k % 982451653+3 * k)) (y:=.int (stir c k * stir c k % 982451653+3 * k+15485863)) rfl rfl (JX _ _ (by omega) (by omega))) rfl (Q6 _ _ (by decide))
theorem GG (c k m:Int) (t:En) (h0:0<=k) (h1:k<=1000) (hm:0 < m):Qh QY (Qv 2 Qm (Qa (Qd 0) (Qa (eC (.int k)) Qn))) (eC (.int m)) (.val (.int c)::t)=pure (.int (Qu c k % m)) :=
 QS (x:=.int (Qu c k)) (y:=.int m) (xr (x:=.int c) (y:=.int k) rfl rfl (Zw c k h0 h1)) rfl (Q6 _ _ hm)
def drawn (c k:Int):Int:=if Qu c k % 4=0 then ([1000000000000000000000000000000,-1000000000000000000000000000000,0,1 - 1000000000000000000000000000000]:List Int).getD (Qu c (k+1) % 4).toNat 0 else if Qu c k % 4=1 then (Qu c (k+1) * 10000000000000000000000+Qu c (k+2) * 10000000000000+Qu c (k+1)) % (2 * 1000000000000000000000000000000+1) - 1000000000000000000000000000000 else Qu c (k+1) % 9 - 4
theorem qX (c k:Int) (h0:0<=k) (h1:k<=900):Zf [.int c,.int k]=pure (.int (drawn c k)):=by
 have d0:=Zw c k h0 (by omega)
 have d1:=Zw c (k+1) (by omega) (by omega)
 have d2:=Zw c (k+2) (by omega) (by omega)
 have g1:=yy c (k+1);have l1:=yz c (k+1)
 have g2:=yy c (k+2);have l2:=yz c (k+2)
 have t:∀ (j:Int) (v:Sl),eB (Qh eqD (Qh QY (Qv 2 Qm (Qa (Qd 0) (Qa (Qd 1) Qn))) (eC (.int 4))) (eC (.int j))) [.val (.int c),.val (.int k),v]=pure (decide (Qu c k % 4=j)):=fun j v =>
  QbJ (QS (x:=.int (Qu c k % 4)) (y:=.int j) (QS (x:=.int (Qu c k)) (y:=.int 4) (xr (x:=.int c) (y:=.int k) rfl rfl d0) rfl (Q6 _ _ (by decide))) rfl (xu _ _))
 have s1:QP 2 (Qv 2 Qm (Qa (Qd 0) (Qa (Qh Zv (Qd 1) (eC (.int 1))) Qn))) [.val (.int c),.val (.int k),.un]=pure (.nx,[.val (.int c),.val (.int k),.val (.int (Qu c (k+1)))]) :=
  xW (xr (x:=.int c) (y:=.int (k+1)) rfl rfl d1)
 unfold drawn
 by_cases h:Qu c k % 4=0
 ·rw [if_pos h]
  refine qJ (env:=[.val (.int c),.val (.int k),.val (.int (Qu c (k+1)))]) ((Ju s1).trans (Kf ((Qae ((t 0 _).trans (by rw [decide_eq_true h]))).trans (qL ?_))))
  have m4:=Jg (Qu c (k+1)) 4 (by decide)
  have a:=Ym [1000000000000000000000000000000,-1000000000000000000000000000000,0,1 - 1000000000000000000000000000000] (i:=Qu c (k+1) % 4) m4.1 m4.2
  exact QS (x:=.lst [.int 1000000000000000000000000000000,.int (-1000000000000000000000000000000),.int 0,.int (1 - 1000000000000000000000000000000)]) (y:=.int (Qu c (k+1) % 4)) rfl (QS (x:=.int (Qu c (k+1))) (y:=.int 4) rfl rfl (Q6 _ _ (by decide))) (JS a)
 ·rw [if_neg h]
  have e1:=(Qad (f:=Q7 (Qh ixD (Je (Qa (Qh J8 (eC (.int 10)) (eC (.int 30))) (Qa (YZ (Qh J8 (eC (.int 10)) (eC (.int 30)))) (Qa (eC (.int 0)) (Qa (Qh qg (eC (.int 1)) (Qh J8 (eC (.int 10)) (eC (.int 30)))) Qn))))) (Qh QY (Qd 2) (eC (.int 4))))) (g:=Zp) ((t 0 (.val (.int (Qu c (k+1))))).trans (by rw [decide_eq_false h]))).trans (rfl:Zp _=pure (.nx,_))
  by_cases h':Qu c k % 4=1
  ·rw [if_pos h']
   refine qJ (env:=[.val (.int c),.val (.int k),.val (.int (Qu c (k+1)))]) ((Ju s1).trans ((Ju e1).trans (Kf ((Qae ((t 1 _).trans (by rw [decide_eq_true h']))).trans (qL ?_)))))
   refine QS (x:=.int _) (y:=.int 1000000000000000000000000000000) (QS (x:=.int (Qu c (k+1) * 10000000000000000000000+Qu c (k+2) * 10000000000000+Qu c (k+1))) (y:=.int (2 * 1000000000000000000000000000000+1)) ?_ ?_ (Q6 _ _ (by decide))) U7 (YQ _ _)
   ·refine QS (x:=.int (Qu c (k+1) * 10000000000000000000000+Qu c (k+2) * 10000000000000)) (y:=.int (Qu c (k+1))) (QS (x:=.int (Qu c (k+1) * 10000000000000000000000)) (y:=.int (Qu c (k+2) * 10000000000000)) (QS (x:=.int (Qu c (k+1))) (y:=.int 10000000000000000000000) rfl Qcf (JX _ _ (by omega) (by omega))) (QS (x:=.int (Qu c (k+2))) (y:=.int 10000000000000) (xr (x:=.int c) (y:=.int (k+2)) rfl rfl d2) Qce (JX _ _ (by omega) (by omega))) rfl) rfl rfl
   ·exact QS (x:=.int (2 * 1000000000000000000000000000000)) (y:=.int 1) (QS (x:=.int 2) (y:=.int 1000000000000000000000000000000) rfl U7 (JX _ _ (by decide) (by decide))) rfl rfl
  ·rw [if_neg h']
   refine qJ (env:=[.val (.int c),.val (.int k),.val (.int (Qu c (k+1)))]) ((Ju s1).trans ((Ju e1).trans ((Ju ((Qad ((t 1 _).trans (by rw [decide_eq_false h']))).trans rfl)).trans (qL ?_))))
   exact QS (x:=.int (Qu c (k+1) % 9)) (y:=.int 4) (QS (x:=.int (Qu c (k+1))) (y:=.int 9) rfl rfl (Q6 _ _ (by decide))) rfl (YQ _ _)
theorem yj {f:DEx} {g:DAx} {env:En} {x:DV} {xs:List DV} {hp hp1 hp2:Hs} (h:f env hp=some (x,hp1)) (h':g env hp1=some (xs,hp2)):Qa f g env hp=some (x::xs,hp2):=by
 unfold Qa
 rw [Qe h,Qe h'];rfl
abbrev Zs:=List (Int×Int)
def zK (z:Zs):List Int:=z.map (·.1)
def zE (z:Zs):List (Key×DV):=z.map fun p=>(.inl p.1,.int p.2)
def Rise (z:Zs):Prop:=z.Pairwise fun p q=>p.1 < q.1
def vk (z:Zs) (k:Int):Zs:=z.filter fun p=>decide (p.1 < k)
def ur (z:Zs) (k:Int):Zs:=z.filter fun p=>decide (k < p.1)
def zI (z:Zs) (k:Int) (n:Zs):Zs:=vk z k++n++ur z k
theorem Rise.keys {z:Zs} (h:Rise z):(zK z).Pairwise (· < ·):=List.pairwise_map.mpr h
theorem UX {z:Zs} {k:Int} {p:Int×Int} (h:p∈vk z k):p∈z/\p.1 < k:=by
 have:=List.mem_filter.mp h;exact ⟨this.1,by simpa using this.2⟩
theorem gA {z:Zs} {k:Int} {p:Int×Int} (h:p∈ur z k):p∈z/\k < p.1:=by
 have:=List.mem_filter.mp h;exact ⟨this.1,by simpa using this.2⟩
theorem zJ {z:Zs} (h:Rise z) (k:Int) {n:Zs} (hn:Rise n) (hk:∀ p∈n,p.1=k):Rise (zI z k n):=by
 refine List.pairwise_append.mpr ⟨List.pairwise_append.mpr ⟨List.Pairwise.filter _ h,hn,fun a ha b hb=>?_⟩,List.Pairwise.filter _ h,fun a ha b hb=>?_⟩
 ·have:=(UX ha).2;have:=hk b hb;omega
 ·have q:=(gA hb).2
  rcases List.mem_append.mp ha with w | w
  ·have:=(UX w).2;omega
  ·have:=hk a w;omega
theorem zB (z:Zs) (k:Int):(z.filter fun p=>decide (p.1≠k)).Perm (vk z k++ur z k):=by
 have e:=List.filter_append_perm (fun p:Int×Int=>decide (p.1 < k)) (z.filter fun p=>decide (p.1≠k))
 rw [List.filter_filter,List.filter_filter] at e
 have a:(z.filter fun p=>decide (p.1 < k)&&decide (p.1≠k))=vk z k:=List.filter_congr fun p _=>by
  rw [<- Bool.decide_and,decide_eq_decide];omega
 have b:(z.filter fun p=>(!decide (p.1 < k))&&decide (p.1≠k))=ur z k:=List.filter_congr fun p _=>by
  rw [<- decide_not,<- Bool.decide_and,decide_eq_decide];omega
 rw [a,b] at e
 exact e.symm
theorem xV (z:Zs) (k:Int) (n:Zs):(zI z k n).length<=z.length+n.length:=by
 have e:=(zB z k).length_eq
 have f:=List.length_filter_le (fun p:Int×Int=>decide (p.1≠k)) z
 unfold zI
 simp only [List.length_append] at e ⊢
 omega
def Dz (kvs:List (Key×DV)) (z:Zs):Prop:=kvs.Perm (zE z)
theorem Dz.len {kvs:List (Key×DV)} {z:Zs} (d:Dz kvs z):kvs.length=z.length:=by have:=d.length_eq;simpa [zE] using this
theorem Dz.nodup {kvs:List (Key×DV)} {z:Zs} (d:Dz kvs z) (h:Rise z):(kvs.map (·.1)).Nodup:=by
 refine (d.map (·.1)).nodup_iff.mpr ?_
 unfold zE
 rw [List.map_map]
 refine List.pairwise_map.mpr (h.imp fun q e=>?_)
 have:=Sum.inl.inj e
 omega
theorem Dz.drop {kvs:List (Key×DV)} {z:Zs} (d:Dz kvs z) (k:Int):Dz (ZG kvs (.inl k)) (zI z k []):=by
 have e:(zE z).filter (fun kv=>decide (kv.1≠(Sum.inl k:Key)))=zE (z.filter fun p=>decide (p.1≠k)):=by
  unfold zE
  rw [List.filter_map]
  congr 1
  apply List.filter_congr
  intro p _
  show decide ((Sum.inl p.1:Key)≠Sum.inl k)=decide (p.1≠k)
  rw [decide_eq_decide]
  exact ⟨fun h q=>h (by rw [q]),fun h q=>h (Sum.inl.inj q)⟩
 have p:=(List.Perm.filter (fun kv:Key×DV=>decide (kv.1≠(Sum.inl k:Key))) d)
 rw [e] at p
 unfold Dz ZG zI
 rw [List.append_nil]
 exact p.trans ((zB z k).map _)
theorem K4 {k:Key} {d:DV}:∀ {kvs:List (Key×DV)},(kvs.map (·.1)).Nodup->(ZU kvs k d).Perm ((k,d)::ZG kvs k):=by
  intro kvs h
  unfold ZU
  by_cases q:(kvs.any fun kv=>decide (kv.1=k))=true
  . rw [if_pos q]
    induction kvs with
    | nil=>simp at q
    | cons p r ih =>
      obtain ⟨h1,h2⟩:=List.nodup_cons.mp h
      by_cases e:p.1=k
      . have hr:∀ x∈r,x.1≠k:=fun x hx y=>h1 (by show p.1∈_;rw [e,<- y];exact List.mem_map_of_mem hx)
        have a:r.map (fun kv=>if kv.1=k then (kv.1,d) else kv)=r:=by
          conv=>rhs;rw [<- List.map_id r]
          exact List.map_congr_left fun x hx=>by rw [if_neg (hr x hx)];rfl
        have b:ZG (p::r) k=r:=by
          unfold ZG
          rw [List.filter_cons_of_neg (by simp [e]),List.filter_eq_self]
          intro x hx;simpa using hr x hx
        rw [List.map_cons,if_pos e,a,b,e]
      . have q':(r.any fun kv=>decide (kv.1=k))=true:=by simpa [e] using q
        have b:ZG (p::r) k=p::ZG r k:=by
          unfold ZG
          rw [List.filter_cons_of_pos (by simpa using e)]
        rw [List.map_cons,if_neg e,b]
        exact ((ih h2 q').cons p).trans (List.Perm.swap _ _ _)
  . rw [if_neg q]
    have b:ZG kvs k=kvs:=by
      unfold ZG
      rw [List.filter_eq_self]
      intro x hx
      have:¬ x.1=k:=fun e=>q (List.any_eq_true.mpr ⟨x,hx,by simpa using e⟩)
      simpa using this
    rw [b]
    exact List.perm_append_singleton _ _
theorem Dz.put {kvs:List (Key×DV)} {z:Zs} (d:Dz kvs z) (h:Rise z) (k w:Int):Dz (ZU kvs (.inl k) (.int w)) (zI z k [(k,w)]):=by
 refine (K4 (d.nodup h)).trans ?_
 have e:=(d.drop k).cons ((Sum.inl k:Key),DV.int w)
 refine e.trans ?_
 unfold zI zE
 rw [List.append_nil]
 rw [List.append_assoc]
 exact (List.perm_middle (a:=(k,w)) (l₁:=vk z k) (l₂:=ur z k)).symm.map (fun p=>((Sum.inl p.1:Key),DV.int p.2))
theorem Vl {k:Key} {d:DV}:∀ {kvs:List (Key×DV)},(kvs.map (·.1)).Nodup->(k,d)∈kvs->Q8 kvs k=some d
  | [],_,h=>by cases h
  | p::r,hn,h=>by
    obtain ⟨h1,h2⟩:=List.nodup_cons.mp hn
    rw [ZX]
    rcases List.mem_cons.mp h with e | e
    . rw [<- e,if_pos rfl]
    . rw [if_neg,Vl h2 e]
      intro q
      exact h1 (by show p.1∈_;rw [q];exact List.mem_map_of_mem (f:=(·.1)) e)
theorem Dz.val {kvs:List (Key×DV)} {z:Zs} (d:Dz kvs z) (h:Rise z) {k w:Int} (hm:(k,w)∈z):Q8 kvs (.inl k)=some (.int w) :=
 Vl (d.nodup h) (d.mem_iff.mpr (List.mem_map_of_mem (f:=fun p:Int×Int=>((Sum.inl p.1:Key),DV.int p.2)) hm))
def kI:Key->Int
 | .inl i=>i
 | .inr _=>0
theorem jE:∀ {kvs:List (Key×DV)},(∀ p∈kvs,∃ i,p.1=.inl i)->Yx kvs=some (kvs.map fun p=>kI p.1)
  | [],_=>rfl
  | (k,d)::r,h=>by
    obtain ⟨i,e⟩:=h (k,d) (List.mem_cons_self ..)
    cases e
    show (Yx r).map (i :: ·)=_
    rw [jE fun p hp=>h p (List.mem_cons_of_mem _ hp)];rfl
theorem Dz.keys {kvs:List (Key×DV)} {z:Zs} (d:Dz kvs z) (h:Rise z):∃ ns,Yx kvs=some ns/\srt ns=zK z:=by
 refine ⟨_,jE fun p hp=>?_,(Yg ?_ (h.keys.imp fun q=>Int.le_of_lt q)).symm⟩
 ·obtain ⟨q,_,rfl⟩:=List.mem_map.mp (d.mem_iff.mp hp)
  exact ⟨q.1,rfl⟩
 ·have e:=(d.map fun p=>kI p.1).symm
  have a:(zE z).map (fun p=>kI p.1)=zK z:=by
   unfold zE zK
   rw [List.map_map];rfl
  rwa [a] at e
theorem Ki {kvs:List (Key×DV)} {z:Zs} (d:Dz kvs z) (h:Rise z) {f:DEx} {env:En} {n:Nat} {hp:Hs} (hf:f env hp=some (.ref n,hp)) (hn:hp[n]?=some (.dic kvs)):Q1 YO (Qa f Qn) env hp=some (.lst ((zK z).map .int),hp):=by
 obtain ⟨ns,e1,e2⟩:=d.keys h
 have a:Qa f Qn env hp=some ([.ref n],hp):=yj hf rfl
 unfold Q1
 rw [Qe a]
 show (va (.ref n) >>= fun ns=>pure (DV.lst ((srt ns).map .int))) hp=_
 have b:va (.ref n) hp=some (ns,hp):=by
  show (Q0 n >>= _) hp=_
  rw [Qe (QO hn)]
  show JY (Yx kvs) hp=_
  rw [e1];rfl
 rw [Qe b,e2];rfl
theorem xH {n:Nat} {hp:Hs} {kvs:List (Key×DV)} {k:Int} {d:DV} (h:hp[n]?=some (.dic kvs)) (hd:Q8 kvs (.inl k)=some d):ixG (.ref n) (.int k) hp=some (d,hp):=by
 show (Q0 n >>= _) hp=_
 rw [Qe (QO h)]
 show (JD (.int k) >>= fun k=>yU (Q8 kvs k)) hp=_
 rw [show JD (.int k)=pure (.inl k) from rfl,pure_bind,hd];rfl
theorem Qbf {n:Nat} {hp:Hs} {kvs:List (Key×DV)} {k:Int} {f g:DEx} {env:En} {d:DV} (hn:hp[n]?=some (.dic kvs)) (hf:f env hp=some (.ref n,hp)) (hg:g env hp=some (.int k,hp)) (hd:Q8 kvs (.inl k)=some d):Zc "dict" jF f (Qa g Qn) env hp=some (d,hp.set n (.dic (ZG kvs (.inl k)))):=by
 unfold Zc
 rw [Qe hf]
 have e:Yz "dict" (.ref n) hp=some ((),hp):=by
  show (Q0 n >>= _) hp=_
  rw [Qe (QO hn)];rfl
 rw [Qe e,Qe (yj hg rfl)]
 show (Q0 n >>= _) hp=_
 rw [Qe (QO hn)]
 show (JD (.int k) >>= _) hp=_
 rw [show JD (.int k)=pure (.inl k) from rfl,pure_bind,hd]
 rfl
theorem Qac (k w:Int):Rise [(k,w)]:=List.pairwise_singleton _ _
theorem UP {hp:Hs} {a:Nat} {kvs:List (Key×DV)} (h:hp[a]?=some (.dic kvs)):Yz "dict" (.ref a) hp=some ((),hp):=by
 show (Q0 a >>= _) hp=_
 rw [Qe (QO h)];rfl
theorem Ux {o k:DEx} {env:En} {hp:Hs} {a:Nat} {kvs:List (Key×DV)} {i:Int} (h:hp[a]?=some (.dic kvs)) (ho:o env hp=some (.ref a,hp)) (hk:k env hp=some (.int i,hp)):Zc "dict" JE o (Qa k Qn) env hp=some ((Q8 kvs (.inl i)).getD .non,hp):=by
 unfold Zc
 rw [Qe ho,Qe (UP h),Qe (ZF hk)]
 show (Q0 a >>= _) hp=_
 rw [Qe (QO h)];rfl
theorem xz {o k e:DEx} {env:En} {hp:Hs} {a:Nat} {kvs:List (Key×DV)} {i:Int} {d:DV} (h:hp[a]?=some (.dic kvs)) (ho:o env hp=some (.ref a,hp)) (hk:k env hp=some (.int i,hp)) (he:e env hp=some (d,hp)):Zc "dict" JE o (Qa k (Qa e Qn)) env hp=some ((Q8 kvs (.inl i)).getD d,hp):=by
 unfold Zc
 rw [Qe ho,Qe (UP h),Qe (Za hk he)]
 show (Q0 a >>= _) hp=_
 rw [Qe (QO h)];rfl
theorem Jq {hp:Hs} {a:Nat} {o:OV} (h:hp[a]?=some o):hp.set a o=hp:=by
 refine List.ext_getElem? fun i=>?_
 by_cases q:a=i
 ·subst q;rw [List.getElem?_set_self (List.getElem?_eq_some_iff.mp h).1,h]
 ·rw [List.getElem?_set_ne q]
theorem jt {kvs:List (Key×DV)} {k:Key} (h:Q8 kvs k=none):ZG kvs k=kvs:=by
 unfold Q8 at h
 rw [Option.map_eq_none_iff,List.find?_eq_none] at h
 unfold ZG
 rw [List.filter_eq_self]
 intro x hx
 simpa using h x hx
theorem gS {o k e:DEx} {env:En} {hp:Hs} {a:Nat} {kvs:List (Key×DV)} {i:Int} {d:DV} (h:hp[a]?=some (.dic kvs)) (ho:o env hp=some (.ref a,hp)) (hk:k env hp=some (.int i,hp)) (he:e env hp=some (d,hp)):∃ x,Zc "dict" jF o (Qa k (Qa e Qn)) env hp=some (x,hp.set a (.dic (ZG kvs (.inl i)))):=by
  cases q:Q8 kvs (.inl i) with
  | some y =>
    refine ⟨y,?_⟩
    unfold Zc
    rw [Qe ho,Qe (UP h),Qe (Za hk he)]
    show (Q0 a >>= _) hp=_
    rw [Qe (QO h)]
    show (JD (.int i) >>= _) hp=_
    rw [show JD (.int i)=pure (.inl i) from rfl,pure_bind,q];rfl
  | none =>
    refine ⟨d,?_⟩
    rw [jt q,Jq h]
    unfold Zc
    rw [Qe ho,Qe (UP h),Qe (Za hk he)]
    show (Q0 a >>= _) hp=_
    rw [Qe (QO h)]
    show (JD (.int i) >>= _) hp=_
    rw [show JD (.int i)=pure (.inl i) from rfl,pure_bind,q];rfl
theorem J0 {e o j:DEx} {env:En} {hp:Hs} {a:Nat} {n:Int} {kvs:List (Key×DV)} {d:DV} (he:e env hp=some (d,hp)) (ho:o env hp=some (.ref a,hp)) (hj:j env hp=some (.int n,hp)) (h:hp[a]?=some (.dic kvs)) (hl:kvs.length < 100000):zL e (gSb o j) env hp=some ((.nx,env),hp.set a (.dic (ZU kvs (.inl n) d))):=by
 refine kr he ?_
 unfold gSb
 rw [Qe ho,Qe hj,Qe (vQ (d:=d) h (show jc (.int n)=some (.inl n) from rfl) hl)];rfl
def Jr (z:Zs) (k:Int):Option Int:=(z.find? fun p=>decide (p.1=k)).map (·.2)
theorem Dz.get {kvs:List (Key×DV)} {z:Zs} (d:Dz kvs z) (h:Rise z) (k:Int):Q8 kvs (.inl k)=(Jr z k).map .int:=by
  cases e:z.find? (fun p=>decide (p.1=k)) with
  | some p =>
    have m:=List.mem_of_find?_eq_some e
    have hk:p.1=k:=by simpa using List.find?_some e
    rw [d.val h (k:=k) (w:=p.2) (by rw [<- hk];exact m)]
    unfold Jr;rw [e];rfl
  | none =>
    unfold Jr;rw [e]
    unfold Q8
    show _=none
    rw [Option.map_eq_none_iff,List.find?_eq_none]
    rw [List.find?_eq_none] at e
    intro x hx
    obtain ⟨p,hp,rfl⟩:=List.mem_map.mp (d.mem_iff.mp hx)
    have:=e p hp
    simp only [decide_eq_true_eq] at this ⊢
    exact fun q=>this (Sum.inl.inj q)
theorem Dz.getD {kvs:List (Key×DV)} {z:Zs} (d:Dz kvs z) (h:Rise z) (k:Int):(Q8 kvs (.inl k)).getD .non=opt (Jr z k):=by
 rw [d.get h k]
 cases Jr z k<;>rfl
theorem K2 (c:Int) (ds:List DV) (z:Sl) {k:Nat} (hk:k < 5) (hl:ds.length < 1000) (w:Hs):∃ (ns:List Int) (y:Int),ns≠[]/\ns.length<=2/\JV [.val (.int c),.acc ds,.val (.int k),z] w=some ((.nx,[.val (.int c),.acc (ds++ns.map .int),.val (.int k),.val (.int y)]),w):=by
 have k0:(0:Int)<=4 * k:=by omega
 have n1:=Ze (qX c (1+4 * k) (by omega) (by omega)) w
 have n2:=Ze (Zw c (4+4 * k) (by omega) (by omega)) w
 generalize drawn c (1+4 * k)=x at n1
 generalize Qu c (4+4 * k)=y at n2
 have mk:∀ (d2:List DV) (z:Sl),Qh Xq (eC (.int 4)) (Qd 2) [.val (.int c),.acc d2,.val (.int k),z] w=some (.int (4 * k),w):=fun d2 z=>Qp (x:=.int 4) (y:=.int k) rfl rfl (Ze (JX _ _ (by decide) (by decide)) _)
 let E:List DV->Sl->En:=fun ds z=>[.val (.int c),.acc ds,.val (.int k),z]
 have s1:QP 3 (Qv 2 Zf (Qa (Qd 0) (Qa (Qh Zv (eC (.int 1)) (Qh Xq (eC (.int 4)) (Qd 2))) (Qn)))) (E ds z) w=some ((.nx,E ds (.val (.int x))),w) :=
  QA (QR (Za (Qf rfl) (Qp (x:=.int 1) (y:=.int (4 * k)) rfl (mk ds z) rfl)) rfl n1)
 have s2:y0 1 (Qd 3) (E ds (.val (.int x))) w=some ((.nx,E (ds++[.int x]) (.val (.int x))),w):=Gp (i:=1) (ds:=ds) (env:=E ds (.val (.int x))) (Qf rfl) rfl (by omega)
 have t:eB (Qh eqG (Qh QY (Qv 2 Qm (Qa (Qd 0) (Qa (Qh Zv (eC (.int 4)) (Qh Xq (eC (.int 4)) (Qd 2))) (Qn)))) (eC (.int 2))) (eC (.int 0))) (E (ds++[.int x]) (.val (.int x))) w=some (y % 2==0,w) :=
  QU (Y0 (Qp (x:=.int y) (y:=.int 2) (QR (Za (Qf rfl) (Qp (x:=.int 4) (y:=.int (4 * k)) rfl (mk _ _) rfl)) rfl n2) rfl (Ze (Q6 _ _ (by decide)) _)) rfl)
 by_cases q:(y % 2==0)=true
 ·rw [q] at t
  let m:Int:=if 1000000000000000000000000000000 < x+1 then 1000000000000000000000000000000 else x+1
  have m1:Q1 gC (Qa (Qh Zv (Qd 3) (eC (.int 1))) (Qa (Qh J8 (eC (.int 10)) (eC (.int 30))) (Qn))) (E (ds++[.int x]) (.val (.int x))) w=some (.int m,w):=X3 (Za (v:=.int (x+1)) (v':=.int 1000000000000000000000000000000) rfl rfl) rfl
  refine ⟨[x,m],x,by simp,by simp,(Qi s1).trans ((Qi s2).trans ((Zk t).trans ?_))⟩
  have e:=Gp (i:=1) (ds:=ds++[.int x]) (env:=E (ds++[.int x]) (.val (.int x))) m1 rfl (by simp;omega)
  refine e.trans ?_
  show some ((Fl.nx,E (ds++[.int x]++[.int m]) (.val (.int x))),w)=_
  rw [List.append_assoc];rfl
 ·rw [Bool.eq_false_iff.mpr q] at t
  exact ⟨[x],x,by simp,by simp,(Qi s1).trans ((Qi s2).trans ((QD t).trans rfl))⟩
theorem JP {i:Nat} {f:DSx} {env env':En} {w:Hs} {r:Option ((Fl×En)×Hs)} (h:yB i env=env') (k:f env' w=r):JI i f env w=r:=by unfold JI;rw [h];exact k
theorem gB {ns:List Int} (h:ns≠[]):1<=(TS.met ns ns.length).length:=by
  have g:∀ (l acc:List Int),acc.length<=(l.foldl (fun l n=>if n∈l then l else l++[n]) acc).length:=by
    intro l
    induction l with
    | nil=>intro acc;exact Nat.le_refl _
    | cons x l ih =>
      intro acc
      rw [List.foldl_cons]
      refine Nat.le_trans ?_ (ih _)
      split
      . exact Nat.le_refl _
      . simp
  match ns,h with
  | x::l,_ =>
    unfold TS.met
    rw [List.take_length,List.foldl_cons,if_neg (by simp)]
    exact Nat.le_trans (by simp) (g l _)
theorem xM {f g:DEx} {env:En} {x y:DV} {w:Hs} (h:f env w=some (x,w)) (h':g env w=some (y,w)):Je (Qa f (Qa g Qn)) env w=some (.lst [x,y],w):=by
 unfold Je
 rw [Qe (Za h h')];rfl
theorem ue {f:DEx} {env:En} {ns:List Int} {w:Hs} (h:f env w=some (.lst (ns.map .int),w)):Q1 YO (Qa f Qn) env w=some (.lst ((srt ns).map .int),w):=by
 refine X3 (ZF h) ?_
 show (JY (Z2 (ns.map .int)) >>= fun ns=>pure (DV.lst ((srt ns).map .int))) w=_
 rw [XD];rfl
theorem gR (c:Int) (w:Hs):∃ ps:List Int,2<=ps.length/\ps.length<=10/\XZ [.int c] w=some (.lst (ps.map .int),w):=by
 have mr:=Jg (Qu c 0) 4 (by decide)
 let m:Nat:=(2+Qu c 0 % 4).toNat
 have em:(m:Int)=2+Qu c 0 % 4:=Int.toNat_of_nonneg (by omega)
 have m1:2<=m:=by omega
 have m2:m<=5:=by omega
 obtain ⟨q,w',e,ns,z2,z3,nn,nl,rfl,rfl⟩:WP (J7 (nxD (Zl 0 m)) (fun d env=>do let env' <- gN 2 d env;JV env') 100000 0 [.val (.int c),.acc [],.un,.un]) w fun q w'=>∃ (ns:List Int) (z2 z3:Sl),ns≠[]/\ns.length<=10/\q=(.nx,[.val (.int c),.acc (ns.map .int),z2,z3])/\w'=w:=by
  refine Yk _ (fun i env w'=>∃ (ns:List Int) (z2 z3:Sl),(0 < i->ns≠[])/\ns.length<=2 * i/\env=[.val (.int c),.acc (ns.map .int),z2,z3]/\w'=w) (by rw [ZV];omega) ⟨[],.un,.un,fun z=>absurd z (Nat.lt_irrefl _),Nat.zero_le _,rfl,rfl⟩ (fun i d hd env w' zz=>?_) (fun env w' zz=>?_)
  ·obtain ⟨ns,z2,z3,_,l,rfl,rfl⟩:=zz
   obtain ⟨hi,rfl⟩:=xU hd
   obtain ⟨ms,y,h1,h2,e⟩:=K2 c (ns.map .int) z3 (k:=i) (by omega) (by rw [List.length_map];omega) w'
   exact ⟨_,_,e,ns++ms,.val (.int i),.val (.int y),fun _ z=>h1 (List.append_eq_nil_iff.mp z).2,by rw [List.length_append];omega,by rw [List.map_append],rfl⟩
  ·obtain ⟨ns,z2,z3,h1,l,rfl,rfl⟩:=zz
   rw [ZV] at h1 l
   exact ⟨ns,z2,z3,h1 (by omega),by omega,rfl,rfl⟩
 have L:Yi [.val (.int c),.acc [],.un,.un] w'=some ((.nx,[.val (.int c),.acc (ns.map .int),z2,z3]),w'):=by
  refine J1 (Uf (xF (m:=m) (ZF ?_) (by omega))) e
  rw [em]
  exact XA rfl (Ze (GG c 0 4 [.acc [],.un,.un] (by decide) (by decide) (by decide)) w')
 let E:List Int->En:=fun ms=>[.val (.int c),.val (.lst (ms.map .int)),z2,z3]
 let ms:=srt (TS.met ns ns.length)
 have l1:1<=ms.length:=by rw [(JL _).length_eq];exact gB nn
 have l2:ms.length<=10:=by rw [(JL _).length_eq];exact Nat.le_trans (TS.met_len ns _) nl
 have s1:JI 1 (QP 1 (Xk (Qd 1))) [.val (.int c),.acc (ns.map .int),z2,z3] w'=some ((.nx,E ms),w'):=JP rfl (QA (V7 (Qf rfl) (by omega)))
 have fin:∀ ks:List Int,2<=ks.length->ks.length<=10->∃ ps:List Int,2<=ps.length/\ps.length<=10/\∃ env,(QB (JI 1 (sIf (eB (Qh eqG (Qh ixG (Qd 1) (eC (.int 0))) (Qh ixG (Qd 1) (YZ (eC (.int 1)))))) (JI 1 (QP 1 (Je (Qa (Qh ixG (Qd 1) (eC (.int 0))) (Qa (Qh Zv (Qh ixG (Qd 1) (eC (.int 0))) (eC (.int 1))) (Qn)))))) (Zp))) (JI 1 (Q7 (Qd 1)))) (E ks) w'=some ((.rt (.lst (ps.map .int)),env),w'):=by
  intro ks k1 k2
  obtain ⟨x,hx,ex⟩:=Gu ks (fun z=>by rw [z] at k1;simp at k1)
  have e0:(ks.map DV.int)[0]?=some (.int (ks[0]'(by omega))):=by rw [List.getElem?_map,List.getElem?_eq_getElem (by omega)];rfl
  have i0:Qh ixG (Qd 1) (eC (.int 0)) (E ks) w'=some (.int (ks[0]'(by omega)),w'):=Xm (i:=0) (Qf rfl) rfl e0
  have i1:Qh ixG (Qd 1) (YZ (eC (.int 1))) (E ks) w'=some (.int x,w'):=Qp (x:=.lst (ks.map .int)) (y:=.int (-1)) (Qf rfl) rfl (Ze (JS ex) w')
  have t:=QU (Y0 i0 i1)
  by_cases q:(ks[0]'(by omega)==x)=true
  ·rw [q] at t
   refine ⟨[ks[0]'(by omega),ks[0]'(by omega)+1],by simp,by simp,E [ks[0]'(by omega),ks[0]'(by omega)+1],(Qi (JP rfl ((Zk t).trans (JP rfl (QA (xM i0 (XA i0 rfl))))))).trans (JP rfl (QL (Qf rfl)))⟩
  ·rw [Bool.eq_false_iff.mpr q] at t
   exact ⟨ks,k1,k2,E ks,(Qi (JP rfl (QD t))).trans (JP rfl (QL (Qf rfl)))⟩
 have t1:eB (Qh eqG (Q1 Zx (Qa (Qd 1) (Qn))) (eC (.int 1))) (E ms) w'=some (((ms.length:Nat):Int)==1,w'):=by
  have:=Y0 (j:=1) (Y6 (f:=Qd 1) (env:=E ms) (hp:=w') (ds:=ms.map .int) (Qf rfl)) (g:=eC (.int 1)) rfl
  rw [List.length_map] at this
  exact QU this
 by_cases q:(((ms.length:Nat):Int)==1)=true
 ·rw [q] at t1
  have e0:(ms.map DV.int)[0]?=some (.int (ms[0]'(by omega))):=by rw [List.getElem?_map,List.getElem?_eq_getElem (by omega)];rfl
  have i0:Qh ixG (Qd 1) (eC (.int 0)) (E ms) w'=some (.int (ms[0]'(by omega)),w'):=Xm (i:=0) (Qf rfl) rfl e0
  let ks:=srt [ms[0]'(by omega),5]
  have kl:ks.length=2:=(JL _).length_eq
  obtain ⟨ps,p1,p2,env,ef⟩:=fin ks (by omega) (by omega)
  refine ⟨ps,p1,p2,QK (env:=env) ((Qi (env1:=[.val (.int c),.acc [],.un,.un]) (hp1:=w') rfl).trans ((Qi L).trans ((Qi s1).trans ((Qi (JP rfl ((Zk t1).trans (JP rfl (QA (ue (ns:=[ms[0]'(by omega),5]) (xM i0 rfl))))))).trans ef))))⟩
 ·rw [Bool.eq_false_iff.mpr q] at t1
  have:ms.length≠1:=fun z=>q (by rw [z];rfl)
  obtain ⟨ps,p1,p2,env,ef⟩:=fin ms (by omega) l2
  exact ⟨ps,p1,p2,QK (env:=env) ((Qi (env1:=[.val (.int c),.acc [],.un,.un]) (hp1:=w') rfl).trans ((Qi L).trans ((Qi s1).trans ((Qi (JP rfl (QD t1))).trans ef))))⟩
theorem yu {t:DV->M Bool} {f:DV->M DV} {hp:Hs} (z:Zs) (p:Int×Int->Bool) (ht:∀ q∈z,t (.int q.1) hp=some (p q,hp)) (hf:∀ q∈z,f (.int q.1) hp=some (.tup [.int q.1,.int q.2],hp)) (hl:z.length < 100000):ZA (nxD ((zK z).map .int)) t f 100000 0 hp=some (prD (z.filter p),hp):=by
  have zl:((zK z).map DV.int).length=z.length:=by simp [zK]
  have zg:∀ i,((zK z).map DV.int)[i]?=(z[i]?).map fun q:Int×Int=>DV.int q.1:=fun i=>by unfold zK;rw [List.map_map,List.getElem?_map];rfl
  suffices h:∀ (m i n:Nat),m+i=z.length->m < n->ZA (nxD ((zK z).map .int)) t f n i hp=some (prD ((z.drop i).filter p),hp) by simpa using h z.length 0 100000 rfl hl
  intro m
  induction m with
  | zero =>
    intro i n e hn'
    obtain ⟨n,rfl⟩:∃ k,n=k+1:=⟨n - 1,by omega⟩
    have:i=z.length:=by omega
    subst this
    have e1:=qb ((zK z).map .int) z.length (by omega) hp
    rw [zg,show z[z.length]?=none by simp] at e1
    rw [ZA,Qe e1,List.drop_length]
    rfl
  | succ m ih =>
    intro i n e hn'
    obtain ⟨n,rfl⟩:∃ k,n=k+1:=⟨n - 1,by omega⟩
    have hlt:i < z.length:=by omega
    have e1:=qb ((zK z).map .int) i (by omega) hp
    rw [zg,List.getElem?_eq_getElem hlt] at e1
    have r:=ih (i+1) n (by omega) (by omega)
    rw [ZA,Qe e1]
    show (t (.int z[i].1) >>= _) hp=_
    rw [Qe (ht _ (List.getElem_mem hlt)),List.drop_eq_getElem_cons hlt,List.filter_cons]
    cases hp':p z[i] with
    | false =>
      rw [if_neg (by simp)]
      exact r
    | true =>
      rw [if_pos rfl,if_pos rfl]
      show (f (.int z[i].1) >>= _) hp=_
      rw [Qe (hf _ (List.getElem_mem hlt)),Qe r];rfl
theorem xT (rows:List (Int×Int)):∀ d∈prD rows,Pl 1 d:=fun d hd=>by
 obtain ⟨p,_,rfl⟩:=List.mem_map.mp hd
 exact VZ fun x hx=>by
  rcases List.mem_cons.mp hx with rfl | hx
  ·exact JZ _ _
  ·rcases List.mem_cons.mp hx with rfl | hx
   ·exact JZ _ _
   ·cases hx
theorem kA (w:Hs) (x y:OV):(w++[x]).set w.length y=w++[y]:=by simp
theorem Uz (w:Hs) (x:OV):(w++[x])[w.length]?=some x:=by simp
theorem qF (w:Hs) (env:En):Xi env w=some (.ref w.length,w++[.dic []]):=rfl
theorem U2 (w:Hs) (env:En):yF Qn env w=some (.ref w.length,w++[.lst []]):=rfl
theorem uo (c:Int) {ps:List Int} (hp:ps.length<=10) (w:Hs):∃ (kvs:List (Key×DV)) (z:Zs),Rise z/\Dz kvs z/\z.length<=10/\Xb [.int c,.lst (ps.map .int)] w=some (.ref w.length,w++[.dic kvs]):=by
 let P:DV:=.lst (ps.map .int)
 let E:Sl->En:=fun z=>[.val (.int c),.val P,.val (.ref w.length),z]
 obtain ⟨q,w',e,kvs,z,zk,hr,hd,hl,rfl,rfl⟩:WP (J7 (nxD (Zl 0 ps.length)) (fun d env=>do let env' <- gN 3 d env;Z0 env') 100000 0 (E .un)) (w++[.dic []]) fun q w'=>∃ (kvs:List (Key×DV)) (z:Zs) (zk:Sl),Rise z/\Dz kvs z/\z.length<=ps.length/\q=(.nx,E zk)/\w'=w++[.dic kvs]:=by
  refine Yk _ (fun i env w'=>∃ (kvs:List (Key×DV)) (z:Zs) (zk:Sl),Rise z/\Dz kvs z/\z.length<=i/\env=E zk/\w'=w++[.dic kvs]) (by rw [ZV];omega) ⟨[],[],.un,List.Pairwise.nil,List.Perm.refl _,Nat.le_refl _,rfl,rfl⟩ (fun i d hd env w' zz=>?_) (fun env w' zz=>?_)
  ·obtain ⟨kvs,z,zk,hr,dz,hl,rfl,rfl⟩:=zz
   obtain ⟨hi,rfl⟩:=xU hd
   let Ek:=E (.val (.int (i:Int)))
   let W:=w++[OV.dic kvs]
   have n2:=Ze (Zw c (40+i) (by omega) (by omega)) W
   have n1:=Ze (qX c (60+4 * i) (by omega) (by omega)) W
   generalize Qu c (40+i)=y at n2
   generalize drawn c (60+4 * i)=x at n1
   have t:eB (Qh eqG (Qh QY (Qv 2 Qm (Qa (Qd 0) (Qa (Qh Zv (eC (.int 40)) (Qd 3)) (Qn)))) (eC (.int 2))) (eC (.int 0))) Ek W=some (y % 2==0,W) :=
    QU (Y0 (Qp (x:=.int y) (y:=.int 2) (QR (Za (Qf rfl) (XA rfl (Qf rfl))) rfl n2) rfl (Ze (Q6 _ _ (by decide)) _)) rfl)
   have body:(do let env' <- gN 3 (.int (i:Int)) (E zk);Z0 env') W=Z0 Ek W:=rfl
   by_cases q:(y % 2==0)=true
   ·rw [q] at t
    have e1:(ps.map DV.int)[i]?=some (.int ps[i]):=by rw [List.getElem?_map,List.getElem?_eq_getElem hi];rfl
    have pu:=J0 (e:=Qv 2 Zf (Qa (Qd 0) (Qa (Qh Zv (eC (.int 60)) (Qh Xq (eC (.int 4)) (Qd 3))) (Qn)))) (o:=Qd 2) (j:=Qh ixG (Qd 1) (Qd 3)) (env:=Ek) (hp:=W) (a:=w.length) (n:=ps[i]) (kvs:=kvs) (d:=.int x) (QR (Za (Qf rfl) (XA rfl (Qp (x:=.int 4) (y:=.int (i:Int)) rfl (Qf rfl) (Ze (JX _ _ (by decide) (by decide)) _)))) rfl n1) (Qf rfl) (Xm (Qf rfl) (Qf rfl) e1) (Uz w _) (by rw [dz.len];omega)
    refine ⟨_,_,body.trans ((Zk t).trans pu),_,_,.val (.int (i:Int)),zJ hr ps[i] (Qac ps[i] x) (fun p hp=>by rw [List.mem_singleton.mp hp]),dz.put hr ps[i] x,?_,rfl,kA _ _ _⟩
    exact Nat.le_trans (xV z ps[i] _) (by simp;omega)
   ·rw [Bool.eq_false_iff.mpr q] at t
    exact ⟨_,_,body.trans ((QD t).trans rfl),kvs,z,.val (.int (i:Int)),hr,dz,by omega,rfl,rfl⟩
  ·obtain ⟨kvs,z,zk,hr,dz,hl,rfl,rfl⟩:=zz
   rw [ZV] at hl
   exact ⟨kvs,z,zk,hr,dz,hl,rfl,rfl⟩
 have L:XR (E .un) (w++[.dic []])=some ((.nx,E zk),w++[.dic kvs]):=by
  refine J1 (Uf (xF (m:=ps.length) (ZF ?_) (by omega))) e
  have:=Y6 (f:=Qd 1) (env:=E .un) (hp:=w++[.dic []]) (ds:=ps.map .int) (Qf rfl)
  rwa [List.length_map] at this
 exact ⟨kvs,z,hr,hd,by omega,QK (env:=E zk) ((Qi (QA (qF w _))).trans ((Qi L).trans (QL (Qf rfl))))⟩
inductive De where
 | find (k:Int)
 | put (k v:Int)
 | cut (k:Int)
 | str (a b:Int)
def De.dv:De->DV
 | .find k=>.tup [.str "find", .int k]
 | .put k v=>.tup [.str "put", .int k,.int v]
 | .cut k=>.tup [.str "cut", .int k]
 | .str a b=>.tup [.str "stretch", .int a,.int b]
theorem uQ (c:Int) {ps:List Int} (h2:2<=ps.length) (h10:ps.length<=10) (w:Hs):∃ d:De,Jj [.int c,.lst (ps.map .int)] w=some (d.dv,w):=by
 let P:DV:=.lst (ps.map .int)
 let E:Sl->Sl->Sl->Sl->En:=fun a b d e=>[.val (.int c),.val P,a,b,d,e]
 have dm:∀ (j m:Int) (t:En),0<=j->j<=1000->0 < m->Qh QY (Qv 2 Qm (Qa (Qd 0) (Qa (eC (.int j)) Qn))) (eC (.int m)) (.val (.int c)::t) w=some (.int (Qu c j % m),w):=fun j m t h0 h1 hm=>Ze (GG c j m t h0 h1 hm) w
 have dg:∀ (j m:Int) (t:En) (g:DEx),0<=j->j<=1000->0 < m->g (.val (.int c)::t) w=some (.int m,w)->Qh QY (Qv 2 Qm (Qa (Qd 0) (Qa (eC (.int j)) Qn))) g (.val (.int c)::t) w=some (.int (Qu c j % m),w):=fun j m t g h0 h1 hm hg =>
  Qp (x:=.int (Qu c j)) (y:=.int m) (QR (Za (Qf rfl) rfl) rfl (Ze (Zw c j h0 h1) w)) hg (Ze (Q6 _ _ hm) w)
 have ln:∀ a b d e:Sl,Q1 Zx (Qa (Qd 1) (Qn)) (E a b d e) w=some (.int ps.length,w):=fun a b d e=>by
  have:=Y6 (f:=Qd 1) (env:=E a b d e) (hp:=w) (ds:=ps.map .int) (Qf rfl)
  rwa [List.length_map] at this
 let kd:=Qu c 1 % 8
 have s1:QP 2 (Qh QY (Qv 2 Qm (Qa (Qd 0) (Qa (eC (.int 1)) (Qn)))) (eC (.int 8))) (E .un .un .un .un) w=some ((.nx,E (.val (.int kd)) .un .un .un),w):=QA (dm 1 8 _ (by decide) (by decide) (by decide))
 have t1:eB (Qh gtD (Qd 2) (eC (.int 5))) (E (.val (.int kd)) .un .un .un) w=some (decide (5 < kd),w):=QU (G7 (Qf rfl) rfl)
 by_cases q:5 < kd
 ·rw [decide_eq_true q] at t1
  have ra:=Jg (Qu c 2) (ps.length - 1) (by omega)
  let a:=Qu c 2 % (ps.length - 1:Int)
  have rb:=Jg (Qu c 3) (ps.length - 1 - a) (by show (0:Int) < ps.length - 1 - Qu c 2 % (ps.length - 1:Int);omega)
  let b:=a+1+Qu c 3 % (ps.length - 1 - a:Int)
  have ha:0<=a/\a < ps.length - 1:=ra
  have hb:0<=b/\b < ps.length:=by show 0<=a+1+_/\a+1+_ < _;omega
  have s2:QP 4 (Qh QY (Qv 2 Qm (Qa (Qd 0) (Qa (eC (.int 2)) (Qn)))) (Qh qg (Q1 Zx (Qa (Qd 1) (Qn))) (eC (.int 1)))) (E (.val (.int kd)) .un .un .un) w=some ((.nx,E (.val (.int kd)) .un (.val (.int a)) .un),w):=QA (dg 2 (ps.length - 1) _ _ (by decide) (by decide) (by omega) (yd (ln _ _ _ _) rfl))
  have s3:QP 5 (Qh Zv (Qh Zv (Qd 4) (eC (.int 1))) (Qh QY (Qv 2 Qm (Qa (Qd 0) (Qa (eC (.int 3)) (Qn)))) (Qh qg (Qh qg (Q1 Zx (Qa (Qd 1) (Qn))) (eC (.int 1))) (Qd 4)))) (E (.val (.int kd)) .un (.val (.int a)) .un) w=some ((.nx,E (.val (.int kd)) .un (.val (.int a)) (.val (.int b))),w):=QA (XA (XA (Qf rfl) rfl) (dg 3 (ps.length - 1 - a) _ _ (by decide) (by decide) (by omega) (yd (yd (ln _ _ _ _) rfl) (Qf rfl))))
  refine ⟨.str (ps.getD a.toNat 0) (ps.getD b.toNat 0),QK (env:=E (.val (.int kd)) .un (.val (.int a)) (.val (.int b))) ((Qi s1).trans (Z4 ((Zk t1).trans ((Qi s2).trans ((Qi s3).trans (QL (ZW (qi rfl (Qp (x:=P) (y:=.int a) (Qf rfl) (Qf rfl) (Ze (JS (Ym ps ha.1 (by omega))) w)) (Qp (x:=P) (y:=.int b) (Qf rfl) (Qf rfl) (Ze (JS (Ym ps hb.1 hb.2)) w))) (by simp))))))))⟩
 ·rw [decide_eq_false q] at t1
  have rk:=Jg (Qu c 2) ps.length (by omega)
  let k:=ps.getD (Qu c 2 % (ps.length:Int)).toNat 0
  have s2:QP 3 (Qh ixG (Qd 1) (Qh QY (Qv 2 Qm (Qa (Qd 0) (Qa (eC (.int 2)) (Qn)))) (Q1 Zx (Qa (Qd 1) (Qn))))) (E (.val (.int kd)) .un .un .un) w=some ((.nx,E (.val (.int kd)) (.val (.int k)) .un .un),w):=QA (Qp (x:=P) (y:=.int (Qu c 2 % (ps.length:Int))) (Qf rfl) (dg 2 ps.length _ _ (by decide) (by decide) (by omega) (ln _ _ _ _)) (Ze (JS (Ym ps rk.1 rk.2)) w))
  have t2:eB (Qh ltD (Qd 2) (eC (.int 2))) (E (.val (.int kd)) (.val (.int k)) .un .un) w=some (decide (kd < 2),w):=QU (xN (Qf rfl) rfl)
  have t3:eB (Qh eqG (Qd 2) (eC (.int 5))) (E (.val (.int kd)) (.val (.int k)) .un .un) w=some (kd==5,w):=QU (Y0 (Qf rfl) rfl)
  by_cases q2:kd < 2
  ·rw [decide_eq_true q2] at t2
   exact ⟨.find k,QK (env:=E (.val (.int kd)) (.val (.int k)) .un .un) ((Qi s1).trans ((Qi ((QD t1).trans rfl)).trans ((Qi s2).trans (Z4 ((Zk t2).trans (QL (ZW (Za rfl (Qf rfl)) (by simp))))))))⟩
  ·rw [decide_eq_false q2] at t2
   by_cases q3:(kd==5)=true
   ·rw [q3] at t3
    exact ⟨.cut k,QK (env:=E (.val (.int kd)) (.val (.int k)) .un .un) ((Qi s1).trans ((Qi ((QD t1).trans rfl)).trans ((Qi s2).trans ((Qi ((QD t2).trans rfl)).trans (Z4 ((Zk t3).trans (QL (ZW (Za rfl (Qf rfl)) (by simp)))))))))⟩
   ·rw [Bool.eq_false_iff.mpr q3] at t3
    exact ⟨.put k (drawn c 4),QK (env:=E (.val (.int kd)) (.val (.int k)) .un .un) ((Qi s1).trans ((Qi ((QD t1).trans rfl)).trans ((Qi s2).trans ((Qi ((QD t2).trans rfl)).trans ((Qi ((QD t3).trans rfl)).trans (QL (ZW (qi rfl (Qf rfl) (QR (Za (Qf rfl) rfl) rfl (Ze (qX c 4 (by decide) (by decide)) w))) (by simp))))))))⟩
theorem VC {nxt:NX} {t:DV->M Bool} {f:DV->M DV} {p:DV->Bool} {hp:Hs} (ds:List DV) (hn:∀ i,i<=ds.length->nxt i hp=some (ds[i]?,hp)) (ht:∀ d∈ds,t d hp=some (p d,hp)) (hf:∀ d∈ds,f d hp=some (d,hp)) (hl:ds.length < 100000):ZA nxt t f 100000 0 hp=some (ds.filter p,hp):=by
  suffices h:∀ (m i n:Nat),m+i=ds.length->m < n->ZA nxt t f n i hp=some ((ds.drop i).filter p,hp) by simpa using h ds.length 0 100000 rfl hl
  intro m
  induction m with
  | zero =>
    intro i n e hn'
    obtain ⟨n,rfl⟩:∃ k,n=k+1:=⟨n - 1,by omega⟩
    have:i=ds.length:=by omega
    subst this
    have e1:=hn ds.length (Nat.le_refl _)
    rw [show ds[ds.length]?=none by simp] at e1
    rw [ZA,Qe e1,List.drop_length];rfl
  | succ m ih =>
    intro i n e hn'
    obtain ⟨n,rfl⟩:∃ k,n=k+1:=⟨n - 1,by omega⟩
    have hlt:i < ds.length:=by omega
    have e1:=hn i (by omega)
    rw [List.getElem?_eq_getElem hlt] at e1
    have hi:=ih (i+1) n (by omega) (by omega)
    rw [ZA,Qe e1]
    simp only
    rw [Qe (ht ds[i] (List.getElem_mem hlt)),List.drop_eq_getElem_cons hlt]
    cases q:p ds[i] with
    | false=>rw [List.filter_cons_of_neg (by simp [q])];simpa using hi
    | true =>
      rw [List.filter_cons_of_pos q]
      simp only [if_true]
      rw [Qe (hf ds[i] (List.getElem_mem hlt)),Qe hi];rfl
def Yn (z:Zs) (b e:Int):Zs:=z.filter fun q=>decide (b<=q.1)&&decide (q.1 < e)
theorem QaP {f g:DEx} {env:En} {hp:Hs} {i j:Int} (hf:f env hp=some (.int i,hp)) (hg:g env hp=some (.int j,hp)):Qh leD f g env hp=some (.bl (decide (i<=j)),hp):=Qp hf hg rfl
theorem Go {c c':DTx} {env:En} {hp:Hs} {a b:Bool} (h:c env hp=some (a,hp)) (h':c' env hp=some (b,hp)):Ys c c' env hp=some (a&&b,hp):=by
 cases a
 ·exact VI h
 ·exact (GN h).trans h'
theorem k6 {c c':DTx} {env:En} {hp:Hs} {a b:Bool} (h:c env hp=some (a,hp)) (h':c' env hp=some (b,hp)):eOr c c' env hp=some (a||b,hp):=by
 cases a
 ·exact (XU h).trans h'
 ·exact Ut h
theorem zA {T:Nat} {b e:Int} {w:Hs} {kvs:List (Key×DV)} {z:Zs} (hT:w[T]?=some (.dic kvs)) (dz:Dz kvs z) (hr:Rise z) (hl:z.length < 50000):Zz [.ref T,.int b,.int e] w=some (.tup (prD (Yn z b e)),w):=by
 let E:En:=[.val (.ref T),.val (.int b),.val (.int e)]
 have cx:=yu (t:=fun d=>Ys (eB (Qh leD (Qd 2) (Qd 0))) (eB (Qh ltD (Qd 0) (Qd 3))) (cE [0,1,2] E d)) (f:=fun d=>ZJ (Qa (Qd 0) (Qa (Qh ixG (Qd 1) (Qd 0)) (Qn))) (cE [0,1,2] E d)) (hp:=w) z (fun q=>decide (b<=q.1)&&decide (q.1 < e)) (fun q _=>Go (QU (QaP (Qf rfl) (Qf rfl))) (QU (xN (Qf rfl) (Qf rfl)))) (fun q hq=>ZW (Za (Qf rfl) (Qp (x:=.ref T) (y:=.int q.1) (Qf rfl) (Qf rfl) (xH hT (dz.val hr hq)))) (by simp)) (by omega)
 have hC:Jv E w=some (.lst (prD (Yn z b e)),w):=by
  unfold Jv ZH
  show (xLs (Q1 YO (Qa (Qd 0) Qn)) E >>= _) w=_
  rw [Qe (Xz (Ki dz hr (Qf rfl) hT))]
  exact (Qe cx).trans rfl
 exact QK (env:=E) (QL (X3 (ZF hC) rfl))
def bsD (h d p:Int):List DV:=[.tup [.str "rest", .int h],.tup [.str "take", .int h,.int d],.tup [.str "side", .int h,.int d,.int p,.int (p+1)],.tup [.str "down", .int h,.int d,.int p,.int 3],.tup [.str "told", .int h,.int d,.int p,.non],.tup [.str "raised", .int h,.int d,.int p,.int 7]]
theorem Ks (c d:Int) (w:Hs):∃ h p:Int,ZE [.int c,.int d] w=some (.lst (bsD h d p),w):=by
 have dm:∀ (j m:Int) (t:En),0<=j->j<=1000->0 < m->Qh QY (Qv 2 Qm (Qa (Qd 0) (Qa (eC (.int j)) Qn))) (eC (.int m)) (.val (.int c)::t) w=some (.int (Qu c j % m),w):=fun j m t h0 h1 hm=>Ze (GG c j m t h0 h1 hm) w
 let h:=Qu c 15 % 8
 let p:=Qu c 16 % 40
 let E:Sl->Sl->Sl->En:=fun a b x=>[.val (.int c),.val (.int d),a,b,x]
 let L:DV:=.lst [.tup [.str "rest", .int h],.tup [.str "take", .int h,.int d],.tup [.str "side", .int h,.int d,.int p,.int (p+1)],.tup [.str "down", .int h,.int d,.int p,.int 3]]
 refine ⟨h,p,QK (env:=E (.val (.int h)) (.val (.int p)) (.val L)) ((Qi (QA (dm 15 8 _ (by decide) (by decide) (by decide)))).trans ((Qi (QA (dm 16 40 _ (by decide) (by decide) (by decide)))).trans ((Qi (QA (d:=L) rfl)).trans (QL rfl))))⟩
def bgn (ak:List (Key×DV)) (d a:Int):Int:=match Q8 ak (.inl d) with
 | some (.int i)=>i
 | _=>a
def AI (ak:List (Key×DV)):Prop:=∀ (n:Int) (v:DV),Q8 ak (.inl n)=some v->∃ i,v=.int i
theorem AI.bgn {ak:List (Key×DV)} (h:AI ak) (d a:Int):(Q8 ak (.inl d)).getD (.int a)=.int (bgn ak d a):=by
 unfold K42.bgn
 cases e:Q8 ak (.inl d) with
 | none=>rfl
 | some v=>obtain ⟨i,rfl⟩:=h d v e;rfl
def RowFit (n:Int) (de:De) (row:DV) (z:Zs) (ak:List (Key×DV)) (z':Zs) (ak':List (Key×DV)) (fin:Bool):Prop:=match de with
 | .find k=>∃ h p:Int,row=.tup [.str "found", .int h,.int n,.int p,opt (Jr z k)]/\z'=z/\ak'=ak/\fin=true
 | .cut k=>∃ h p:Int,row=.tup [.str "cut", .int h,.int n,.int p,opt (Jr z k)]/\z'=zI z k []/\ak'=ak/\fin=true
 | .put k v=>∃ (h p:Int) (x:Option Int),row=.tup [.str "put", .int h,.int n,.int p,opt (Jr z k),opt x]/\z'=zI z k [(k,v)]/\ak'=ak/\fin=true
 | .str a b=>∃ h p:Int,z'=z/\((row=.tup [.str "read", .int h,.int n,.int p,.tup (prD (Yn z (bgn ak n a) b)),.non,.non]/\ak'=ak/\fin=true) ∨
   ∃ m x:Int,bgn ak n a < m/\m < b/\row=.tup [.str "read", .int h,.int n,.int p,.tup (prD (Yn z (bgn ak n a) m)),.int x,.int m]/\ak'=ZU ak (.inl n) (.int m)/\fin=false)
theorem yG (is:List Int) (hp:Hs):eqG (.lst (is.map .int)) (.lst []) hp=some (.bl is.isEmpty,hp):=by
 have p1:Pl 1 (.lst (is.map .int)):=fun d hd=>by obtain ⟨x,_,rfl⟩:=List.mem_map.mp hd;exact JZ 0 x
 have p2:Pl 1 (.lst []):=fun d hd=>nomatch hd
 unfold eqG
 rw [Qe (jy p1 p2 (by decide) (by decide) hp)]
 cases is<;>simp [toP,toPs,PyData.eqv,PyData.eqvAll]<;>rfl
theorem KA {a:Nat} (is:List Int) {hp:Hs} (ha:hp[a]?=some (.lst (is.map .int))):eqG (.ref a) (.lst []) hp=some (.bl is.isEmpty,hp):=by
 have p1:∀ d∈is.map DV.int,Pl 0 d:=fun d hd=>by obtain ⟨x,_,rfl⟩:=List.mem_map.mp hd;exact JZ 0 x
 have p2:Pl 1 (.lst []):=fun d hd=>nomatch hd
 have e:drf 40 hp (.ref a)=some (.lst (is.map .int)):=by
  show (match hp[a]? with | some (.lst ds)=>(ds.mapM (drf 39 hp)).map DV.lst | _=>none)=_
  rw [ha]
  show ((is.map DV.int).mapM (drf 39 hp)).map DV.lst=_
  rw [Ji fun d hd=>YX 0 d 38 hp (p1 d hd)];rfl
 have q:=yG is hp
 unfold eqG Xl xo at q ⊢
 have d1:drf 40 hp (.lst (is.map .int))=some (.lst (is.map .int)):=Xf (n:=1) (d:=.lst (is.map .int)) p1 (by decide) hp
 show (((Option.map _ (drf 40 hp (.ref a))).bind _).bind _)=_
 rw [e]
 have q':(((Option.map _ (drf 40 hp (.lst (is.map .int)))).bind _).bind _)=_:=q
 rw [d1] at q'
 exact q'
theorem kg {T A:Nat} {n c a b:Int} {ps:List Int} {w:Hs} {kvs ak:List (Key×DV)} {z:Zs} (hT:w[T]?=some (.dic kvs)) (hA:w[A]?=some (.dic ak)) (TA:A≠T) (dz:Dz kvs z) (hr:Rise z) (hl:z.length < 50000) (ai:AI ak) (al:ak.length < 50000) (pl:ps.length<=10) :
  ∃ (row:DV) (ak':List (Key×DV)) (fin:Bool),RowFit n (.str a b) row z ak z ak' fin/\X0 [.ref T,.ref A,.lst (ps.map .int),.int n,(De.str a b).dv,.int c] w=some (row,w.set A (.dic ak')):=by
 let g:=bgn ak n a
 let h:=Qu c 10 % 8
 let p:=Qu c 11 % 40
 let E:Sl->Sl->Sl->Sl->En:=fun x1 x2 x3 x4=>[.val (.ref T),.val (.ref A),.val (.lst (ps.map .int)),.val (.int n),.val (De.str a b).dv,.val (.int c),x1,x2,x3,x4]
 have dg:∀ (j m:Int) (x1 x2 x3 x4:Sl) (g:DEx) (w:Hs),0<=j->j<=1000->0 < m->g (E x1 x2 x3 x4) w=some (.int m,w)->Qh QY (Qv 2 Qm (Qa (Qd 5) (Qa (eC (.int j)) Qn))) g (E x1 x2 x3 x4) w=some (.int (Qu c j % m),w):=fun j m x1 x2 x3 x4 g w h0 h1 hm hg =>
  Qp (x:=.int (Qu c j)) (y:=.int m) (QR (Za (Qf rfl) rfl) rfl (Ze (Zw c j h0 h1) w)) hg (Ze (Q6 _ _ hm) w)
 have s1:QP 6 (Zc "dict" JE (Qd 1) (Qa (Qd 3) (Qa (Qh ixG (Qd 4) (eC (.int 1))) (Qn)))) (E .un .un .un .un) w=some ((.nx,E (.val (.int g)) .un .un .un),w):=by
  have:=xz (o:=Qd 1) (k:=Qd 3) (e:=Qh ixG (Qd 4) (eC (.int 1))) (env:=E .un .un .un .un) (i:=n) (d:=.int a) hA (Qf rfl) (Qf rfl) (QV (i:=1) (Qf rfl) rfl rfl)
  rw [ai.bgn n a] at this
  exact QA this
 have s2:=QA (i:=7) (dg 10 8 (.val (.int g)) .un .un .un (eC (.int 8)) w (by decide) (by decide) (by decide) rfl)
 have s3:=QA (i:=8) (dg 11 40 (.val (.int g)) (.val (.int h)) .un .un (eC (.int 40)) w (by decide) (by decide) (by decide) rfl)
 let is:=ps.filter fun k=>decide (g < k)&&decide (k < b)
 let E3:=E (.val (.int g)) (.val (.int h)) (.val (.int p)) .un
 have hC:JM E3 w=some (.lst (is.map .int),w):=by
  have cx:=VD (nxt:=nxD (ps.map .int)) (t:=fun d=>Ys (eB (Qh ltD (Qd 1) (Qd 0))) (eB (Qh ltD (Qd 0) (Qh ixG (Qd 2) (eC (.int 2))))) (cE [6,4] E3 d)) (f:=fun d=>Qd 0 (cE [6,4] E3 d)) (p:=fun k=>decide (g < k)&&decide (k < b)) (g:=id) (hp:=w) ps (fun i hi=>qb _ i (by rw [List.length_map];exact hi) w) (fun x=>Go (QU (xN (Qf rfl) (Qf rfl))) (QU (xN (Qf rfl) (QV (i:=2) (ds:=[.str "stretch", .int a,.int b]) (Qf rfl) rfl rfl)))) (fun x=>rfl) (by omega)
  rw [List.map_id] at cx
  unfold JM ZH
  show (xLs (Qd 2) E3 >>= _) w=_
  rw [Qe (Xz (f:=Qd 2) (env:=E3) (ds:=ps.map .int) (Qf rfl))]
  exact (Qe cx).trans rfl
 have s4:=QA (i:=9) hC
 let E4:=E (.val (.int g)) (.val (.int h)) (.val (.int p)) (.val (.lst (is.map .int)))
 have t:=k6 (QU (Qp (x:=.lst (is.map .int)) (y:=.lst []) (env:=E4) (g:=eqG) (f:=Qd 9) (f':=Je Qn) (Qf rfl) rfl (yG is w))) (QU (Y0 (dg 12 2 (.val (.int g)) (.val (.int h)) (.val (.int p)) (.val (.lst (is.map .int))) (eC (.int 2)) w (by decide) (by decide) (by decide) rfl) (g:=eC (.int 0)) rfl))
 have i2:Qh ixG (Qd 4) (eC (.int 2)) E4 w=some (.int b,w):=QV (i:=2) (ds:=[.str "stretch", .int a,.int b]) (Qf rfl) rfl rfl
 by_cases q:(is.isEmpty||(Qu c 12 % 2==0))=true
 ·rw [q] at t
  refine ⟨_,ak,true,⟨h,p,rfl,.inl ⟨rfl,rfl,rfl⟩⟩,?_⟩
  rw [Jq hA]
  exact QK (env:=E4) ((Qi s1).trans ((Qi s2).trans ((Qi s3).trans ((Qi s4).trans (Z4 ((Zk t).trans (QL (ZW (Gn rfl (Qf rfl) (Qf rfl) (Qf rfl) (QR (qi (Qf rfl) (Qf rfl) i2) rfl (zA hT dz hr hl)) rfl rfl) (by simp)))))))))
 ·rw [Bool.eq_false_iff.mpr q] at t
  have ine:is≠[]:=fun z=>q (by rw [z];rfl)
  have il:(0:Int) < is.length:=by have:=List.length_pos_iff.mpr ine;omega
  have rk:=Jg (Qu c 13) is.length il
  let m:=is.getD (Qu c 13 % (is.length:Int)).toNat 0
  have mm:m∈is:=by
   have lt:(Qu c 13 % (is.length:Int)).toNat < is.length:=by omega
   show is.getD _ 0∈is
   rw [List.getD_eq_getElem?_getD,List.getElem?_eq_getElem lt]
   exact List.getElem_mem lt
  have mb:=(List.mem_filter.mp mm).2
  simp only [Bool.and_eq_true,decide_eq_true_eq] at mb
  have ln:Q1 Zx (Qa (Qd 9) Qn) E4 w=some (.int is.length,w):=by
   have:=Y6 (f:=Qd 9) (env:=E4) (hp:=w) (ds:=is.map .int) (Qf rfl)
   rwa [List.length_map] at this
  have s5:=J0 (e:=Qh ixG (Qd 9) (Qh QY (Qv 2 Qm (Qa (Qd 5) (Qa (eC (.int 13)) (Qn)))) (Q1 Zx (Qa (Qd 9) (Qn))))) (o:=Qd 1) (j:=Qd 3) (env:=E4) (n:=n) (d:=.int m) (Qp (x:=.lst (is.map .int)) (y:=.int (Qu c 13 % (is.length:Int))) (Qf rfl) (dg 13 is.length _ _ _ _ _ w (by decide) (by decide) il ln) (Ze (JS (Ym is rk.1 rk.2)) w)) (Qf rfl) (Qf rfl) hA (by omega)
  let ak':=ZU ak (.inl n) (.int m)
  let w':=w.set A (.dic ak')
  have hA':w'[A]?=some (.dic ak'):=List.getElem?_set_self (UA hA)
  have hT':w'[T]?=some (.dic kvs):=by show (w.set A _)[T]?=_;rw [List.getElem?_set_ne TA];exact hT
  have vm:Q8 ak' (.inl n)=some (.int m):=by
   show Q8 (ZU ak (.inl n) (.int m)) (.inl n)=_
   rw [Vm,if_pos rfl]
  have ia:Qh ixG (Qd 1) (Qd 3) E4 w'=some (.int m,w'):=Qp (x:=.ref A) (y:=.int n) (Qf rfl) (Qf rfl) (xH hA' vm)
  refine ⟨_,ak',false,⟨h,p,rfl,.inr ⟨m,Qu c 14 % 40,mb.1,mb.2,rfl,rfl,rfl⟩⟩,?_⟩
  exact QK (env:=E4) ((Qi s1).trans ((Qi s2).trans ((Qi s3).trans ((Qi s4).trans ((Qi ((QD t).trans rfl)).trans ((Qi s5).trans (QL (ZW (Gn rfl (Qf rfl) (Qf rfl) (Qf rfl) (QR (qi (Qf rfl) (Qf rfl) ia) rfl (zA hT' dz hr hl)) (dg 14 40 _ _ _ _ (eC (.int 40)) w' (by decide) (by decide) (by decide) rfl) ia) (by simp)))))))))
theorem Ja {wd k:Str} {rest:List DV} {b:Bool} {env:En} {w:Hs} {i:Nat} (he:env[i]?=some (.val (.tup (.str wd::rest)))) (h1:PyData.strOk wd=true) (h2:PyData.strOk k=true) (hb:(wd==k)=b):eB (Qh eqG (Qh ixG (Qd i) (eC (.int 0))) (eC (.str k))) env w=some (b,w) :=
 QU (Qp (x:=.str wd) (y:=.str k) (QV (i:=0) (Qf he) rfl rfl) rfl (eqS w h1 h2 hb))
theorem yX (kvs:List (Key×DV)) (k:Key) (d:DV):(ZU kvs k d).length<=kvs.length+1:=by
 unfold ZU
 split
 ·rw [List.length_map];omega
 ·simp
theorem AI.put {ak:List (Key×DV)} (h:AI ak) (n m:Int):AI (ZU ak (.inl n) (.int m)):=fun j v e=>by
 rw [Vm] at e
 split at e
 ·cases e;exact ⟨m,rfl⟩
 ·exact h j v e
theorem RowFit.ai {n:Int} {de:De} {row:DV} {z z':Zs} {ak ak':List (Key×DV)} {fin:Bool} (h:RowFit n de row z ak z' ak' fin) (hr:Rise z) (ai:AI ak):AI ak'/\Rise z'/\z'.length<=z.length+1/\ak'.length<=ak.length+1:=by
  cases de with
  | find k=>obtain ⟨_,_,_,rfl,rfl,_⟩:=h;exact ⟨ai,hr,Nat.le_succ _,Nat.le_succ _⟩
  | cut k=>obtain ⟨_,_,_,rfl,rfl,_⟩:=h;exact ⟨ai,zJ hr k List.Pairwise.nil (fun p hp=>nomatch hp),Nat.le_trans (xV z k []) (Nat.le_succ _),Nat.le_succ _⟩
  | put k v=>obtain ⟨_,_,_,_,rfl,rfl,_⟩:=h;exact ⟨ai,zJ hr k (Qac k v) (fun p hp=>by rw [List.mem_singleton.mp hp]),xV z k _,Nat.le_succ _⟩
  | str a b =>
    obtain ⟨_,_,rfl,⟨_,rfl,_⟩ | ⟨m,x,_,_,_,rfl,_⟩⟩:=h
    . exact ⟨ai,hr,Nat.le_succ _,Nat.le_succ _⟩
    . exact ⟨ai.put n m,hr,Nat.le_succ _,yX _ _ _⟩
theorem KP {T A:Nat} {n c:Int} (de:De) {ps:List Int} {w:Hs} {kvs ak:List (Key×DV)} {z:Zs} (hT:w[T]?=some (.dic kvs)) (hA:w[A]?=some (.dic ak)) (TA:A≠T) (dz:Dz kvs z) (hr:Rise z) (hl:z.length < 50000) (ai:AI ak) (al:ak.length < 50000) (pl:ps.length<=10) :
    ∃ (row:DV) (kvs' ak':List (Key×DV)) (z':Zs) (fin:Bool),RowFit n de row z ak z' ak' fin/\Dz kvs' z'/\Jb [.ref T,.ref A,.lst (ps.map .int),.int n,de.dv,.int c] w=some (row,(w.set T (.dic kvs')).set A (.dic ak')):=by
  let h:=Qu c 10 % 8
  let p:=Qu c 11 % 40
  have same:(w.set T (.dic kvs)).set A (.dic ak)=w:=by rw [Jq hT,Jq hA]
  have hA2:∀ kvs':List (Key×DV),(w.set T (.dic kvs'))[A]?=some (.dic ak):=fun kvs'=>by rw [List.getElem?_set_ne (Ne.symm TA)];exact hA
  let E:DV->Sl->Sl->Sl->En:=fun dv x1 x2 x3=>[.val (.ref T),.val (.ref A),.val (.lst (ps.map .int)),.val (.int n),.val dv,.val (.int c),x1,x2,x3]
  have dm:∀ (dv:DV) (j m:Int) (x1 x2 x3:Sl) (w:Hs),0<=j->j<=1000->0 < m->Qh QY (Qv 2 Qm (Qa (Qd 5) (Qa (eC (.int j)) Qn))) (eC (.int m)) (E dv x1 x2 x3) w=some (.int (Qu c j % m),w):=fun dv j m x1 x2 x3 w h0 h1 hm =>
    Qp (x:=.int (Qu c j)) (y:=.int m) (QR (Za (Qf rfl) rfl) rfl (Ze (Zw c j h0 h1) w)) rfl (Ze (Q6 _ _ hm) w)
  have s1:∀ dv,QP 6 (Qh QY (Qv 2 Qm (Qa (Qd 5) (Qa (eC (.int 10)) (Qn)))) (eC (.int 8))) (E dv .un .un .un) w=some ((.nx,E dv (.val (.int h)) .un .un),w):=fun dv=>QA (dm dv 10 8 _ _ _ w (by decide) (by decide) (by decide))
  have s2:∀ dv,QP 7 (Qh QY (Qv 2 Qm (Qa (Qd 5) (Qa (eC (.int 11)) (Qn)))) (eC (.int 40))) (E dv (.val (.int h)) .un .un) w=some ((.nx,E dv (.val (.int h)) (.val (.int p)) .un),w):=fun dv=>QA (dm dv 11 40 _ _ _ w (by decide) (by decide) (by decide))
  let E2:DV->Sl->En:=fun dv x=>E dv (.val (.int h)) (.val (.int p)) x
  have ok:PyData.strOk "find" = true/\PyData.strOk "cut" = true/\PyData.strOk "put" = true/\PyData.strOk "stretch" = true:=by decide +kernel
  have old:∀ (k:Int) (wd:Str) (rest:List DV),QP 8 (Zc "dict" JE (Qd 0) (Qa (Qh ixG (Qd 4) (eC (.int 1))) (Qn))) (E2 (.tup (.str wd::.int k::rest)) .un) w=some ((.nx,E2 (.tup (.str wd::.int k::rest)) (.val (opt (Jr z k)))),w):=fun k wd rest=>by
    have:=Ux (o:=Qd 0) (k:=Qh ixG (Qd 4) (eC (.int 1))) (env:=E2 (.tup (.str wd::.int k::rest)) .un) (i:=k) hT (Qf rfl) (QV (i:=1) (Qf rfl) rfl rfl)
    rw [dz.getD hr k] at this
    exact QA this
  cases de with
  | find k =>
    refine ⟨_,kvs,ak,z,true,⟨h,p,rfl,rfl,rfl,rfl⟩,dz,?_⟩
    rw [same]
    exact QK (env:=E2 (De.find k).dv (.val (opt (Jr z k)))) ((Qi (s1 _)).trans ((Qi (s2 _)).trans ((Qi ((QD (Ja rfl ok.1 ok.2.2.2 (by decide +kernel))).trans rfl)).trans ((Qi (old k _ _)).trans (Z4 ((Zk (Ja rfl ok.1 ok.1 (by decide +kernel))).trans (QL (ZW (Gm rfl (Qf rfl) (Qf rfl) (Qf rfl) (Qf rfl)) (by simp)))))))))
  | cut k =>
    obtain ⟨x,ep⟩:=gS (o:=Qd 0) (k:=Qh ixG (Qd 4) (eC (.int 1))) (e:=eC .non) (env:=E2 (De.cut k).dv (.val (opt (Jr z k)))) (i:=k) (d:=.non) hT (Qf rfl) (QV (i:=1) (ds:=[.str "cut", .int k]) (Qf rfl) rfl rfl) rfl
    refine ⟨_,ZG kvs (.inl k),ak,zI z k [],true,⟨h,p,rfl,rfl,rfl,rfl⟩,dz.drop k,?_⟩
    rw [Jq (hA2 _)]
    exact QK (env:=E2 (De.cut k).dv (.val (opt (Jr z k)))) ((Qi (s1 _)).trans ((Qi (s2 _)).trans ((Qi ((QD (Ja rfl ok.2.1 ok.2.2.2 (by decide +kernel))).trans rfl)).trans ((Qi (old k _ _)).trans ((Qi ((QD (Ja rfl ok.2.1 ok.1 (by decide +kernel))).trans rfl)).trans (Z4 ((Zk (Ja rfl ok.2.1 ok.2.1 (by decide +kernel))).trans ((Qi (ZL ep)).trans (QL (ZW (Gm rfl (Qf rfl) (Qf rfl) (Qf rfl) (Qf rfl)) (by simp)))))))))))
  | put k v =>
    let dv:=(De.put k v).dv
    let Ex:=E2 dv (.val (opt (Jr z k)))
    have s5:=J0 (e:=Qh ixG (Qd 4) (eC (.int 2))) (o:=Qd 0) (j:=Qh ixG (Qd 4) (eC (.int 1))) (env:=Ex) (n:=k) (d:=.int v) (QV (i:=2) (ds:=[.str "put", .int k,.int v]) (Qf rfl) rfl rfl) (Qf rfl) (QV (i:=1) (ds:=[.str "put", .int k,.int v]) (Qf rfl) rfl rfl) hT (by rw [dz.len];omega)
    let w':=w.set T (.dic (ZU kvs (.inl k) (.int v)))
    have r2:=Jg (Qu c 13) 2 (by decide)
    have lx:∃ x:Option Int,Qh ixG (Je (Qa (eC .non) (Qa (Qh QY (Qv 2 Qm (Qa (Qd 5) (Qa (eC (.int 12)) (Qn)))) (eC (.int 40))) (Qn)))) (Qh QY (Qv 2 Qm (Qa (Qd 5) (Qa (eC (.int 13)) (Qn)))) (eC (.int 2))) Ex w'=some (opt x,w'):=by
      have l:=xM (f:=eC .non) (g:=Qh QY (Qv 2 Qm (Qa (Qd 5) (Qa (eC (.int 12)) (Qn)))) (eC (.int 40))) (env:=Ex) (x:=.non) (w:=w') rfl (dm dv 12 40 _ _ _ w' (by decide) (by decide) (by decide))
      have i:=dm dv 13 2 (.val (.int h)) (.val (.int p)) (.val (opt (Jr z k))) w' (by decide) (by decide) (by decide)
      rcases (show Qu c 13 % 2=0∨Qu c 13 % 2=1 by omega) with e | e
      . rw [e] at i
        exact ⟨none,Xm (i:=0) l i rfl⟩
      . rw [e] at i
        exact ⟨some (Qu c 12 % 40),Xm (i:=1) l i rfl⟩
    obtain ⟨x,ex⟩:=lx
    refine ⟨_,ZU kvs (.inl k) (.int v),ak,zI z k [(k,v)],true,⟨h,p,x,rfl,rfl,rfl,rfl⟩,dz.put hr k v,?_⟩
    rw [Jq (hA2 _)]
    exact QK (env:=Ex) ((Qi (s1 _)).trans ((Qi (s2 _)).trans ((Qi ((QD (Ja rfl ok.2.2.1 ok.2.2.2 (by decide +kernel))).trans rfl)).trans ((Qi (old k _ _)).trans ((Qi ((QD (Ja rfl ok.2.2.1 ok.1 (by decide +kernel))).trans rfl)).trans ((Qi ((QD (Ja rfl ok.2.2.1 ok.2.1 (by decide +kernel))).trans rfl)).trans ((Qi s5).trans (QL (ZW (Ui rfl (Qf rfl) (Qf rfl) (Qf rfl) (Qf rfl) ex) (by simp))))))))))
  | str a b =>
    obtain ⟨row,ak',fin,hf,e⟩:=kg (n:=n) (c:=c) (a:=a) (b:=b) (ps:=ps) hT hA TA dz hr hl ai al pl
    refine ⟨row,kvs,ak',z,fin,hf,dz,?_⟩
    rw [Jq hT]
    exact QK (env:=E2 (De.str a b).dv .un) ((Qi (s1 _)).trans ((Qi (s2 _)).trans (Z4 ((Zk (Ja rfl ok.2.2.2 ok.2.2.2 (by decide +kernel))).trans (QL (QR (Ui (Qf rfl) (Qf rfl) (Qf rfl) (Qf rfl) (Qf rfl) (Qf rfl)) rfl e))))))
theorem yM {hp:Hs} {a:Nat} {ds:List DV} (h:hp[a]?=some (.lst ds)):Yz "list" (.ref a) hp=some ((),hp):=by
 show (Q0 a >>= _) hp=_
 rw [Qe (QO h)];rfl
theorem uX {o:DEx} {fa:DAx} {env:En} {hp hp1:Hs} {a b:Nat} {ds0 ds es:List DV} (ho:o env hp=some (.ref a,hp)) (h0:hp[a]?=some (.lst ds0)) (ha:fa env hp=some ([.ref b],hp1)) (h:hp1[a]?=some (.lst ds)) (hb:hp1[b]?=some (.lst es)) (hl:ds.length+es.length<=100000):Zc "list" YB o fa env hp=some (.non,hp1.set a (.lst (ds++es))):=by
 have e:=KC (o:=eC (.ref a)) (fa:=fun _=>pure [.ref b]) (env:=env) (hp:=hp1) rfl h rfl hb hl
 unfold Zc at e ⊢
 rw [Qe ho,Qe (yM h0),Qe ha]
 rw [Qe (show eC (.ref a) env hp1=some (.ref a,hp1) from rfl),Qe (yM h)] at e
 exact e
theorem uH {o e:DEx} {env:En} {hp hp1:Hs} {a:Nat} {ds0 ds:List DV} {d:DV} (ho:o env hp=some (.ref a,hp)) (h0:hp[a]?=some (.lst ds0)) (he:e env hp=some (d,hp1)) (h:hp1[a]?=some (.lst ds)) (hl:ds.length < 100000):Zc "list" Z1 o (Qa e Qn) env hp=some (.non,hp1.set a (.lst (ds++[d]))):=by
 have q:=XB (o:=eC (.ref a)) (e:=eC d) (env:=env) (hp:=hp1) rfl h rfl hl
 unfold Zc at q ⊢
 rw [Qe ho,Qe (yM h0),Qe (ZF he)]
 rw [Qe (show eC (.ref a) env hp1=some (.ref a,hp1) from rfl),Qe (yM h),Qe (ZF (show eC d env hp1=some (d,hp1) from rfl))] at q
 exact q
theorem Qbq {o e:DEx} {env:En} {hp:Hs} {a:Nat} {ns:List Int} {i:Int} (ho:o env hp=some (.ref a,hp)) (h:hp[a]?=some (.lst (ns.map .int))) (he:e env hp=some (.int i,hp)) (hi:i∈ns):Zc "list" YC o (Qa e Qn) env hp=some (.non,hp.set a (.lst ((ns.erase i).map .int))):=by
 unfold Zc
 rw [Qe ho,Qe (yM h),Qe (ZF he)]
 show (Q0 a >>= _) hp=_
 rw [Qe (QO h)]
 show (JY (Z2 (ns.map .int)) >>= _) hp=_
 rw [XD,Qe (show JY (some ns) hp=some (ns,hp) from rfl)]
 rw [Qe (show Qz (decide (i∈ns)) hp=some ((),hp) by rw [decide_eq_true hi];rfl)]
 have:YN a (.lst ((ns.erase i).map .int)) hp=some ((),hp.set a (.lst ((ns.erase i).map .int))):=by
  rfl
 rw [Qe this];rfl
theorem neS {x y:Str} (hp:Hs) (h1:PyData.strOk x=true) (h2:PyData.strOk y=true) {b:Bool} (h:(x != y)=b):neG (.str x) (.str y) hp=some (.bl b,hp):=by
 unfold neG
 have e:Xl (.str x) (.str y) hp=some (x==y,hp):=by
  rw [xw (qB 39 hp x) (qB 39 hp y) (qH h1) (qH h2)];rfl
 rw [Qe e]
 show some (DV.bl (!(x==y)),hp)=_
 rw [<- h];rfl
theorem QaF {hp:Hs} {a:Nat} {ds:List DV} {d:DV} (h:hp[a]?=some (.lst (ds++[d]))):ixG (.ref a) (.int (-1)) hp=some (d,hp):=by
 show (Q0 a >>= _) hp=_
 rw [Qe (QO h)]
 have:atI (ds++[d]) (-1)=some d:=yn _ _
 show (yU (atI (ds++[d]) (-1))) hp=_
 rw [this];rfl
def Ue:List Str:=["found", "put", "cut", "read", "side", "down", "told", "raised", "take", "rest"]
theorem jS:∀ w∈Ue,PyData.strOk w=true:=by decide +kernel
def G2:List DV:=[.str "found", .str "put", .str "cut", .str "read"]
def isM:DV->Bool
 | .tup (x::_)=>inB x G2
 | _=>false
def RowOk (d:DV):Prop:=∃ (w:Str) (rest:List DV),d=.tup (.str w::rest)/\w∈Ue/\∀ x∈rest,Pl 2 x
theorem RowOk.pl {d:DV} (h:RowOk d):Pl 3 d:=by
 obtain ⟨w,rest,rfl,hw,hr⟩:=h
 intro x hx
 rcases List.mem_cons.mp hx with rfl | hx
 ·exact zF (jS w hw)
 ·exact hr x hx
theorem jB {x:DV} {rest:List DV} {b:Bool} (h:inB x G2=b):isM (.tup (x::rest))=b:=h
theorem RowFit.row {n:Int} {de:De} {row:DV} {z z':Zs} {ak ak':List (Key×DV)} {fin:Bool} (h:RowFit n de row z ak z' ak' fin):RowOk row/\isM row=true:=by
  have pi:∀ i:Int,Pl 2 (.int i):=fun i=>JZ 2 i
  have po:∀ o:Option Int,Pl 2 (opt o):=fun o=>vM 2 o
  have pp:∀ z:Zs,Pl 2 (.tup (prD z)):=fun z=>VZ (xT z)
  cases de with
  | find k =>
    obtain ⟨h,p,rfl,_⟩:=h
    exact ⟨⟨_,_,rfl,by decide +kernel,by simp [pi,po]⟩,jB (by decide +kernel)⟩
  | cut k =>
    obtain ⟨h,p,rfl,_⟩:=h
    exact ⟨⟨_,_,rfl,by decide +kernel,by simp [pi,po]⟩,jB (by decide +kernel)⟩
  | put k v =>
    obtain ⟨h,p,x,rfl,_⟩:=h
    exact ⟨⟨_,_,rfl,by decide +kernel,by simp [pi,po]⟩,jB (by decide +kernel)⟩
  | str a b =>
    obtain ⟨h,p,_,⟨rfl,_⟩ | ⟨m,x,_,_,rfl,_⟩⟩:=h
    . exact ⟨⟨_,_,rfl,by decide +kernel,by simp [pi,pp,VY]⟩,jB (by decide +kernel)⟩
    . exact ⟨⟨_,_,rfl,by decide +kernel,by simp [pi,pp]⟩,jB (by decide +kernel)⟩
theorem Qan (h n p:Int):∀ d∈bsD h n p,RowOk d/\isM d=false:=by
 have pi:∀ i:Int,Pl 2 (.int i):=fun i=>JZ 2 i
 intro d hd
 simp only [bsD,List.mem_cons,List.not_mem_nil,or_false] at hd
 rcases hd with rfl | rfl | rfl | rfl | rfl | rfl<;>exact ⟨⟨_,_,rfl,by decide +kernel,by simp [pi,VY]⟩,jB (by decide +kernel)⟩
def Run (dd:List De):List DV->Zs->List (Key×DV)->List Int->Zs->List (Key×DV)->List Int->Prop
 | [],z,ak,cl,z',ak',cl'=>z'=z/\ak'=ak/\cl'=cl
 | r::rs,z,ak,cl,z',ak',cl'=>∃ (n:Nat) (de:De) (z1:Zs) (ak1:List (Key×DV)) (fin:Bool),dd[n]?=some de/\(n:Int)∉cl/\RowFit n de r z ak z1 ak1 fin/\Run dd rs z1 ak1 (if fin=true then cl++[(n:Int)] else cl) z' ak' cl'
theorem Run.more {dd:List De} (ee:List De):∀ {rs:List DV} {z:Zs} {ak:List (Key×DV)} {cl:List Int} {z':Zs} {ak':List (Key×DV)} {cl':List Int},Run dd rs z ak cl z' ak' cl'->Run (dd++ee) rs z ak cl z' ak' cl'
 | [],_,_,_,_,_,_,h=>h
 | _::_,_,_,_,_,_,_,⟨n,de,z1,ak1,fin,h1,h2,h3,h4⟩=>⟨n,de,z1,ak1,fin,QbO h1,h2,h3,h4.more ee⟩
theorem Run.snoc {dd:List De} {r:DV} {n:Nat} {de:De} {z2:Zs} {ak2:List (Key×DV)} {fin:Bool} (hd:dd[n]?=some de):∀ {rs:List DV} {z:Zs} {ak:List (Key×DV)} {cl:List Int} {z1:Zs} {ak1:List (Key×DV)} {cl1:List Int},Run dd rs z ak cl z1 ak1 cl1->(n:Int)∉cl1->RowFit n de r z1 ak1 z2 ak2 fin->Run dd (rs++[r]) z ak cl z2 ak2 (if fin=true then cl1++[(n:Int)] else cl1)
 | [],_,_,_,_,_,_,⟨e1,e2,e3⟩,hn,hf=>by subst e1 e2 e3;exact ⟨n,de,z2,ak2,fin,hd,hn,hf,rfl,rfl,rfl⟩
 | _::_,_,_,_,_,_,_,⟨m,de',z3,ak3,fin',h1,h2,h3,h4⟩,hn,hf=>⟨m,de',z3,ak3,fin',h1,h2,h3,h4.snoc hd hn hf⟩
def GH (kvs:List (Key×DV)) (dd:List De) (rr:List DV) (ak:List (Key×DV)) (ww:List Int) (gs:Hs):Hs:=.dic kvs::.lst (dd.map De.dv)::.lst rr::.dic ak::.lst (ww.map .int)::gs
structure LI (z0:Zs) (kvs:List (Key×DV)) (dd:List De) (rr:List DV) (ak:List (Key×DV)) (ww:List Int) (z:Zs) (cl:List Int) (m:Nat):Prop where
 rise:Rise z
 dz:Dz kvs z
 ai:AI ak
 run:Run dd (rr.filter isM) z0 [] [] z ak cl
 rows:∀ d∈rr,RowOk d
 nd:ww.Nodup
 wait:∀ x∈ww,∃ n:Nat,x=n/\n < dd.length/\x∉cl
 l1:rr.length<=8 * m
 l2:z.length<=10+m
 l3:ak.length<=m
 l4:dd.length<=m
 l5:ww.length<=m
 cls:∀ x∈cl,∃ n:Nat,x=n/\n < dd.length
theorem LI.up {z0:Zs} {kvs:List (Key×DV)} {dd:List De} {rr:List DV} {ak:List (Key×DV)} {ww:List Int} {z:Zs} {cl:List Int} {m m':Nat} (h:LI z0 kvs dd rr ak ww z cl m) (hm:m<=m'):LI z0 kvs dd rr ak ww z cl m' :=
 ⟨h.rise,h.dz,h.ai,h.run,h.rows,h.nd,h.wait,by have:=h.l1;omega,by have:=h.l2;omega,by have:=h.l3;omega,by have:=h.l4;omega,by have:=h.l5;omega,h.cls⟩
theorem LI.deed {z0:Zs} {kvs:List (Key×DV)} {dd:List De} {rr:List DV} {ak:List (Key×DV)} {ww:List Int} {z:Zs} {cl:List Int} {m:Nat} (h:LI z0 kvs dd rr ak ww z cl m) (d:De):LI z0 kvs (dd++[d]) rr ak (ww++[(dd.length:Int)]) z cl (m+1):=by
 refine ⟨h.rise,h.dz,h.ai,h.run.more [d],h.rows,?_,fun x hx=>?_,by have:=h.l1;omega,by have:=h.l2;omega,by have:=h.l3;omega,by have:=h.l4;simp;omega,by have:=h.l5;simp;omega,fun x hx=>?_⟩
 ·refine List.nodup_append.mpr ⟨h.nd,by simp,fun a ha b hb=>?_⟩
  obtain ⟨n,rfl,hn,_⟩:=h.wait a ha
  rw [List.mem_singleton.mp hb]
  omega
 ·rcases List.mem_append.mp hx with hx | hx
  ·obtain ⟨n,e,hn,hc⟩:=h.wait x hx
   exact ⟨n,e,by simp;omega,hc⟩
  ·rw [List.mem_singleton.mp hx]
   refine ⟨dd.length,rfl,by simp,fun hc=>?_⟩
   obtain ⟨n,e,hn⟩:=h.cls _ hc
   omega
 ·obtain ⟨n,e,hn⟩:=h.cls x hx
  exact ⟨n,e,by simp;omega⟩
theorem LI.other {z0:Zs} {kvs:List (Key×DV)} {dd:List De} {rr:List DV} {ak:List (Key×DV)} {ww:List Int} {z:Zs} {cl:List Int} {m:Nat} (h:LI z0 kvs dd rr ak ww z cl m) {bs:List DV} (hb:∀ d∈bs,RowOk d/\isM d=false):Run dd ((rr++bs).filter isM) z0 [] [] z ak cl/\∀ d∈rr++bs,RowOk d:=by
 refine ⟨?_,fun d hd=>(List.mem_append.mp hd).elim (h.rows d) fun q=>(hb d q).1⟩
 rw [List.filter_append,List.filter_eq_nil_iff (l:=bs) |>.mpr (fun d hd=>by rw [(hb d hd).2];simp),List.append_nil]
 exact h.run
theorem wd_ok {wd:Str} (h:wd∈Ue):PyData.strOk wd=true:=jS wd h
theorem Qay {n:Int} {de:De} {row:DV} {z z':Zs} {ak ak':List (Key×DV)} {fin:Bool} (hf:RowFit n de row z ak z' ak' fin) {f:DEx} {env:En} {hp:Hs} (h:f env hp=some (row,hp)):eOr (eB (Qh neG (Qh ixG f (eC (.int 0))) (eC (.str "read")))) (eB (Qh isD (Qh ixG f (eC (.int 6))) (eC .non))) env hp=some (fin,hp):=by
  have ok:PyData.strOk "found" = true/\PyData.strOk "cut" = true/\PyData.strOk "put" = true/\PyData.strOk "read" = true:=by decide +kernel
  have ne:∀ (wd:Str) (rest:List DV) (b:Bool),row=.tup (.str wd::rest)->PyData.strOk wd=true->(wd != "read")=b->eB (Qh neG (Qh ixG f (eC (.int 0))) (eC (.str "read"))) env hp=some (b,hp):=fun wd rest b e h1 hb =>
    QU (Qp (x:=.str wd) (y:=.str "read") (QV (i:=0) (by rw [h,e]) rfl rfl) rfl (neS hp h1 ok.2.2.2 hb))
  cases de with
  | find k=>obtain ⟨_,_,e,_,_,rfl⟩:=hf;exact Ut (ne _ _ _ e ok.1 (by decide +kernel))
  | cut k=>obtain ⟨_,_,e,_,_,rfl⟩:=hf;exact Ut (ne _ _ _ e ok.2.1 (by decide +kernel))
  | put k v=>obtain ⟨_,_,_,e,_,_,rfl⟩:=hf;exact Ut (ne _ _ _ e ok.2.2.1 (by decide +kernel))
  | str a b =>
    obtain ⟨h0,p,_,⟨e,_,rfl⟩ | ⟨m,x,_,_,e,_,rfl⟩⟩:=hf
    . exact (XU (ne _ _ _ e ok.2.2.2 (by decide +kernel))).trans (QU (Qp (x:=.non) (y:=.non) (QV (i:=6) (by rw [h,e]) rfl rfl) rfl rfl))
    . exact (XU (ne _ _ _ e ok.2.2.2 (by decide +kernel))).trans (QU (Qp (x:=.int m) (y:=.non) (QV (i:=6) (by rw [h,e]) rfl rfl) rfl rfl))
theorem kL {z0:Zs} {kvs:List (Key×DV)} {dd:List De} {rr:List DV} {ak:List (Key×DV)} {ww:List Int} {z:Zs} {cl:List Int} {m:Nat} (I:LI z0 kvs dd rr ak ww z cl m) (hm:m<=300) {ps:List Int} (h2:2<=ps.length) (h10:ps.length<=10) (C:DV) (c:Int) (x8 x9:Sl) (gs:Hs) :
    ∃ kvs' dd' rr' ak' ww' z' cl' x8' gs',LI z0 kvs' dd' rr' ak' ww' z' cl' (m+1)/\Jf [.val C,.val (.lst (ps.map .int)),.val (.ref 0),.val (.ref 1),.val (.ref 2),.val (.ref 3),.val (.ref 4),.val (.int c),x8,x9] (GH kvs dd rr ak ww gs)=some ((.nx,[.val C,.val (.lst (ps.map .int)),.val (.ref 0),.val (.ref 1),.val (.ref 2),.val (.ref 3),.val (.ref 4),.val (.int c),x8',x9]),GH kvs' dd' rr' ak' ww' gs'):=by
  let E:Sl->En:=fun x8=>[.val C,.val (.lst (ps.map .int)),.val (.ref 0),.val (.ref 1),.val (.ref 2),.val (.ref 3),.val (.ref 4),.val (.int c),x8,x9]
  have dg:∀ (j m:Int) (x8:Sl) (g:DEx) (w:Hs),0<=j->j<=1000->0 < m->g (E x8) w=some (.int m,w)->Qh QY (Qv 2 Qm (Qa (Qd 7) (Qa (eC (.int j)) Qn))) g (E x8) w=some (.int (Qu c j % m),w):=fun j m x8 g w h0 h1 hm hg =>
    Qp (x:=.int (Qu c j)) (y:=.int m) (QR (Za (Qf rfl) rfl) rfl (Ze (Zw c j h0 h1) w)) hg (Ze (Q6 _ _ hm) w)
  obtain ⟨dd1,ww1,I1,w1,e1⟩:∃ dd1 ww1,LI z0 kvs dd1 rr ak ww1 z cl (m+1)/\ww1≠[]/\sIf (eOr (eB (Qh eqG (Qd 6) (Je (Qn)))) (eB (Qh gtD (Qh QY (Qv 2 Qm (Qa (Qd 7) (Qa (eC (.int 20)) (Qn)))) (eC (.int 3))) (eC (.int 0))))) (QB (Jp (Zc "list" Z1 (Qd 6) (Qa (Q1 Zx (Qa (Qd 3) (Qn))) (Qn)))) (Jp (Zc "list" Z1 (Qd 3) (Qa (Qv 2 Jj (Qa (Qd 7) (Qa (Qd 1) (Qn)))) (Qn))))) (Zp) (E x8) (GH kvs dd rr ak ww gs)=some ((.nx,E x8),GH kvs dd1 rr ak ww1 gs):=by
    have t:=k6 (QU (Qp (g:=eqG) (f:=Qd 6) (f':=Je Qn) (env:=E x8) (x:=.ref 4) (y:=.lst []) (Qf rfl) rfl (KA (hp:=GH kvs dd rr ak ww gs) ww rfl))) (QU (G7 (dg 20 3 x8 (eC (.int 3)) (GH kvs dd rr ak ww gs) (by decide) (by decide) (by decide) rfl) (g:=eC (.int 0)) (j:=0) rfl))
    by_cases q:(ww.isEmpty||decide ((0:Int) < Qu c 20 % 3))=true
    . rw [q] at t
      obtain ⟨d,ed⟩:=uQ c h2 h10 (GH kvs dd rr ak (ww++[(dd.length:Int)]) gs)
      refine ⟨dd++[d],ww++[(dd.length:Int)],I.deed d,by simp,(Zk t).trans ?_⟩
      have l1:=I.l4
      have l2:=I.l5
      have a1:=XB (o:=Qd 6) (e:=Q1 Zx (Qa (Qd 3) (Qn))) (env:=E x8) (hp:=GH kvs dd rr ak ww gs) (a:=4) (ds:=ww.map .int) (d:=.int dd.length) (Qf rfl) rfl (by have:=UV (f:=Qd 3) (env:=E x8) (hp:=GH kvs dd rr ak ww gs) (n:=1) (ds:=dd.map De.dv) (Qf rfl) rfl;rwa [List.length_map] at this) (by rw [List.length_map];omega)
      have e4:(GH kvs dd rr ak ww gs).set 4 (.lst (ww.map .int++[.int dd.length]))=GH kvs dd rr ak (ww++[(dd.length:Int)]) gs:=by show _=OV.dic kvs::_::_::_::OV.lst ((ww++[(dd.length:Int)]).map .int)::gs;rw [List.map_append];rfl
      rw [e4] at a1
      have a2:=XB (o:=Qd 3) (e:=Qv 2 Jj (Qa (Qd 7) (Qa (Qd 1) (Qn)))) (env:=E x8) (hp:=GH kvs dd rr ak (ww++[(dd.length:Int)]) gs) (a:=1) (ds:=dd.map De.dv) (d:=d.dv) (Qf rfl) rfl (QR (Za (Qf rfl) (Qf rfl)) rfl ed) (by rw [List.length_map];omega)
      have e5:(GH kvs dd rr ak (ww++[(dd.length:Int)]) gs).set 1 (.lst (dd.map De.dv++[d.dv]))=GH kvs (dd++[d]) rr ak (ww++[(dd.length:Int)]) gs:=by show _=OV.dic kvs::OV.lst ((dd++[d]).map De.dv)::_;rw [List.map_append];rfl
      rw [e5] at a2
      exact (Qi (ZL a1)).trans (ZL a2)
    . rw [Bool.eq_false_iff.mpr q] at t
      exact ⟨dd,ww,I.up (Nat.le_succ _),fun z=>q (by rw [z];rfl),(QD t).trans rfl⟩
  have wl:(0:Int) < ww1.length:=by have:=List.length_pos_iff.mpr w1;omega
  have rk:=Jg (Qu c 21) ww1.length wl
  have lt:(Qu c 21 % (ww1.length:Int)).toNat < ww1.length:=by omega
  have mn:ww1[(Qu c 21 % (ww1.length:Int)).toNat]∈ww1:=List.getElem_mem lt
  obtain ⟨n,en,hn,hc⟩:=I1.wait _ mn
  obtain ⟨de,hde⟩:∃ de,dd1[n]?=some de:=⟨dd1[n],List.getElem?_eq_getElem hn⟩
  rw [en] at mn hc
  have ei:(ww1.map DV.int)[(Qu c 21 % (ww1.length:Int)).toNat]?=some (.int n):=by rw [List.getElem?_map,List.getElem?_eq_getElem lt,en];rfl
  have s2:QP 8 (Qh ixG (Qd 6) (Qh QY (Qv 2 Qm (Qa (Qd 7) (Qa (eC (.int 21)) (Qn)))) (Q1 Zx (Qa (Qd 6) (Qn))))) (E x8) (GH kvs dd1 rr ak ww1 gs)=some ((.nx,E (.val (.int n))),GH kvs dd1 rr ak ww1 gs):=by
    refine QA (VN (i:=(Qu c 21 % (ww1.length:Int)).toNat) (n:=4) (ds:=ww1.map .int) (Qf rfl) rfl ?_ ei)
    have:=dg 21 ww1.length x8 (Q1 Zx (Qa (Qd 6) (Qn))) (GH kvs dd1 rr ak ww1 gs) (by decide) (by decide) wl (by have:=UV (f:=Qd 6) (env:=E x8) (hp:=GH kvs dd1 rr ak ww1 gs) (n:=4) (ds:=ww1.map .int) (Qf rfl) rfl;rwa [List.length_map] at this)
    rw [Int.toNat_of_nonneg rk.1]
    exact this
  obtain ⟨h,p,eb⟩:=Ks c n (GH kvs dd1 rr ak ww1 gs)
  let k:=(Qu c 22 % 7).toNat
  have rk7:=Jg (Qu c 22) 7 (by decide)
  let bs:=(bsD h n p).take k
  let gs1:=gs++[OV.lst bs]
  have sl:GO (Qv 2 ZE (Qa (Qd 7) (Qa (Qd 8) (Qn)))) (U3) (J5 (Qh QY (Qv 2 Qm (Qa (Qd 7) (Qa (eC (.int 22)) (Qn)))) (eC (.int 7)))) (E (.val (.int n))) (GH kvs dd1 rr ak ww1 gs)=some (.ref (GH kvs dd1 rr ak ww1 gs).length,GH kvs dd1 rr ak ww1 gs1):=by
    have:=Qbt (f:=Qv 2 ZE (Qa (Qd 7) (Qa (Qd 8) (Qn)))) (ol:=U3) (oh:=J5 (Qh QY (Qv 2 Qm (Qa (Qd 7) (Qa (eC (.int 22)) (Qn)))) (eC (.int 7)))) (env:=E (.val (.int n))) (hp:=GH kvs dd1 rr ak ww1 gs) (lo:=none) (hi:=some (k:Int)) (QR (Za (Qf rfl) (Qf rfl)) rfl eb) rfl (by
      have e:=dg 22 7 (.val (.int n)) (eC (.int 7)) (GH kvs dd1 rr ak ww1 gs) (by decide) (by decide) (by decide) rfl
      unfold J5
      rw [Qe e]
      show some (some (Qu c 22 % 7),_)=some (some (k:Int),_)
      rw [show (k:Int)=Qu c 22 % 7 from Int.toNat_of_nonneg rk7.1])
    rw [GD] at this
    exact this
  have rl:=I1.l1
  have bl:bs.length<=6:=Nat.le_trans (List.length_take_le' _ _) (Nat.le_refl 6)
  have s3:=uX (o:=Qd 4) (env:=E (.val (.int n))) (hp:=GH kvs dd1 rr ak ww1 gs) (a:=2) (ds0:=rr) (ds:=rr) (es:=bs) (Qf rfl) rfl (ZF sl) rfl (by show (OV.dic kvs::_::_::_::_::(gs++[OV.lst bs]))[gs.length+5]?=_;simp) (by omega)
  obtain ⟨R2,R3⟩:=I1.other (bs:=bs) fun d hd=>Qan h n p d (List.mem_of_mem_take hd)
  have z2:=I1.l2
  have z3:=I1.l3
  obtain ⟨row,kvs',ak',z',fin,hf,dz',em⟩:=KP (n:=n) (c:=c) de (ps:=ps) (w:=GH kvs dd1 (rr++bs) ak ww1 gs1) (T:=0) (A:=3) rfl rfl (by decide) I1.dz I1.rise (by omega) I1.ai (by omega) h10
  have ed:(dd1.map De.dv)[n]?=some de.dv:=by rw [List.getElem?_map,hde];rfl
  have s4:=uH (o:=Qd 4) (e:=Qv 6 Jb (Qa (Qd 2) (Qa (Qd 5) (Qa (Qd 1) (Qa (Qd 8) (Qa (Qh ixG (Qd 3) (Qd 8)) (Qa (Qd 7) (Qn)))))))) (env:=E (.val (.int n))) (hp:=GH kvs dd1 (rr++bs) ak ww1 gs1) (hp1:=GH kvs' dd1 (rr++bs) ak' ww1 gs1) (a:=2) (ds0:=rr++bs) (ds:=rr++bs) (d:=row) (Qf rfl) rfl (QR (Ui (Qf rfl) (Qf rfl) (Qf rfl) (Qf rfl) (VN (i:=n) (n:=1) (ds:=dd1.map De.dv) (Qf rfl) rfl (Qf rfl) ed) (Qf rfl)) rfl em) rfl (by simp;omega)
  let rr2:=rr++bs++[row]
  obtain ⟨ro,rm⟩:=hf.row
  obtain ⟨ai',rise',zl',al'⟩:=hf.ai I1.rise I1.ai
  have run':Run dd1 (rr2.filter isM) z0 [] [] z' ak' (if fin=true then cl++[(n:Int)] else cl):=by
    show Run dd1 ((rr++bs++[row]).filter isM) _ _ _ _ _ _
    rw [List.filter_append,List.filter_cons_of_pos rm,List.filter_nil]
    exact R2.snoc hde hc hf
  have rows':∀ d∈rr2,RowOk d:=fun d hd=>(List.mem_append.mp hd).elim (R3 d) fun q=>by rw [List.mem_singleton.mp q];exact ro
  have len':rr2.length<=8 * (m+1):=by
    have:=I.l1
    show (rr++bs++[row]).length<=_
    simp only [List.length_append,List.length_singleton];omega
  have t:=Qay hf (f:=Qh ixG (Qd 4) (YZ (eC (.int 1)))) (env:=E (.val (.int n))) (hp:=GH kvs' dd1 rr2 ak' ww1 gs1) (Qp (x:=.ref 2) (y:=.int (-1)) (Qf rfl) rfl (QaF (ds:=rr++bs) rfl))
  have pre:∀ {r:Option ((Fl×En)×Hs)},sIf (eOr (eB (Qh neG (Qh ixG (Qh ixG (Qd 4) (YZ (eC (.int 1)))) (eC (.int 0))) (eC (.str "read")))) (eB (Qh isD (Qh ixG (Qh ixG (Qd 4) (YZ (eC (.int 1)))) (eC (.int 6))) (eC .non)))) (Jp (Zc "list" YC (Qd 6) (Qa (Qd 8) (Qn)))) (Zp) (E (.val (.int n))) (GH kvs' dd1 rr2 ak' ww1 gs1)=r->Jf (E x8) (GH kvs dd rr ak ww gs)=r:=fun k =>
    (Qi e1).trans ((Qi s2).trans ((Qi (ZL s3)).trans ((Qi (ZL s4)).trans k)))
  have l2:=I.l2
  have l3:=I.l3
  have l4:=I1.l4
  have l5:=I1.l5
  cases fin with
  | true =>
    refine ⟨kvs',dd1,rr2,ak',ww1.erase n,z',cl++[(n:Int)],.val (.int n),gs1,⟨rise',dz',ai',run',rows',I1.nd.erase _,fun x hx=>?_,len',by omega,by omega,by omega,?_,fun x hx=>?_⟩,pre ((Zk t).trans (ZL (Qbq (a:=4) (Qf rfl) rfl (Qf rfl) mn)))⟩
    . obtain ⟨xn,xm⟩:=(I1.nd.mem_erase_iff).mp hx
      obtain ⟨k,e,hk,hkc⟩:=I1.wait x xm
      exact ⟨k,e,hk,fun hq=>(List.mem_append.mp hq).elim hkc fun q=>xn (List.mem_singleton.mp q)⟩
    . exact Nat.le_trans (List.length_erase_le) l5
    . rcases List.mem_append.mp hx with q | q
      . exact I1.cls x q
      . exact ⟨n,List.mem_singleton.mp q,hn⟩
  | false =>
    exact ⟨kvs',dd1,rr2,ak',ww1,z',cl,.val (.int n),gs1,⟨rise',dz',ai',run',rows',I1.nd,I1.wait,len',by omega,by omega,by omega,l5,I1.cls⟩,pre ((QD t).trans rfl)⟩
theorem Kp {f:DEx} {env:En} {hp:Hs} {n:Nat} {ds:List DV} (h:f env hp=some (.ref n,hp)) (hn:hp[n]?=some (.lst ds)):xLs f env hp=some (nxW n,hp):=by
 unfold xLs
 rw [Qe h]
 show (Q0 n >>= _) hp=_
 rw [Qe (QO hn)];rfl
theorem jL {f:DXx} {g:DGx} {body:DSx} {env:En} {hp hp1:Hs} {n:Nat} {r:(Fl×En)×Hs} (h:f env hp=some (nxW n,hp1)) (h':J7 (nxW n) (fun d env=>do let env' <- g d env;body env') 100000 0 env hp1=some r):Xu f g body env hp=some r:=by
 unfold Xu
 rw [Qe h];exact h'
def De.key:De->Int
 | .find k=>k
 | .put k _=>k
 | .cut k=>k
 | .str a _=>a
def De.wd:De->Str
 | .find _ => "find"
 | .put _ _ => "put"
 | .cut _ => "cut"
 | .str _ _ => "stretch"
theorem De.shape (d:De):∃ rest,d.dv=.tup (.str d.wd::.int d.key::rest):=by cases d<;>exact ⟨_,rfl⟩
theorem De.wd_ok (d:De):PyData.strOk d.wd=true:=by
 have ok:PyData.strOk "find" = true/\PyData.strOk "put" = true/\PyData.strOk "cut" = true/\PyData.strOk "stretch" = true:=by decide +kernel
 cases d
 ·exact ok.1
 ·exact ok.2.1
 ·exact ok.2.2.1
 ·exact ok.2.2.2
structure RD (z0:Zs) (kvs:List (Key×DV)) (dd:List De) (rr:List DV) (z:Zs):Prop where
 rise:Rise z
 dz:Dz kvs z
 zl:z.length<=400
 run:∃ ak cl,Run dd (rr.filter isM) z0 [] [] z ak cl
 rows:∀ d∈rr,RowOk d
 rl:rr.length<=5000
 dl:dd.length<=400
theorem ki {z0:Zs} {kvs:List (Key×DV)} {dd:List De} {rr:List DV} {ak:List (Key×DV)} {ww:List Int} {z:Zs} {cl:List Int} {m:Nat} (I:LI z0 kvs dd rr ak ww z cl m) (hm:m<=300) (C P:DV) (x7 x8 x9:Sl) (gs:Hs) :
    ∃ rr' x8' x9',RD z0 kvs dd rr' z/\Yj [.val C,.val P,.val (.ref 0),.val (.ref 1),.val (.ref 2),.val (.ref 3),.val (.ref 4),x7,x8,x9] (GH kvs dd rr ak ww gs)=some ((.nx,[.val C,.val P,.val (.ref 0),.val (.ref 1),.val (.ref 2),.val (.ref 3),.val (.ref 4),x7,x8',x9']),GH kvs dd rr' ak ww gs):=by
  let E:Sl->Sl->En:=fun x8 x9=>[.val C,.val P,.val (.ref 0),.val (.ref 1),.val (.ref 2),.val (.ref 3),.val (.ref 4),x7,x8,x9]
  have l1:=I.l1
  have l2:=I.l2
  have l4:=I.l4
  have l5:=I.l5
  obtain ⟨q,h,e,rr',cl',x8',x9',ru,ro,rl,rfl,rfl⟩:WP (J7 (nxW 4) (fun d env=>do let env' <- gN 8 d env;ZK env') 100000 0 (E x8 x9)) (GH kvs dd rr ak ww gs) fun q h=>∃ (rr':List DV) (cl':List Int) (x8' x9':Sl),Run dd (rr'.filter isM) z0 [] [] z ak cl'/\(∀ d∈rr',RowOk d)/\rr'.length<=8 * m+ww.length/\q=(.nx,E x8' x9')/\h=GH kvs dd rr' ak ww gs:=by
    refine jX (ww.map .int) (fun i env h=>∃ (rr':List DV) (cl':List Int) (x8' x9':Sl),Run dd (rr'.filter isM) z0 [] [] z ak cl'/\(∀ d∈rr',RowOk d)/\rr'.length<=8 * m+i/\(∀ x∈ww.drop i,x∉cl')/\env=E x8' x9'/\h=GH kvs dd rr' ak ww gs) (by rw [List.length_map];omega) (fun i env h _ zz=>?_) ⟨rr,cl,x8,x9,I.run,I.rows,l1,fun x hx=>?_,rfl,rfl⟩ (fun i d hd env h zz=>?_) (fun env h zz=>?_)
    . obtain ⟨_,_,_,_,_,_,_,_,_,rfl⟩:=zz
      exact VS rfl i
    . obtain ⟨_,_,_,hc⟩:=I.wait x (by simpa using hx)
      exact hc
    . obtain ⟨rr',cl',x8',x9',ru,ro,rl,nc,rfl,rfl⟩:=zz
      rw [List.getElem?_map] at hd
      obtain ⟨x,hx,rfl⟩:=Option.map_eq_some_iff.mp hd
      obtain ⟨hi,ex⟩:=List.getElem?_eq_some_iff.mp hx
      obtain ⟨n,rfl,hn,_⟩:=I.wait x (List.mem_of_getElem? hx)
      have dr:ww.drop i=(n:Int)::ww.drop (i+1):=by rw [List.drop_eq_getElem_cons hi,ex]
      have nd:=(List.nodup_cons.mp (dr▸(List.Sublist.nodup (List.drop_sublist i ww) I.nd))).1
      have hc:(n:Int)∉cl':=nc n (by rw [dr];exact List.mem_cons_self)
      obtain ⟨de,hde⟩:∃ de,dd[n]?=some de:=⟨dd[n],List.getElem?_eq_getElem hn⟩
      obtain ⟨rest,ed⟩:=de.shape
      let W:=GH kvs dd rr' ak ww gs
      have ix:∀ x9:Sl,Qh ixG (Qd 3) (Qd 8) (E (.val (.int n)) x9) W=some (.tup (.str de.wd::.int de.key::rest),W):=fun x9=>VN (i:=n) (n:=1) (ds:=dd.map De.dv) (Qf rfl) rfl (Qf rfl) (by rw [List.getElem?_map,hde,<- ed];rfl)
      have s1:=xz (o:=Qd 5) (k:=Qd 8) (e:=Qh ixG (Qh ixG (Qd 3) (Qd 8)) (eC (.int 1))) (env:=E (.val (.int n)) x9') (hp:=W) (a:=3) (i:=n) (d:=.int de.key) rfl (Qf rfl) (Qf rfl) (QV (i:=1) (ix _) rfl rfl)
      rw [I.ai.bgn n de.key] at s1
      let g:=bgn ak n de.key
      have s2:=QA (i:=9) s1
      have body:(do let env' <- gN 8 (.int (n:Int)) (E x8' x9');ZK env') W=ZK (E (.val (.int n)) x9') W:=rfl
      have t:∀ b,(de.wd == "stretch")=b->eB (Qh eqG (Qh ixG (Qh ixG (Qd 3) (Qd 8)) (eC (.int 0))) (eC (.str "stretch"))) (E (.val (.int n)) (.val (.int g))) W=some (b,W):=fun b hb =>
        QU (Qp (x:=.str de.wd) (y:=.str "stretch") (QV (i:=0) (ix _) rfl rfl) rfl (eqS W de.wd_ok (by decide +kernel) hb))
      have no:(de.wd == "stretch")=false->WP (do let env' <- gN 8 (.int (n:Int)) (E x8' x9');ZK env') W fun r h=>match r.1 with
          | .nx=>∃ (rr':List DV) (cl':List Int) (x8' x9':Sl),Run dd (rr'.filter isM) z0 [] [] z ak cl'/\(∀ d∈rr',RowOk d)/\rr'.length<=8 * m+(i+1)/\(∀ x∈ww.drop (i+1),x∉cl')/\r.2=E x8' x9'/\h=GH kvs dd rr' ak ww gs
          | .ct=>∃ (rr':List DV) (cl':List Int) (x8' x9':Sl),Run dd (rr'.filter isM) z0 [] [] z ak cl'/\(∀ d∈rr',RowOk d)/\rr'.length<=8 * m+(i+1)/\(∀ x∈ww.drop (i+1),x∉cl')/\r.2=E x8' x9'/\h=GH kvs dd rr' ak ww gs
          | .bk=>∃ (rr':List DV) (cl':List Int) (x8' x9':Sl),Run dd (rr'.filter isM) z0 [] [] z ak cl'/\(∀ d∈rr',RowOk d)/\rr'.length<=8 * m+ww.length/\(.nx,r.2)=(Fl.nx,E x8' x9')/\h=GH kvs dd rr' ak ww gs
          | .rt x=>∃ (rr':List DV) (cl':List Int) (x8' x9':Sl),Run dd (rr'.filter isM) z0 [] [] z ak cl'/\(∀ d∈rr',RowOk d)/\rr'.length<=8 * m+ww.length/\(.rt x,r.2)=(Fl.nx,E x8' x9')/\h=GH kvs dd rr' ak ww gs:=fun hb =>
        ⟨_,_,body.trans ((Qi s2).trans ((QD (t _ hb)).trans rfl)),rr',cl',.val (.int n),.val (.int g),ru,ro,by omega,fun x hx=>nc x (by rw [dr];exact List.mem_cons_of_mem _ hx),rfl,rfl⟩
      cases de with
      | find k=>exact no (show (("find" : Str) == "stretch")=false by decide +kernel)
      | put k v=>exact no (show (("put" : Str) == "stretch")=false by decide +kernel)
      | cut k=>exact no (show (("cut" : Str) == "stretch")=false by decide +kernel)
      | str a b =>
        cases ed
        let row:DV:=.tup [.str "read", .int 0,.int n,.int 0,.tup (prD (Yn z g b)),.non,.non]
        have hf:RowFit n (.str a b) row z ak z ak true:=⟨0,0,rfl,.inl ⟨rfl,rfl,rfl⟩⟩
        obtain ⟨rok,rm⟩:=hf.row
        have pa:=zA (T:=0) (b:=g) (e:=b) (w:=W) rfl I.dz I.rise (by omega)
        have ap:=XB (o:=Qd 4) (e:=ZJ (Qa (eC (.str "read")) (Qa (eC (.int 0)) (Qa (Qd 8) (Qa (eC (.int 0)) (Qa (Qv 3 Zz (Qa (Qd 2) (Qa (Qd 9) (Qa (Qh ixG (Qh ixG (Qd 3) (Qd 8)) (eC (.int 2))) (Qn))))) (Qa (eC .non) (Qa (eC .non) (Qn))))))))) (env:=E (.val (.int n)) (.val (.int g))) (hp:=W) (a:=2) (ds:=rr') (d:=row) (Qf rfl) rfl (ZW (Gn rfl rfl (Qf rfl) rfl (QR (qi (Qf rfl) (Qf rfl) (QV (i:=2) (ix _) rfl rfl)) rfl pa) rfl rfl) (by simp)) (by omega)
        refine ⟨_,_,body.trans ((Qi s2).trans ((Zk (t true (show (("stretch" : Str) == "stretch")=true by decide +kernel))).trans (ZL ap))),rr'++[row],cl'++[(n:Int)],.val (.int n),.val (.int g),?_,fun d hd=>(List.mem_append.mp hd).elim (ro d) fun q=>by rw [List.mem_singleton.mp q];exact rok,by simp;omega,fun x hx hq=>?_,rfl,rfl⟩
        . rw [List.filter_append,List.filter_cons_of_pos rm,List.filter_nil]
          exact ru.snoc hde hc hf
        . rcases List.mem_append.mp hq with q | q
          . exact nc x (by rw [dr];exact List.mem_cons_of_mem _ hx) q
          . rw [List.mem_singleton.mp q] at hx
            exact nd hx
    . obtain ⟨rr',cl',x8',x9',ru,ro,rl,_,rfl,rfl⟩:=zz
      rw [List.length_map] at rl
      exact ⟨rr',cl',x8',x9',ru,ro,rl,rfl,rfl⟩
  exact ⟨rr',x8',x9',⟨I.rise,I.dz,by omega,⟨ak,cl',ru⟩,ro,by omega,by omega⟩,jL (Kp (Qf rfl) rfl) e⟩
theorem kn {kvs:List (Key×DV)} {z0:Zs} (hr:Rise z0) (dz:Dz kvs z0) (zl:z0.length<=10) {ps:List Int} (h2:2<=ps.length) (h10:ps.length<=10) {cs:List Int} (hc:cs.length<=250) :
  ∃ kvs' dd rr ak ww gs z,RD z0 kvs' dd rr z/\X1 [.lst (cs.map .int),.lst (ps.map .int),.ref 0,.ref 1] [.dic kvs,.lst []]=some (.ref 2,GH kvs' dd rr ak ww gs):=by
 let E:Sl->Sl->Sl->En:=fun x7 x8 x9=>[.val (.lst (cs.map .int)),.val (.lst (ps.map .int)),.val (.ref 0),.val (.ref 1),.val (.ref 2),.val (.ref 3),.val (.ref 4),x7,x8,x9]
 have I0:LI z0 kvs [] [] [] [] z0 [] 0:=⟨hr,dz,(fun n v e=>by cases e),⟨rfl,rfl,rfl⟩,(fun d hd=>nomatch hd),.nil,(fun x hx=>nomatch hx),Nat.le_refl _,zl,Nat.le_refl _,Nat.le_refl _,Nat.le_refl _,(fun x hx=>nomatch hx)⟩
 obtain ⟨q,h,e,kvs',dd,rr,ak,ww,z,cl,x7,x8,gs,I,rfl,rfl⟩:WP (J7 (nxD (cs.map .int)) (fun d env=>do let env' <- gN 7 d env;Jf env') 100000 0 (E .un .un .un)) (GH kvs [] [] [] [] []) fun q h=>∃ kvs' dd rr ak ww z cl x7 x8 gs,LI z0 kvs' dd rr ak ww z cl cs.length/\q=(.nx,E x7 x8 .un)/\h=GH kvs' dd rr ak ww gs:=by
  refine Yk _ (fun i env h=>∃ kvs' dd rr ak ww z cl x7 x8 gs,LI z0 kvs' dd rr ak ww z cl i/\env=E x7 x8 .un/\h=GH kvs' dd rr ak ww gs) (by rw [List.length_map];omega) ⟨kvs,[],[],[],[],z0,[],.un,.un,[],I0,rfl,rfl⟩ (fun i d hd env h zz=>?_) (fun env h zz=>?_)
  ·obtain ⟨kvs',dd,rr,ak,ww,z,cl,x7,x8,gs,I,rfl,rfl⟩:=zz
   have hi:=UA hd
   rw [List.length_map] at hi
   rw [List.getElem?_map] at hd
   obtain ⟨c,_,rfl⟩:=Option.map_eq_some_iff.mp hd
   obtain ⟨k2,d2,r2,a2,w2,z2,c2,x2,g2,I2,e2⟩:=kL I (by omega) h2 h10 (.lst (cs.map .int)) c x8 .un gs
   exact ⟨_,_,e2,k2,d2,r2,a2,w2,z2,c2,.val (.int c),x2,g2,I2,rfl,rfl⟩
  ·obtain ⟨kvs',dd,rr,ak,ww,z,cl,x7,x8,gs,I,rfl,rfl⟩:=zz
   rw [List.length_map] at I
   exact ⟨kvs',dd,rr,ak,ww,z,cl,x7,x8,gs,I,rfl,rfl⟩
 obtain ⟨rr',x8',x9',R,e2⟩:=ki I (by omega) (.lst (cs.map .int)) (.lst (ps.map .int)) x7 x8 .un gs
 refine ⟨kvs',dd,rr',ak,ww,gs,z,R,QK (env:=E x7 x8' x9') ((Qi (QA (U2 _ _))).trans ((Qi (QA (qF _ _))).trans ((Qi (QA (U2 _ _))).trans ((Qi (J1 (Xz (Qf rfl)) e)).trans ((Qi e2).trans (QL (Qf rfl)))))))⟩
def cD (cl:List Int):List (Key×DV):=cl.map fun n=>((.inl n:Key),DV.bl true)
theorem Uk {cl:List Int} {n:Int} (h:n∉cl):Q8 (cD cl) (.inl n)=none:=by
 unfold Q8
 rw [Option.map_eq_none_iff,List.find?_eq_none]
 intro x hx
 obtain ⟨m,hm,rfl⟩:=List.mem_map.mp hx
 simp only [decide_eq_true_eq]
 exact fun q=>h (Sum.inl.inj q▸hm)
theorem Gy {cl:List Int} {n:Int} (h:n∉cl):ZU (cD cl) (.inl n) (.bl true)=cD (cl++[n]):=by
 unfold ZU
 rw [Vk,Uk h]
 simp [cD]
def JO (a:Nat) (dds:List DV):OV:=.ins "Judge" [("deeds", .lst dds),("worths", .ref (a+1)),("begins", .ref (a+2)),("closed", .ref (a+3))]
def JH (w:Hs) (dds:List DV) (jk ak:List (Key×DV)) (cl:List Int) (gs:Hs):Hs:=w++(JO w.length dds::.dic jk::.dic ak::.dic (cD cl)::gs)
section
variable {w:Hs} {dds:List DV} {jk ak:List (Key×DV)} {cl:List Int} {gs:Hs}
theorem j0:(JH w dds jk ak cl gs)[w.length]?=some (JO w.length dds):=by simp [JH]
theorem j1:(JH w dds jk ak cl gs)[w.length+1]?=some (.dic jk):=by simp [JH]
theorem j2:(JH w dds jk ak cl gs)[w.length+2]?=some (.dic ak):=by simp [JH]
theorem j3:(JH w dds jk ak cl gs)[w.length+3]?=some (.dic (cD cl)):=by simp [JH]
theorem k1 (x:List (Key×DV)):(JH w dds jk ak cl gs).set (w.length+1) (.dic x)=JH w dds x ak cl gs:=by simp [JH,List.set_append]
theorem k2 (x:List (Key×DV)):(JH w dds jk ak cl gs).set (w.length+2) (.dic x)=JH w dds jk x cl gs:=by simp [JH,List.set_append]
theorem k3 (x:List Int):(JH w dds jk ak cl gs).set (w.length+3) (.dic (cD x))=JH w dds jk ak x gs:=by simp [JH,List.set_append]
theorem jf {f:Str} {d:DV} {env:En} {o:DEx} (ho:o env (JH w dds jk ak cl gs)=some (.ref w.length,JH w dds jk ak cl gs)) (h:List.lookup f [(("deeds" : Str),DV.lst dds),("worths", .ref (w.length+1)),("begins", .ref (w.length+2)),("closed", .ref (w.length+3))]=some d):ZI "Judge" f o env (JH w dds jk ak cl gs)=some (d,JH w dds jk ak cl gs):=QaA ho j0 h
def vI:DV->Int
 | .int i=>i
 | _=>0
theorem Dz.back {jk:List (Key×DV)} {z:Zs} (d:Dz jk z):∃ z1:Zs,jk=zE z1/\z1.Perm z:=by
 refine ⟨jk.map fun p=>(kI p.1,vI p.2),?_,?_⟩
 ·unfold zE
  rw [List.map_map]
  conv=>lhs;rw [<- List.map_id jk]
  refine List.map_congr_left fun p hp=>?_
  obtain ⟨q,_,rfl⟩:=List.mem_map.mp (d.mem_iff.mp hp)
  rfl
 ·refine (d.map _).trans (List.Perm.of_eq ?_)
  unfold zE
  rw [List.map_map]
  conv=>rhs;rw [<- List.map_id z]
  rfl
theorem Vi {z:Zs} (d:Dz jk z) (hr:Rise z):Q4 [.ref w.length] (JH w dds jk ak cl gs)=some (.ref (JH w dds jk ak cl gs).length,JH w dds jk ak cl (gs++[.lst (prD z)])):=by
 obtain ⟨z1,e,pm⟩:=d.back
 have nd:(z1.map (·.1)).Nodup:=(pm.map (fun p:Int×Int=>p.1)).nodup_iff.mpr (show (zK z).Nodup from hr.keys.imp fun q=>Int.ne_of_lt q)
 have es:V9 z1=z:=(qt nd pm.symm (hr.imp fun q=>Int.le_of_lt q)).symm
 have:=ug (f:=ZI "Judge" "worths" (Qd 0)) (env:=[.val (.ref w.length)]) (hp:=JH w dds jk ak cl gs) (z:=z1) (jf (Qf rfl) rfl) (by rw [j1,e];rfl) nd
 rw [es] at this
 refine QK (env:=[.val (.ref w.length)]) (QL (this.trans ?_))
 congr 2
 show (w++_)++[_]=w++_
 rw [List.append_assoc];rfl
theorem QbL (o:Option Int) (hp:Hs):neG (opt o) (opt o) hp=some (.bl false,hp):=yR (vM 0 o) (by decide) hp
theorem QaH {z z':Zs} {ak':List (Key×DV)} {n:Int} {de:De} {row:DV} {fin:Bool} (hf:RowFit n de row z ak z' ak' fin) (ns:∀ a b,de≠.str a b) (dz:Dz jk z) (hr:Rise z) (hl:z.length < 50000) :
    ∃ jk',Dz jk' z'/\ak'=ak/\ZP [.ref w.length,de.dv,opt (Jr z de.key)] (JH w dds jk ak cl gs)=some (.bl true,JH w dds jk' ak cl gs):=by
  let W:=JH w dds jk ak cl gs
  have ok:PyData.strOk "find" = true/\PyData.strOk "cut" = true/\PyData.strOk "put" = true:=by decide +kernel
  let E:DV->Int->Sl->En:=fun dv k x=>[.val (.ref w.length),.val dv,.val (opt (Jr z k)),x]
  have s1:∀ (wd:Str) (k:Int) (rest:List DV),QP 3 (Qh ixG (Qd 1) (eC (.int 1))) (E (.tup (.str wd::.int k::rest)) k .un) W=some ((.nx,E (.tup (.str wd::.int k::rest)) k (.val (.int k))),W):=fun wd k rest=>QA (QV (i:=1) (Qf rfl) rfl rfl)
  have t1:∀ (dv:DV) (k:Int),eB (Qh neG (Qd 2) (Zc "dict" JE (ZI "Judge" "worths" (Qd 0)) (Qa (Qd 3) (Qn)))) (E dv k (.val (.int k))) W=some (false,W):=fun dv k=>by
    have g:=Ux (o:=ZI "Judge" "worths" (Qd 0)) (k:=Qd 3) (env:=E dv k (.val (.int k))) (hp:=W) (a:=w.length+1) (i:=k) j1 (jf (Qf rfl) rfl) (Qf rfl)
    rw [dz.getD hr k] at g
    exact QU (Qp (x:=opt (Jr z k)) (y:=opt (Jr z k)) (Qf rfl) g (QbL _ _))
  cases de with
  | str a b=>exact absurd rfl (ns a b)
  | find k =>
    obtain ⟨_,_,_,rfl,rfl,_⟩:=hf
    exact ⟨jk,dz,rfl,QK (env:=E (De.find k).dv k (.val (.int k))) ((Qi (s1 _ _ _)).trans ((Qi ((QD (t1 _ _)).trans rfl)).trans ((Qi ((QD (Ja rfl ok.1 ok.2.2 (by decide +kernel))).trans rfl)).trans ((Qi ((QD (VI (Ja rfl ok.1 ok.2.1 (by decide +kernel)))).trans rfl)).trans (QL rfl)))))⟩
  | put k v =>
    obtain ⟨_,_,_,_,rfl,rfl,_⟩:=hf
    have pu:=J0 (e:=Qh ixG (Qd 1) (eC (.int 2))) (o:=ZI "Judge" "worths" (Qd 0)) (j:=Qd 3) (env:=E (De.put k v).dv k (.val (.int k))) (hp:=W) (a:=w.length+1) (n:=k) (d:=.int v) (QV (i:=2) (ds:=[.str "put", .int k,.int v]) (Qf rfl) rfl rfl) (jf (Qf rfl) rfl) (Qf rfl) j1 (by rw [dz.len];omega)
    rw [k1] at pu
    exact ⟨_,dz.put hr k v,rfl,QK (env:=E (De.put k v).dv k (.val (.int k))) ((Qi (s1 _ _ _)).trans ((Qi ((QD (t1 _ _)).trans rfl)).trans ((Qi ((Zk (Ja rfl ok.2.2 ok.2.2 (by decide +kernel))).trans pu)).trans ((Qi ((QD (VI (Ja rfl ok.2.2 ok.2.1 (by decide +kernel)))).trans rfl)).trans (QL rfl)))))⟩
  | cut k =>
    obtain ⟨_,_,_,rfl,rfl,_⟩:=hf
    have t2:Ys (eB (Qh eqG (Qh ixG (Qd 1) (eC (.int 0))) (eC (.str "cut")))) (eB (Qh vb (Qd 2) (eC .non))) (E (De.cut k).dv k (.val (.int k))) W=some ((Jr z k).isSome,W) :=
      (GN (Ja rfl ok.2.1 ok.2.1 (by decide +kernel))).trans (QU (Qp (x:=opt (Jr z k)) (y:=.non) (Qf rfl) rfl (Ze (VU _) W)))
    have g:=dz.get hr k
    cases q:Jr z k with
    | none =>
      rw [q] at g t2
      have dn:=jt g
      refine ⟨jk,?_,rfl,QK (env:=E (De.cut k).dv k (.val (.int k))) ((Qi (s1 _ _ _)).trans ((Qi ((QD (t1 _ _)).trans rfl)).trans ((Qi ((QD (Ja rfl ok.2.1 ok.2.2 (by decide +kernel))).trans rfl)).trans ((Qi ((QD t2).trans rfl)).trans (QL rfl)))))⟩
      have:=dz.drop k
      rwa [dn] at this
    | some v =>
      rw [q] at g t2
      have po:=Qbf (f:=ZI "Judge" "worths" (Qd 0)) (g:=Qd 3) (env:=E (De.cut k).dv k (.val (.int k))) (hp:=W) (n:=w.length+1) (k:=k) j1 (jf (Qf rfl) rfl) (Qf rfl) g
      rw [k1] at po
      exact ⟨_,dz.drop k,rfl,QK (env:=E (De.cut k).dv k (.val (.int k))) ((Qi (s1 _ _ _)).trans ((Qi ((QD (t1 _ _)).trans rfl)).trans ((Qi ((QD (Ja rfl ok.2.1 ok.2.2 (by decide +kernel))).trans rfl)).trans ((Qi ((Zk t2).trans (ZL po))).trans (QL rfl)))))⟩
end
theorem uy {f:DEx} {env:En} {hp hp1:Hs} {n:Nat} {ds:List DV} (h:f env hp=some (.ref n,hp1)) (hn:hp1[n]?=some (.lst ds)):xLs f env hp=some (nxW n,hp1):=by
 unfold xLs
 rw [Qe h]
 show (Q0 n >>= _) hp1=_
 rw [Qe (QO hn)];rfl
theorem UU {f g h:DEx} {env:En} {hp:Hs} {i j k:Int} (h1:f env hp=some (.int i,hp)) (h2:g env hp=some (.int j,hp)) (h3:h env hp=some (.int k,hp)):Z7 leD ltD f g h env hp=some (.bl (decide (i<=j)&&decide (j < k)),hp):=by
 unfold Z7
 rw [Qe h1,Qe h2,Qe (show leD (.int i) (.int j) hp=some (.bl (decide (i<=j)),hp) from rfl)]
 cases decide (i<=j)
 ·rfl
 ·exact (Qe (show asB (.bl true) hp=some (true,hp) from rfl)).trans ((Qe h3).trans rfl)
theorem gx {f g h:DEx} {env:En} {hp:Hs} {i j k:Int} (h1:f env hp=some (.int i,hp)) (h2:g env hp=some (.int j,hp)) (h3:h env hp=some (.int k,hp)):Z7 ltD ltD f g h env hp=some (.bl (decide (i < j)&&decide (j < k)),hp):=by
 unfold Z7
 rw [Qe h1,Qe h2,Qe (show ltD (.int i) (.int j) hp=some (.bl (decide (i < j)),hp) from rfl)]
 cases decide (i < j)
 ·rfl
 ·exact (Qe (show asB (.bl true) hp=some (true,hp) from rfl)).trans ((Qe h3).trans rfl)
section
variable {w:Hs} {dds:List DV} {jk ak:List (Key×DV)} {cl:List Int} {gs:Hs} {z:Zs}
theorem UR (x:OV):(JH w dds jk ak cl (gs++[x]))[(JH w dds jk ak cl gs).length]?=some x:=by
 have e:JH w dds jk ak cl (gs++[x])=JH w dds jk ak cl gs++[x]:=by show w++_=(w++_)++[x];rw [List.append_assoc];rfl
 rw [e];exact Uz _ _
theorem Kl {g e:Int} (dz:Dz jk z) (hr:Rise z) (hl:z.length < 50000) {x1 x2 x4:Sl}:Qh eqG (Q1 KO (Qa (Qd 3) (Qn))) (Q5) [.val (.ref w.length),x1,x2,.val (.tup (prD (Yn z g e))),x4,.val (.int g),.val (.int e)] (JH w dds jk ak cl gs)=some (.bl true,JH w dds jk ak cl (gs++[.lst (prD z)])):=by
 let E:En:=[.val (.ref w.length),x1,x2,.val (.tup (prD (Yn z g e))),x4,.val (.int g),.val (.int e)]
 let W:=JH w dds jk ak cl gs
 let W':=JH w dds jk ak cl (gs++[.lst (prD z)])
 have src:xLs (Xh "Judge" "plain_table" 1 Q4 (Qd 0) Qn) E W=some (nxW W.length,W'):=uy (YE (Qf rfl) j0 rfl kN rfl (Vi dz hr)) (UR _)
 have cx:=VC (nxt:=nxW W.length) (t:=fun d=>eB (Z7 leD ltD (Qd 1) (Qh ixG (Qd 0) (eC (.int 0))) (Qd 2)) (cE [5,6] E d)) (f:=fun d=>Qd 0 (cE [5,6] E d)) (p:=Qch g e) (hp:=W') (prD z) (fun i _=>VS (UR _) i) (fun d hd=>by
  obtain ⟨q,_,rfl⟩:=List.mem_map.mp hd
  exact QU (UU (Qf rfl) (QV (i:=0) (ds:=[.int q.1,.int q.2]) (Qf rfl) rfl rfl) (Qf rfl))) (fun d _=>rfl) (by unfold prD;rw [List.length_map];omega)
 rw [V1] at cx
 have hC:Q5 E W=some (.lst (prD (Yn z g e)),W'):=by
  unfold Q5 ZH
  rw [Qe src]
  exact (Qe cx).trans rfl
 exact Qp (x:=.lst (prD (Yn z g e))) (y:=.lst (prD (Yn z g e))) (hp1:=W) (X3 (ZF (Qf rfl)) rfl) hC (GR (Qbe (xT _)) (by decide) _)
theorem Qbv {n:Nat} {a b:Int} {row:DV} {z':Zs} {ak':List (Key×DV)} {fin:Bool} (hf:RowFit n (.str a b) row z ak z' ak' fin) (hc:(n:Int)∉cl) (hcl:cl.length < 50000) (dz:Dz jk z) (hr:Rise z) (hl:z.length < 50000) (ai:AI ak) (al:ak.length < 50000) :
  ∃ h p:Int,∃ ps x aim:DV,z'=z/\row=.tup [.str "read", .int h,.int n,.int p,ps,x,aim]/\Zq [.ref w.length,.int n,(De.str a b).dv,ps,aim] (JH w dds jk ak cl gs)=some (.bl true,JH w dds jk ak' (if fin=true then cl++[(n:Int)] else cl) (gs++[.lst (prD z)])):=by
 let W:=JH w dds jk ak cl gs
 let g:=bgn ak n a
 let E:DV->DV->Sl->Sl->En:=fun ps aim x5 x6=>[.val (.ref w.length),.val (.int n),.val (De.str a b).dv,.val ps,.val aim,x5,x6]
 have s1:∀ ps aim,QP 5 (Zc "dict" JE (ZI "Judge" "begins" (Qd 0)) (Qa (Qd 1) (Qa (Qh ixG (Qd 2) (eC (.int 1))) (Qn)))) (E ps aim .un .un) W=some ((.nx,E ps aim (.val (.int g)) .un),W):=fun ps aim=>by
  have:=xz (o:=ZI "Judge" "begins" (Qd 0)) (k:=Qd 1) (e:=Qh ixG (Qd 2) (eC (.int 1))) (env:=E ps aim .un .un) (hp:=W) (a:=w.length+2) (i:=n) (d:=.int a) j2 (jf (Qf rfl) rfl) (Qf rfl) (QV (i:=1) (ds:=[.str "stretch", .int a,.int b]) (Qf rfl) rfl rfl)
  rw [ai.bgn n a] at this
  exact QA this
 have s2:∀ ps aim,QP 6 (Qh ixG (Qd 2) (eC (.int 2))) (E ps aim (.val (.int g)) .un) W=some ((.nx,E ps aim (.val (.int g)) (.val (.int b))),W):=fun ps aim=>QA (QV (i:=2) (ds:=[.str "stretch", .int a,.int b]) (Qf rfl) rfl rfl)
 obtain ⟨h,p,e1,⟨e2,e3,e4⟩ | ⟨m,x,m1,m2,e2,e3,e4⟩⟩:=hf
 ·subst e1 e3 e4
  refine ⟨h,p,_,_,_,rfl,e2,?_⟩
  have pu:=J0 (e:=eC (.bl true)) (o:=ZI "Judge" "closed" (Qd 0)) (j:=Qd 1) (env:=E (.tup (prD (Yn z' g b))) .non (.val (.int g)) (.val (.int b))) (hp:=W) (a:=w.length+3) (n:=n) (d:=.bl true) rfl (jf (Qf rfl) rfl) (Qf rfl) j3 (by unfold cD;rw [List.length_map];omega)
  rw [Gy hc,k3] at pu
  exact QK (env:=E (.tup (prD (Yn z' g b))) .non (.val (.int g)) (.val (.int b))) ((Qi (s1 _ _)).trans ((Qi (s2 _ _)).trans ((Qi ((Zk (QU (Qp (x:=.non) (y:=.non) (Qf rfl) rfl rfl))).trans pu)).trans (QL (Kl dz hr hl)))))
 ·subst e1 e3 e4
  refine ⟨h,p,_,_,_,rfl,e2,?_⟩
  let E1:=E (.tup (prD (Yn z' g m))) (.int m) (.val (.int g)) (.val (.int b))
  have pu:=J0 (e:=Qd 4) (o:=ZI "Judge" "begins" (Qd 0)) (j:=Qd 1) (env:=E1) (hp:=W) (a:=w.length+2) (n:=n) (d:=.int m) (Qf rfl) (jf (Qf rfl) rfl) (Qf rfl) j2 (by omega)
  rw [k2] at pu
  have t:Xj (eB (Z7 ltD ltD (Qd 5) (Qd 4) (Qd 6))) E1 W=some (false,W):=by
   have:=JQ (QU (gx (f:=Qd 5) (g:=Qd 4) (h:=Qd 6) (env:=E1) (hp:=W) (i:=g) (j:=m) (k:=b) (Qf rfl) (Qf rfl) (Qf rfl)))
   rw [decide_eq_true m1,decide_eq_true m2] at this
   exact this
  exact QK (env:=E (.tup (prD (Yn z' g m))) (.int m) (.val (.int g)) (.val (.int m))) ((Qi (s1 _ _)).trans ((Qi (s2 _ _)).trans ((Qi ((QD (QU (Qp (x:=.int m) (y:=.non) (Qf rfl) rfl rfl))).trans ((Qi ((QD t).trans rfl)).trans ((Qi pu).trans (QA (Qf rfl)))))).trans (QL (Kl dz hr hl)))))
end
def wT:List (Str×Str):=[("find", "found"),("put", "put"),("cut", "cut"),("stretch", "read")]
def De.mw:De->Str
 | .find _ => "found"
 | .put _ _ => "put"
 | .cut _ => "cut"
 | .str _ _ => "read"
theorem Qcy (d:De):wT.lookup d.wd=some d.mw:=by
 have q:wT.lookup ("find" : Str)=some "found" /\ wT.lookup ("put" : Str)=some "put" /\ wT.lookup ("cut" : Str)=some "cut" /\ wT.lookup ("stretch" : Str)=some "read" := by decide +kernel
 cases d
 ·exact q.1
 ·exact q.2.1
 ·exact q.2.2.1
 ·exact q.2.2.2
theorem uV {f:DEx} {env:En} {hp:Hs} {d:De} (h:f env hp=some (.str d.wd,hp)):GP wT f env hp=some (.str d.mw,hp):=by
 unfold GP
 rw [Qe h]
 show (match wT.lookup d.wd with | some y=>pure (DV.str y) | none=>failure:M DV) hp=_
 rw [Qcy d];rfl
theorem De.mw_ok (d:De):PyData.strOk d.mw=true:=by
 have ok:PyData.strOk "found" = true/\PyData.strOk "put" = true/\PyData.strOk "cut" = true/\PyData.strOk "read" = true:=by decide +kernel
 cases d
 ·exact ok.1
 ·exact ok.2.1
 ·exact ok.2.2.1
 ·exact ok.2.2.2
theorem U1 {x:Str}:(x != x)=false:=by simp
theorem QaD {hp:Hs} {a:Nat} {cl:List Int} {n:Int} (h:hp[a]?=some (.dic (cD cl))) (hc:n∉cl):inG (.int n) (.ref a) hp=some (.bl false,hp):=by
 unfold inG
 have:QaT (.int n) (.ref a) hp=some (false,hp):=by
  show (Q0 a >>= _) hp=_
  rw [Qe (QO h)]
  show some ((Q8 (cD cl) (.inl n)).isSome,hp)=_
  rw [Uk hc];rfl
 rw [Qe this];rfl
section
variable {w:Hs} {dds:List DV} {jk ak:List (Key×DV)} {cl:List Int} {gs:Hs} {z:Zs}
theorem RowFit.word {n:Int} {de:De} {row:DV} {z':Zs} {ak':List (Key×DV)} {fin:Bool} (h:RowFit n de row z ak z' ak' fin):∃ (h p v:DV) (rest:List DV),row=.tup (.str de.mw::h::.int n::p::v::rest)/\((∀ a b,de≠.str a b)->v=opt (Jr z de.key)/\fin=true):=by
  cases de with
  | find k=>obtain ⟨h,p,rfl,_,_,e⟩:=h;exact ⟨_,_,_,_,rfl,fun _=>⟨rfl,e⟩⟩
  | cut k=>obtain ⟨h,p,rfl,_,_,e⟩:=h;exact ⟨_,_,_,_,rfl,fun _=>⟨rfl,e⟩⟩
  | put k v=>obtain ⟨h,p,x,rfl,_,_,e⟩:=h;exact ⟨_,_,_,_,rfl,fun _=>⟨rfl,e⟩⟩
  | str a b =>
    obtain ⟨h,p,_,⟨rfl,_⟩ | ⟨m,x,_,_,rfl,_⟩⟩:=h
    . exact ⟨_,_,_,_,rfl,fun q=>absurd rfl (q a b)⟩
    . exact ⟨_,_,_,_,rfl,fun q=>absurd rfl (q a b)⟩
theorem uY {n:Nat} {de:De} {row:DV} {z':Zs} {ak':List (Key×DV)} {fin:Bool} (hf:RowFit n de row z ak z' ak' fin) (hd:dds[n]?=some de.dv) (hc:(n:Int)∉cl) (hcl:cl.length < 50000) (dz:Dz jk z) (hr:Rise z) (hl:z.length < 50000) (ai:AI ak) (al:ak.length < 50000) :
    ∃ jk' gs',Dz jk' z'/\ZD [.ref w.length,row] (JH w dds jk ak cl gs)=some (.bl true,JH w dds jk' ak' (if fin=true then cl++[(n:Int)] else cl) gs'):=by
  let W:=JH w dds jk ak cl gs
  obtain ⟨h,p,v,rest,er,hv⟩:=hf.word
  obtain ⟨dr,ed⟩:=de.shape
  let E:Sl->Sl->En:=fun x2 x3=>[.val (.ref w.length),.val row,x2,x3]
  let E2:=E (.val (.int n)) (.val de.dv)
  have s1:QP 2 (Qh ixG (Qd 1) (eC (.int 2))) (E .un .un) W=some ((.nx,E (.val (.int n)) .un),W):=QA (QV (i:=2) (ds:=.str de.mw::h::.int n::p::v::rest) (Qf (by rw [<- er];rfl)) rfl rfl)
  have t1:eOr (Xj (eB (Z7 leD ltD (eC (.int 0)) (Qd 2) (Q1 Zx (Qa (ZI "Judge" "deeds" (Qd 0)) (Qn)))))) (eB (Qh inG (Qd 2) (ZI "Judge" "closed" (Qd 0)))) (E (.val (.int n)) .un) W=some (false,W):=by
    have c:=UU (f:=eC (.int 0)) (g:=Qd 2) (h:=Q1 Zx (Qa (ZI "Judge" "deeds" (Qd 0)) (Qn))) (env:=E (.val (.int n)) .un) (hp:=W) (i:=0) (j:=n) (k:=dds.length) rfl (Qf rfl) (Y6 (jf (Qf rfl) rfl))
    have hn:=UA hd
    rw [decide_eq_true (show (0:Int)<=n by omega),decide_eq_true (show (n:Int) < dds.length by omega)] at c
    exact (XU (JQ (QU c))).trans (QU (Qp (x:=.int n) (y:=.ref (w.length+3)) (Qf rfl) (jf (Qf rfl) rfl) (QaD j3 hc)))
  have s2:QP 3 (Qh ixG (ZI "Judge" "deeds" (Qd 0)) (Qd 2)) (E (.val (.int n)) .un) W=some ((.nx,E2),W):=QA (Xm (i:=n) (jf (Qf rfl) rfl) (Qf rfl) hd)
  have r0:Qh ixG (Qd 1) (eC (.int 0)) E2 W=some (.str de.mw,W):=QV (i:=0) (ds:=.str de.mw::h::.int n::p::v::rest) (Qf (by rw [<- er];rfl)) rfl rfl
  have d0:Qh ixG (Qd 3) (eC (.int 0)) E2 W=some (.str de.wd,W):=QV (i:=0) (ds:=.str de.wd::.int de.key::dr) (Qf (by rw [<- ed];rfl)) rfl rfl
  have t2:eB (Qh neG (Qh ixG (Qd 1) (eC (.int 0))) (GP [("find", "found"),("put", "put"),("cut", "cut"),("stretch", "read")] (Qh ixG (Qd 3) (eC (.int 0))))) E2 W=some (false,W):=QU (Qp (x:=.str de.mw) (y:=.str de.mw) r0 (uV d0) (neS W de.mw_ok de.mw_ok U1))
  have t3:∀ b,(de.mw == "read")=b->eB (Qh eqG (Qh ixG (Qd 1) (eC (.int 0))) (eC (.str "read"))) E2 W=some (b,W):=fun b hb=>QU (Qp (x:=.str de.mw) (y:=.str "read") r0 rfl (eqS W de.mw_ok (by decide +kernel) hb))
  have key:(∀ a b,de≠.str a b)->(de.mw == "read")=false->∃ jk' gs',Dz jk' z'/\ZD [.ref w.length,row] W=some (.bl true,JH w dds jk' ak' (if fin=true then cl++[(n:Int)] else cl) gs'):=fun hs hb=>by
    obtain ⟨ev,ef⟩:=hv hs
    have pu:=J0 (e:=eC (.bl true)) (o:=ZI "Judge" "closed" (Qd 0)) (j:=Qd 2) (env:=E2) (hp:=W) (a:=w.length+3) (n:=n) (d:=.bl true) rfl (jf (Qf rfl) rfl) (Qf rfl) j3 (by unfold cD;rw [List.length_map];omega)
    rw [Gy hc,k3] at pu
    obtain ⟨jk',dz',ea,ek⟩:=QaH (w:=w) (dds:=dds) (cl:=cl++[(n:Int)]) (gs:=gs) hf hs dz hr hl
    subst ea ef
    refine ⟨jk',gs,dz',?_⟩
    rw [if_pos rfl]
    exact QK (env:=E2) ((Qi s1).trans ((Qi ((QD t1).trans rfl)).trans ((Qi s2).trans ((Qi ((QD t2).trans rfl)).trans ((Qi ((QD (t3 _ hb)).trans rfl)).trans ((Qi pu).trans (QL (YE (Qf rfl) j0 rfl (Za (Qf rfl) (QV (i:=4) (ds:=.str de.mw::h::.int n::p::v::rest) (Qf (by rw [<- er];rfl)) rfl rfl)) rfl (by rw [ev];exact ek)))))))))
  cases de with
  | find k=>exact key (by simp) (show (("found" : Str) == "read")=false by decide +kernel)
  | put k v=>exact key (by simp) (show (("put" : Str) == "read")=false by decide +kernel)
  | cut k=>exact key (by simp) (show (("cut" : Str) == "read")=false by decide +kernel)
  | str a b =>
    obtain ⟨h',p',ps,x,aim,rfl,er',es⟩:=Qbv (w:=w) (dds:=dds) (gs:=gs) hf hc hcl dz hr hl ai al
    refine ⟨jk,_,dz,QK (env:=E2) ((Qi s1).trans ((Qi ((QD t1).trans rfl)).trans ((Qi s2).trans ((Qi ((QD t2).trans rfl)).trans (Z4 ((Zk (t3 true (show (("read" : Str) == "read")=true by decide +kernel))).trans (QL (YE (Qf rfl) j0 rfl (Gk (Qf rfl) (Qf rfl) (QV (i:=4) (ds:=[.str "read", .int h',.int n,.int p',ps,x,aim]) (Qf (by rw [<- er'];rfl)) rfl rfl) (QV (i:=6) (ds:=[.str "read", .int h',.int n,.int p',ps,x,aim]) (Qf (by rw [<- er'];rfl)) rfl rfl)) rfl es))))))))⟩
end
theorem jG:∀ (z:Zs) (acc:List (Key×DV)),((acc++zE z).map (·.1)).Nodup->Ye acc (zE z)=acc++zE z
  | [],acc,_=>by simp [Ye,zE]
  | p::z,acc,h=>by
    have ab:ZU acc (.inl p.1) (.int p.2)=acc++[(.inl p.1,.int p.2)]:=by
      unfold ZU
      rw [if_neg]
      intro q
      obtain ⟨x,hx,ex⟩:=List.any_eq_true.mp q
      rw [List.map_append] at h
      exact (List.nodup_append.mp h).2.2 x.1 (List.mem_map_of_mem hx) (.inl p.1) (by simp [zE]) (by simpa using ex)
    show Ye (ZU acc (.inl p.1) (.int p.2)) (zE z)=_
    rw [ab,jG z _ (by simpa [zE,List.append_assoc] using h)]
    simp [zE]
theorem U8:∀ z:Zs,prM (prD z)=some (zE z)
  | []=>rfl
  | p::z=>by
    show (match jc (.int p.1),prM (prD z) with
      | some k,some ps=>some ((k,DV.int p.2)::ps)
      | _,_=>none)=_
    rw [U8 z];rfl
theorem uz {z:Zs} (hr:Rise z):((zE z).map (·.1)).Nodup:=Dz.nodup (List.Perm.refl _) hr
theorem Qaw {z:Zs} (hr:Rise z) {f:DEx} {env:En} {hp:Hs} (h:f env hp=some (.lst (prD z),hp)):Q1 uR (Qa f Qn) env hp=some (.ref hp.length,hp++[.dic (zE z)]):=by
 refine X3 (ZF h) ?_
 show (lsG (.lst (prD z)) >>= fun ds=>opM (prM ds) >>= fun ps=>Jx (.dic (Ye [] ps))) hp=_
 rw [Qe (show lsG (.lst (prD z)) hp=some (prD z,hp) from rfl),U8]
 rw [Qe (show opM (some (zE z)) hp=some (zE z,hp) from rfl),jG z [] (by simpa using uz hr)]
 rfl
theorem Uy (w:Hs) (x:OV) (l:Hs):(w++x::l)[w.length]?=some x:=by simp
theorem Kg (w:Hs) (x y:OV) (l:Hs):(w++x::l).set w.length y=w++y::l:=by simp
theorem gd {z:Zs} (hr:Rise z) (dds:List DV) (w:Hs):Zt [.ref w.length,.lst dds,.lst (prD z)] (w++[.ins "Judge" []])=some (.non,JH w dds (zE z) [] [] []):=by
 let E:En:=[.val (.ref w.length),.val (.lst dds),.val (.lst (prD z))]
 let f1:List (Str×DV):=[("deeds", .lst dds)]
 let f2:List (Str×DV):=[("deeds", .lst dds),("worths", .ref (w.length+1))]
 let f3:List (Str×DV):=[("deeds", .lst dds),("worths", .ref (w.length+1)),("begins", .ref (w.length+2))]
 have l1:(w++[OV.ins "Judge" f1]).length=w.length+1:=by simp
 have l2:(w++[OV.ins "Judge" f2,.dic (zE z)]).length=w.length+2:=by simp
 have l3:(w++[OV.ins "Judge" f3,.dic (zE z),.dic []]).length=w.length+3:=by simp
 have s1:Xt "Judge" "deeds" (Qd 0) (Qd 1) E (w++[.ins "Judge" []])=some ((.nx,E),w++[.ins "Judge" f1]):=by
  have:=qD (f := "deeds") (e:=Qd 1) (o:=Qd 0) (env:=E) (hp:=w++[.ins "Judge" []]) (Qf rfl) (Qf rfl) (Uy w (.ins "Judge" []) []) (by simp)
  rw [Kg] at this
  exact this
 have s2:Xt "Judge" "worths" (Qd 0) (Q1 uR (Qa (Qd 2) (Qn))) E (w++[.ins "Judge" f1])=some ((.nx,E),w++[.ins "Judge" f2,.dic (zE z)]):=by
  have d:=Qaw hr (f:=Qd 2) (env:=E) (hp:=w++[.ins "Judge" f1]) (Qf rfl)
  rw [l1,List.append_assoc] at d
  simp only [List.cons_append,List.nil_append] at d
  have:=qD (f := "worths") (o:=Qd 0) d (Qf rfl) (Uy w (.ins "Judge" f1) [.dic (zE z)]) (by simp [f1])
  rw [Kg] at this
  exact this
 have s3:Xt "Judge" "begins" (Qd 0) Xi E (w++[.ins "Judge" f2,.dic (zE z)])=some ((.nx,E),w++[.ins "Judge" f3,.dic (zE z),.dic []]):=by
  have d:=qF (w++[.ins "Judge" f2,.dic (zE z)]) E
  rw [l2,List.append_assoc] at d
  simp only [List.cons_append,List.nil_append] at d
  have:=qD (f := "begins") (o:=Qd 0) d (Qf rfl) (Uy w (.ins "Judge" f2) [.dic (zE z),.dic []]) (by simp [f2])
  rw [Kg] at this
  exact this
 have s4:Xt "Judge" "closed" (Qd 0) Xi E (w++[.ins "Judge" f3,.dic (zE z),.dic []])=some ((.nx,E),JH w dds (zE z) [] [] []):=by
  have d:=qF (w++[.ins "Judge" f3,.dic (zE z),.dic []]) E
  rw [l3,List.append_assoc] at d
  simp only [List.cons_append,List.nil_append] at d
  have:=qD (f := "closed") (o:=Qd 0) d (Qf rfl) (Uy w (.ins "Judge" f3) [.dic (zE z),.dic [],.dic []]) (by simp [f3])
  rw [Kg] at this
  exact this
 exact ko (env:=E) ((Qi s1).trans ((Qi s2).trans ((Qi s3).trans s4)))
theorem gz {z:Zs} (hr:Rise z) (dds:List DV) (w:Hs) {fa:DAx} {env:En} (h:fa env w=some ([.lst dds,.lst (prD z)],w)):Us "Judge" 3 Zt fa env w=some (.ref w.length,JH w dds (zE z) [] [] []):=by
 unfold Us
 rw [Qe h]
 refine (Qe (show Qz (decide (2+1=3)) w=some ((),w) from rfl)).trans ?_
 refine (Qe (show Jx (.ins "Judge" []) w=some (.ref w.length,w++[.ins "Judge" []]) from rfl)).trans ?_
 rw [Qe (gd hr dds w)];rfl
theorem kK {d:DV} (h:RowOk d) {f g:DEx} {env:En} {w:Hs} (hf:f env w=some (d,w)) (hg:g env w=some (.tup G2,w)):eB (Qh inG (Qh ixG f (eC (.int 0))) g) env w=some (isM d,w):=by
 obtain ⟨x,rest,rfl,hw,hr⟩:=h
 exact QU (Qp (Qp hf rfl (uu (i:=0) rfl w)) hg (QaE rfl (by decide) w))
theorem QaU {R:List DV} (hR:∀ d∈R,RowOk d) (hl:R.length < 100000) (w:Hs):YS [.lst R] w=some (.lst (R.filter isM),w):=by
 refine QK (env:=[.val (.lst R)]) (QL ?_)
 have cx:=Kv (hp:=w) (t:=fun d=>eB (Qh inG (Qh ixG (Qd 0) (eC (.int 0))) (eC (.tup [.str "found", .str "put", .str "cut", .str "read"]))) (cE [] [.val (.lst R)] d)) (f:=fun d=>Qd 0 (cE [] [.val (.lst R)] d)) (p:=isM) R (fun d hd=>kK (hR d hd) rfl rfl) (fun d _=>rfl) hl
 unfold qh ZH
 show ((xLs (Qd 0) [.val (.lst R)]) >>= _) w=_
 rw [Qe (Xz (f:=Qd 0) (env:=[.val (.lst R)]) (ds:=R) (hp:=w) (hp1:=w) rfl)]
 exact (Qe cx).trans rfl
theorem jD {z0 z:Zs} {dd:List De} {rr:List DV} {ak:List (Key×DV)} {cl:List Int} (hr:Rise z0) (zl:z0.length<=400) (ru:Run dd (rr.filter isM) z0 [] [] z ak cl) (ro:∀ d∈rr,RowOk d) (rl:rr.length<=5000) (w:Hs) :
  Rise z/\∃ l a,Yh [.lst rr,.lst (dd.map De.dv),.lst (prD z0)] w=some (.tup [.str "fits", .ref (w.length+a)],w++l)/\l[a]?=some (.lst (prD z)):=by
 let dds:=dd.map De.dv
 let tl:=rr.filter isM
 have tll:tl.length<=5000:=Nat.le_trans (List.length_filter_le _ _) rl
 let E:Sl->Sl->Sl->En:=fun x3 x4 x5=>[.val (.lst rr),.val (.lst dds),.val (.lst (prD z0)),x3,x4,x5]
 let E2:Sl->En:=fun x5=>E (.val (.ref w.length)) (.val (.lst tl)) x5
 obtain ⟨q,h,e,jk,gs,ak1,cl1,x5,hr1,dz1,rfl,rfl⟩:WP (J7 (nxD (Zl 0 tl.length)) (fun d env=>do let env' <- gN 5 d env;JT env') 100000 0 (E2 .un)) (JH w dds (zE z0) [] [] []) fun q h=>∃ jk gs ak1 cl1 x5,Rise z/\Dz jk z/\q=(.nx,E2 x5)/\h=JH w dds jk ak1 cl1 gs:=by
  refine Yk _ (fun i env h=>∃ jk gs z1 ak1 cl1 x5,Rise z1/\Dz jk z1/\AI ak1/\z1.length<=400+i/\ak1.length<=i/\cl1.length<=i/\Run dd (tl.drop i) z1 ak1 cl1 z ak cl/\env=E2 x5/\h=JH w dds jk ak1 cl1 gs) (by rw [ZV];omega) ⟨zE z0,[],z0,[],[],.un,hr,List.Perm.refl _,(fun n v e=>by cases e),zl,Nat.le_refl _,Nat.le_refl _,ru,rfl,rfl⟩ (fun i d hd env h zz=>?_) (fun env h zz=>?_)
  ·obtain ⟨jk,gs,z1,ak1,cl1,x5,hr1,dz1,ai1,b1,b2,b3,ru1,rfl,rfl⟩:=zz
   obtain ⟨hi,rfl⟩:=xU hd
   rw [List.drop_eq_getElem_cons hi] at ru1
   obtain ⟨n,de,z2,ak2,fin,hde,hc,hf,ru2⟩:=ru1
   obtain ⟨jk',gs',dz',ef⟩:=uY (w:=w) (dds:=dds) (gs:=gs) hf (by show (dd.map De.dv)[n]?=_;rw [List.getElem?_map,hde];rfl) hc (by omega) dz1 hr1 (by omega) ai1 (by omega)
   obtain ⟨ai2,hr2,c1,c2⟩:=hf.ai hr1 ai1
   have body:(do let env' <- gN 5 (.int (i:Int)) (E2 x5);JT env') (JH w dds jk ak1 cl1 gs)=JT (E2 (.val (.int i))) (JH w dds jk ak1 cl1 gs):=rfl
   have t:=JQ (QU (YE (o:=Qd 3) (m := "fits") (n:=2) (F:=ZD) (fa:=Qa (Qh ixG (Qd 4) (Qd 5)) Qn) (env:=E2 (.val (.int i))) (Qf rfl) (j0 (jk:=jk) (ak:=ak1) (cl:=cl1) (gs:=gs)) rfl (ZF (Xm (i:=i) (ds:=tl) (Qf rfl) (Qf rfl) (List.getElem?_eq_getElem hi))) rfl ef))
   refine ⟨_,_,body.trans ((QD t).trans rfl),jk',gs',z2,ak2,_,.val (.int i),hr2,dz',ai2,by omega,by omega,?_,ru2,rfl,rfl⟩
   split
   ·simp;omega
   ·omega
  ·obtain ⟨jk,gs,z1,ak1,cl1,x5,hr1,dz1,ai1,b1,b2,b3,ru1,rfl,rfl⟩:=zz
   rw [ZV,List.drop_length] at ru1
   obtain ⟨rfl,rfl,rfl⟩:=ru1
   exact ⟨jk,gs,ak,cl,x5,hr1,dz1,rfl,rfl⟩
 refine ⟨hr1,JO w.length dds::.dic jk::.dic ak1::.dic (cD cl1)::(gs++[.lst (prD z)]),gs.length+4,?_,by simp⟩
 have L:qN (E2 .un) (JH w dds (zE z0) [] [] [])=some ((.nx,E2 x5),JH w dds jk ak1 cl1 gs):=J1 (Uf (xF (m:=tl.length) (ZF (Y6 (Qf rfl))) (by omega))) e
 have ea:(JH w dds jk ak1 cl1 gs).length=w.length+(gs.length+4):=by simp [JH]
 have tb:=Vi (w:=w) (dds:=dds) (ak:=ak1) (cl:=cl1) (gs:=gs) dz1 hr1
 rw [ea] at tb
 exact QK (env:=E2 x5) ((Qi (QA (gz hr dds w (Za (Qf rfl) (Qf rfl))))).trans ((Qi (QA (QR (ZF (Qf rfl)) rfl (QaU ro (by omega) _)))).trans ((Qi L).trans (QL (ZW (Za rfl (YE (Qf rfl) j0 rfl kN rfl tb)) (by simp))))))
theorem Ul (ns:List Int) (k:Nat) (hl:ns.length<=63):∃ x,Zj [.lst (ns.map .int),.int k]=pure (.int x):=by
 by_cases h:k < ns.length
 ·have a:=j4 (xs:=ns.map DV.int) (j:=k) (v:=.int ns[k]) (by simp [h])
  refine ⟨ns[k],?_⟩
  have h':(k:Int) < (ns.length:Int):=by omega
  simp [Zj,Jy,Zm,QB,QP,Q7,Qaf,sIf,Zp,JI,yB,kq,y0,Qh,Qd,eC,eB,asB,Ys,eOr,Xj,jw,QbK,kT,eIf,YZ,Qn,Qa,ZJ,Je,Qv,Q1,Qz,gN,yk,YQ,UB,UW,US,Uw,yS,U7,Qaa,Qcg,xu,U0,KM,ixD,asI,a,h']
 ·have h':¬ (k:Int) < (ns.length:Int):=by omega
  exact ⟨0,by simp [Zj,Jy,Zm,QB,QP,Q7,Qaf,sIf,Zp,JI,yB,kq,y0,Qh,Qd,eC,eB,asB,Ys,eOr,Xj,jw,QbK,kT,eIf,YZ,Qn,Qa,ZJ,Je,Qv,Q1,Qz,gN,yk,YQ,UB,UW,US,Uw,yS,U7,Qaa,Qcg,xu,U0,KM,h']⟩
theorem GJ {T:Nat} {w:Hs} {kvs:List (Key×DV)} {z:Zs} (hT:w[T]?=some (.dic kvs)) (dz:Dz kvs z) (hr:Rise z) (hl:z.length < 50000) (S:DV) (x1 x3 x4 x5 x6 x7 x8:Sl):jT [.val S,x1,.val (.ref T),x3,x4,x5,x6,x7,x8] w=some (.lst (prD z),w):=by
 let E:En:=[.val S,x1,.val (.ref T),x3,x4,x5,x6,x7,x8]
 have cx:=yu (t:=fun d=>kG (cE [2] E d)) (f:=fun d=>ZJ (Qa (Qd 0) (Qa (Qh ixG (Qd 1) (Qd 0)) (Qn))) (cE [2] E d)) (hp:=w) z (fun _=>true) (fun q _=>rfl) (fun q hq=>ZW (Za (Qf rfl) (Qp (x:=.ref T) (y:=.int q.1) (Qf rfl) (Qf rfl) (xH hT (dz.val hr hq)))) (by simp)) (by omega)
 rw [List.filter_eq_self.mpr (fun _ _=>rfl)] at cx
 unfold jT ZH
 show (xLs (Q1 YO (Qa (Qd 2) Qn)) E >>= _) w=_
 rw [Qe (Xz (Ki dz hr (Qf rfl) hT))]
 exact (Qe cx).trans rfl
theorem yO {a:Nat} {w:Hs} {z:Zs} (h:w[a]?=some (.lst (prD z))) (hl:z.length < 50000):Jk [.tup [.str "fits", .ref a],.lst (prD z)] w=some (.bl true,w):=by
 let F:DV:=.tup [.str "fits", .ref a]
 let E:Sl->En:=fun x=>[.val F,.val (.lst (prD z)),x]
 have i1:∀ x,Qh ixG (Qd 0) (eC (.int 1)) (E x) w=some (.ref a,w):=fun x=>QV (i:=1) (ds:=[.str "fits", .ref a]) (Qf rfl) rfl rfl
 have ok:PyData.strOk "fits" = true:=by decide +kernel
 have t:eOr (Xj (eB (qw "tuple" (Qd 0)))) (eOr (eB (Qh neG (Q1 Zx (Qa (Qd 0) (Qn))) (eC (.int 2)))) (eOr (eB (Qh neG (Qh ixG (Qd 0) (eC (.int 0))) (eC (.str "fits")))) (Xj (eB (yE "list" (Qh ixG (Qd 0) (eC (.int 1)))))))) (E .un) w=some (false,w):=by
  rw [XU (JQ (QU (show qw "tuple" (Qd 0) (E .un) w=some (.bl true,w) from rfl)))]
  rw [XU (QU (Qp (x:=.int 2) (y:=.int 2) (show Q1 Zx (Qa (Qd 0) Qn) (E .un) w=some (.int 2,w) from rfl) rfl (yR (JZ 0 2) (by decide) w)))]
  rw [XU (QU (Qp (x:=.str "fits") (y:=.str "fits") (QV (i:=0) (ds:=[.str "fits", .ref a]) (Qf rfl) rfl rfl) rfl (neS w ok ok U1)))]
  exact JQ (QU (ge (i1 _) h))
 obtain ⟨q,h',e,x,rfl,rfl⟩:WP (J7 (nxW a) (fun d env=>do let env' <- gN 2 d env;JU env') 100000 0 (E .un)) w fun q h'=>∃ x,q=(.nx,E x)/\h'=w:=by
  refine jX (prD z) (fun i env h'=>∃ x,env=E x/\h'=w) (by unfold prD;rw [List.length_map];omega) (fun i env h' _ zz=>?_) ⟨.un,rfl,rfl⟩ (fun i d hd env h' zz=>?_) (fun env h' zz=>?_)
  ·obtain ⟨x,rfl,rfl⟩:=zz;exact VS h i
  ·obtain ⟨x,rfl,rfl⟩:=zz
   obtain ⟨p,_,rfl⟩:=List.mem_map.mp (List.mem_of_getElem? hd)
   refine ⟨(.nx,E (.val (.tup [.int p.1,.int p.2]))),h',?_,⟨_,rfl,rfl⟩⟩
   show JU (E (.val (.tup [.int p.1,.int p.2]))) h'=_
   refine (QD ?_).trans rfl
   rw [XU (JQ (QU (show qw "tuple" (Qd 2) (E (.val (.tup [.int p.1,.int p.2]))) h'=some (.bl true,h') from rfl)))]
   have b0:qw "bool" (Qh ixG (Qd 2) (eC (.int 0))) (E (.val (.tup [.int p.1,.int p.2]))) h'=some (.bl false,h'):=by
    unfold qw;rw [Qe (QV (i:=0) (ds:=[.int p.1,.int p.2]) (Qf rfl) rfl rfl)];rfl
   have b1:qw "bool" (Qh ixG (Qd 2) (eC (.int 1))) (E (.val (.tup [.int p.1,.int p.2]))) h'=some (.bl false,h'):=by
    unfold qw;rw [Qe (QV (i:=1) (ds:=[.int p.1,.int p.2]) (Qf rfl) rfl rfl)];rfl
   exact (XU (QU b0)).trans (QU b1)
  ·obtain ⟨x,rfl,rfl⟩:=zz;exact ⟨x,rfl,rfl⟩
 exact QK (env:=E x) ((Qi ((QD t).trans rfl)).trans ((Qi (jL (Kp (i1 _) h) e)).trans (QL (Qp (x:=.ref a) (y:=.lst (prD z)) (i1 _) (Qf rfl) (GQ h (xT z) (by decide))))))
theorem De.pl (d:De):Pl 1 d.dv:=by
 have pi:∀ i:Int,Pl 0 (.int i):=fun i=>JZ 0 i
 obtain ⟨rest,e⟩:=d.shape
 cases d<;>(refine VZ fun x hx=>?_;simp only [List.mem_cons,List.not_mem_nil,or_false] at hx;rcases hx with rfl | hx)
 ·exact zF (De.wd_ok (.find 0))
 ·rw [hx];exact pi _
 ·exact zF (De.wd_ok (.put 0 0))
 ·rcases hx with rfl | rfl<;>exact pi _
 ·exact zF (De.wd_ok (.cut 0))
 ·rw [hx];exact pi _
 ·exact zF (De.wd_ok (.str 0 0))
 ·rcases hx with rfl | rfl<;>exact pi _
theorem eq3 {hp:Hs} {rr dds tb:List DV} (h2:hp[2]?=some (.lst rr)) (h1:hp[1]?=some (.lst dds)) (p2:∀ d∈rr,Pl 3 d) (p1:∀ d∈dds,Pl 3 d) (p3:∀ d∈tb,Pl 3 d):Xl (.lst [.lst rr,.lst dds,.lst tb]) (.lst [.ref 2,.ref 1,.lst tb]) hp=some (true,hp):=by
 have ph:Pl 5 (.lst [.lst rr,.lst dds,.lst tb]):=fun d hd=>by
  simp only [List.mem_cons,List.not_mem_nil,or_false] at hd
  rcases hd with rfl | rfl | rfl
  ·exact p2
  ·exact p1
  ·exact p3
 have lst:∀ ds:List DV,(∀ d∈ds,Pl 3 d)->(ds.mapM (drf 38 hp)).map DV.lst=some (.lst ds):=fun ds h=>by rw [Ji fun d hd=>YX 3 d 34 hp (h d hd)];rfl
 have e2:drf 39 hp (.ref 2)=some (.lst rr):=by
  show (match hp[2]? with | some (.lst ds)=>(ds.mapM (drf 38 hp)).map DV.lst | _=>none)=_
  rw [h2];exact lst rr p2
 have e1:drf 39 hp (.ref 1)=some (.lst dds):=by
  show (match hp[1]? with | some (.lst ds)=>(ds.mapM (drf 38 hp)).map DV.lst | _=>none)=_
  rw [h1];exact lst dds p1
 have e3:drf 39 hp (.lst tb)=some (.lst tb):=lst tb p3
 have ey:drf 40 hp (.lst [.ref 2,.ref 1,.lst tb])=some (.lst [.lst rr,.lst dds,.lst tb]):=by
  show ([DV.ref 2,.ref 1,.lst tb].mapM (drf 39 hp)).map DV.lst=_
  simp only [List.mapM_cons,List.mapM_nil,e1,e2,e3];rfl
 have s:=Y1 ph (by decide) hp
 have dx:=Xf ph (by decide) hp
 unfold Xl xo at s ⊢
 have s':((Option.map _ (drf 40 hp (.lst [.lst rr,.lst dds,.lst tb]))).bind _)=_:=s
 show ((Option.map _ (drf 40 hp (.lst [.lst rr,.lst dds,.lst tb]))).bind _)=_
 rw [dx] at s' ⊢
 have s2:((Option.map _ (drf 40 hp (.lst [.lst rr,.lst dds,.lst tb]))).bind _)=_:=s'
 show ((Option.map _ (drf 40 hp (.lst [.ref 2,.ref 1,.lst tb]))).bind _)=_
 rw [dx] at s2
 rw [ey]
 exact s2
theorem yZ {w l:Hs} {a:Nat} {o:OV} (h:l[a]?=some o):(w++l)[w.length+a]?=some o:=by
 rw [List.getElem?_append_right (Nat.le_add_right _ _),Nat.add_sub_cancel_left];exact h
theorem vh (ns:List Int) (hn:ns.length<=63):∃ hp,yh [.lst (ns.map .int)] []=some (.bl true,hp):=by
 let S:DV:=.lst (ns.map .int)
 obtain ⟨c0,ec0⟩:=Ul ns 0 hn
 obtain ⟨c1,ec1⟩:=Ul ns 1 hn
 obtain ⟨ps,p2,p10,ep⟩:=gR c0 []
 obtain ⟨kvs,z0,hr0,dz0,zl0,et⟩:=uo c1 p10 []
 let cs:=(ns.drop 2).take 250
 have cl:cs.length<=250:=List.length_take_le _ _
 obtain ⟨kvs',dd,rr,ak,ww,gs,z,R,er⟩:=kn hr0 dz0 zl0 p2 p10 cl
 obtain ⟨ak1,cl1,ru⟩:=R.run
 let W:=GH kvs' dd rr ak ww gs
 let dds:=dd.map De.dv
 obtain ⟨hr,l,a,ej,la⟩:=jD hr0 (by omega) ru R.rows R.rl W
 have rl:=R.rl
 have zl:=R.zl
 let W1:=W++l
 have ha1:W1[W.length+a]?=some (.lst (prD z)):=yZ la
 let l':=l.set a (.lst [])
 let W2:=W++l'
 have hset:W1.set (W.length+a) (.lst [])=W2:=by show (W++l).set (W.length+a) _=W++l.set a _;simp [List.set_append]
 obtain ⟨_,m,b,ej2,mb⟩:=jD hr0 (by omega) ru R.rows R.rl W2
 let W3:=W2++m
 have ha3:W3[W2.length+b]?=some (.lst (prD z)):=yZ mb
 let P:DV:=.lst (ps.map .int)
 let T:DV:=.lst (prD z0)
 let H:DV:=.lst [.lst rr,.lst dds,.lst (prD z0)]
 let F:DV:=.tup [.str "fits", .ref (W.length+a)]
 let E:Sl->Sl->Sl->Sl->Sl->Sl->Sl->Sl->En:=fun x1 x2 x3 x4 x5 x6 x7 x8=>[.val S,x1,x2,x3,x4,x5,x6,x7,x8]
 have q3:∀ hp:Hs,hp[2]?=some (.lst rr)->hp[1]?=some (.lst dds)->Xl H (.lst [.ref 2,.ref 1,T]) hp=some (true,hp):=fun hp g2 g1=>eq3 g2 g1 (fun d hd=>(R.rows d hd).pl) (fun d hd=>by obtain ⟨x,_,rfl⟩:=List.mem_map.mp hd;exact (De.pl x).mono (by decide)) (fun d hd=>(xT z0 d hd).mono (by decide))
 let Ef:=E (.val P) (.val (.ref 0)) (.val T) (.val (.ref 1)) (.val (.ref 2)) (.val (.lst (prD z))) (.val H) (.val F)
 have r3:∀ hp:Hs,Je (Qa (Qd 5) (Qa (Qd 4) (Qa (Qd 3) (Qn)))) Ef hp=some (.lst [.ref 2,.ref 1,T],hp):=fun hp=>rfl
 have hix:∀ (i:Nat) (x:DV) (hp:Hs) (x8:Sl),[DV.lst rr,.lst dds,.lst (prD z0)][i]?=some x->Qh ixG (Qd 7) (eC (.int i)) (E (.val P) (.val (.ref 0)) (.val T) (.val (.ref 1)) (.val (.ref 2)) (.val (.lst (prD z))) (.val H) x8) hp=some (x,hp):=fun i x hp x8 hx=>Xm (i:=i) (ds:=[.lst rr,.lst dds,.lst (prD z0)]) (Qf rfl) rfl hx
 refine ⟨W3,QK (env:=Ef) ?_⟩
 refine (Qi (QA (QR (ZF (QR (Za (Qf rfl) rfl) rfl (Ze ec0 []))) rfl ep))).trans ?_
 refine (Qi (QA (QR (Za (QR (Za (Qf rfl) rfl) rfl (Ze ec1 [])) (Qf rfl)) rfl et))).trans ?_
 refine (Qi (QA (d:=T) (hp1:=[.dic kvs]) (GJ (T:=0) rfl dz0 hr0 (by omega) S (.val P) .un .un .un .un .un .un))).trans ?_
 refine (Qi (QA (d:=.ref 1) (hp1:=[.dic kvs,.lst []]) rfl)).trans ?_
 have sl:eSl (Qd 0) (J5 (eC (.int 2))) (J5 (eC (.int 252))) (E (.val P) (.val (.ref 0)) (.val T) (.val (.ref 1)) .un .un .un .un) [.dic kvs,.lst []]=some (.lst (cs.map .int),[.dic kvs,.lst []]):=by
  have:=ub (f:=Qd 0) (g:=eC (.int 2)) (h:=eC (.int 252)) (a:=2) (b:=252) (ds:=ns.map .int) (env:=E (.val P) (.val (.ref 0)) (.val T) (.val (.ref 1)) .un .un .un .un) (hp:=[.dic kvs,.lst []]) (Qf rfl) rfl rfl (by decide)
  rw [<- List.map_drop,<- List.map_take] at this
  exact this
 refine (Qi (QA (d:=.ref 2) (hp1:=W) (QR (Gk sl (Qf rfl) (Qf rfl) (Qf rfl)) rfl er))).trans ?_
 refine (Qi (QA (d:=.lst (prD z)) (hp1:=W) (GJ (T:=0) rfl R.dz R.rise (by omega) S (.val P) (.val T) (.val (.ref 1)) (.val (.ref 2)) .un .un .un))).trans ?_
 refine (Qi (QA (d:=H) (hp1:=W) rfl)).trans ?_
 refine (Qi (QA (d:=F) (hp1:=W1) (QR (qi (hix 0 _ W .un rfl) (hix 1 _ W .un rfl) (hix 2 _ W .un rfl)) rfl ej))).trans ?_
 have t:eOr (Xj (eB (Qv 2 Jk (Qa (Qd 8) (Qa (Qd 6) (Qn)))))) (eB (Qh neG (Qd 7) (Je (Qa (Qd 5) (Qa (Qd 4) (Qa (Qd 3) (Qn))))))) Ef W1=some (false,W1):=by
  refine (XU (JQ (QU (QR (Za (Qf rfl) (Qf rfl)) rfl (yO ha1 (by omega)))))).trans ?_
  refine QU (Qp (x:=H) (y:=.lst [.ref 2,.ref 1,T]) (Qf rfl) (r3 _) ?_)
  unfold neG
  rw [Qe (q3 W1 rfl rfl)];rfl
 refine (Qi ((QD t).trans rfl)).trans ?_
 have cr:=GB (o:=Qh ixG (Qd 8) (eC (.int 1))) (env:=Ef) (hp:=W1) (a:=W.length+a) (QV (i:=1) (ds:=[.str "fits", .ref (W.length+a)]) (Qf rfl) rfl rfl) ha1
 rw [hset] at cr
 refine (Qi (ZL cr)).trans (QL ?_)
 rw [GM (b:=true) (hp1:=W3)]
 ·refine Qp (x:=H) (y:=.lst [.ref 2,.ref 1,T]) (Qf rfl) (r3 _) ?_
  unfold eqG
  rw [Qe (q3 W3 rfl rfl)];rfl
 ·exact QR (Za (QR (qi (hix 0 _ W2 _ rfl) (hix 1 _ W2 _ rfl) (hix 2 _ W2 _ rfl)) rfl ej2) (Qf rfl)) rfl (yO ha3 (by omega))
theorem qy {K:PySem.W.Frag} {a0:Addr} {d0:Option Addr} {n0:Nat} {s0:Array (Option Value)} {t1 t2 t3 t4:Tok} (l0:K.lookup a0=some ⟨.type "tuple", d0,.seq #[.str "found" t1,.str "put" t2,.str "cut" t3,.str "read" t4] n0,s0⟩):KRep K (.tup [.str "found", .str "put", .str "cut", .str "read"]) (.ref a0):=(QaM (xs:=[.str "found", .str "put", .str "cut", .str "read"]) l0 (Nat.le_of_ble_eq_true rfl) (.cons ⟨_,rfl⟩ (.cons ⟨_,rfl⟩ (.cons ⟨_,rfl⟩ (.cons ⟨_,rfl⟩ .nil)))) (YA xI (YA xI (YA xI (YA xI gp)))))
theorem QaN {P:Program} {w:World} {K:PySem.W.Frag} {h:Heap} {mg:Str->Option Value} {fa f:Addr} {oc kV dc pm cd ct:Value} {od an:Option Addr} {sl:Array (Option Value)} (X:K.In h) (G:h.Ns mainGlobals mg) (hfa:mg "law" = some (.ref fa)) (Z:Al K mg) (n:PySem.W.nsIn K mainGlobals "law" = some (some (.ref f))) (l:K.lookup f=some ⟨oc,od,.func (PySem.W.fnOf "law" "law" (Zu qo) (Q3 qo) (Qo qo) .none kV dc pm an cd ct),sl⟩) (c:PySem.W.codeIn K cd "law" = true) (k:PySem.W.keepIn K (.ref f)=true):∃ fd:FuncData,(∀ (s:Shared) (v:Value),BindsTo s fd ⟨[v],[]⟩ [("script", v)])/\∀ base:Heap,K.In base->base.Ns mainGlobals mg->Xc P w K mg base CX0 5 fa fd ["script"] (spD K 1 yh):=by
 cases hfa.symm.trans (PySem.W.mg_of X G n)
 exact ⟨PySem.W.fnOf "law" "law" (Zu qo) (Q3 qo) (Qo qo) .none kV dc pm an cd ct,fun s v=>.of_eq rfl,fun base _ _=>law_fn Z (xy l c k)⟩
theorem Qc7 {l:PySem.W.OpenLaw} {q:Program} {loose:List Str} {XP:(Str->Option Value)->Heap->Prop} {YP:World->Heap->Prop} {d:DefRec} {K:Params->PySem.W.Frag} (hn:l.most=some 63) (hdf:d.params.defaults=[])
  (hY:∀ (w:World) (h:Heap),YP w h->(K w.params).In h)
  (F:∀ (w:World) (mg:Str->Option Value) (fa:Addr) (h:Heap),(K w.params).In h->h.Ns mainGlobals mg->mg d.name=some (.ref fa) ->
   ∃ fd:FuncData,(∀ (s:Shared) (u:Value),BindsTo s fd ⟨[u],[]⟩ [("script", u)])/\∀ base:Heap,(K w.params).In base->base.Ns mainGlobals mg->Xc l.prog w (K w.params) mg base CX0 5 fa fd ["script"] (spD (K w.params) 1 yh)) :
  PySem.W.WalkO q loose XP YP l.row.toRowW d [] (fun f vs=>PySem.call f vs) :=
 L2.Ko (n:=63) (k:=5) (x := "script") (CX:=fun _=>CX0) (sp:=fun w=>spD (K w.params) 1 yh) hn (by decide) hdf ⟨rfl,by decide,by decide⟩ hY F (fun w _ a ns hl _ hS=>QaO (vh ns hl) hS) fun _ _ _ _ _ z=>z
end K42
open PySem PySem.W PyProof.Rows
open D in
set_option maxRecDepth 100000 in
set_option maxHeartbeats 0 in
theorem PySem.Challenge.cw_sidelink_k42_moments_that_fit_holds : PySem.Challenge.rw_sidelink_k42_moments_that_fit.Holds := by
 w_on;o_law;k_head;(case hw=>w_witness2)
 k_fill
 refine K42.Qc7 (l:=PySem.Challenge.rw_sidelink_k42_moments_that_fit) rfl rfl (fun w h Y=>PySem.W.kIn_of Y) ?F
 case F =>
  intro w mg fa h KX G hmg
  have c0:UC _ "Judge" := uc KX (by k_is) (by k_is) (by k_is) (by k_is) (by k_is)
  exact K42.QaN KX G hmg (by constructor;all_goals first | exact PySem.W.mg_none_of KX G (by k_is) | exact uf KX G (by k_is) (by k_is) (by k_is) (by k_is) | exact Qc6 KX G (by k_is) (by k_is) (by first | rfl | with_unfolding_all rfl) | exact ut KX G (by k_is) (K42.qy (by k_is)) | exact uk KX c0 (by k_is) (by k_is) | exact um KX c0 (by k_is) (by k_is) (by k_is) (by k_is) (by k_is) (by k_is) | exact ui KX G (by k_is) (by k_is) (by k_is) (by k_is) (by k_is) (by k_is) (by k_is) (by k_is)) (by k_is) (by k_is) (by k_is) (by k_is)

import PyProof.Rows.All
import Wide.All
import OpenK.AllK
import Wide.FinOn
import Lean
import PyProof.EqAt
import PyProof.EqKinds
import PyProof.TupleCall
import PySem.Challenge.RW_sidelink_k32_moves_are_steps
-- CHANGE: your row's module here,as the last of these rows
set_option Elab.async false
set_option linter.all false
set_option maxRecDepth 100000
namespace L2
open PySem PySem.Spec PyProof.Rows
abbrev Key:=Sum Int Str
def UJ:Key->Value->Bool
 | .inl k,v=>Value.isInt k v
 | .inr x,v=>Value.isStrOf x v
def Qg8 (w:World):Key->Int
 | .inl k=>hashInt k
 | .inr x=>hashStr w x
theorem Z8:∀ {k:Key} {v:Value},UJ k v=true->(∃ i t,k=Sum.inl i/\v=Value.int i t)∨(∃ x t,k=Sum.inr x/\v=Value.str x t)
  | .inl i,v,h=>by
    obtain ⟨t,e⟩:=Value.isInt_shape (k:=i) (v:=v) h
    exact .inl ⟨i,t,rfl,e⟩
  | .inr x,v,h=>by
    obtain ⟨t,e⟩:=Value.isStrOf_shape (x:=x) (v:=v) h
    exact .inr ⟨x,t,rfl,e⟩
theorem kP (i:Int) (t:Tok):UJ (.inl i) (.int i t)=true:=by simp [UJ,Value.isInt]
theorem kQ (x:Str) (t:Tok):UJ (.inr x) (.str x t)=true:=by simp [UJ,Value.isStrOf]
theorem QeE (a b:Int):decide ((Sum.inl a:Key)=Sum.inl b)=(a==b):=by
 by_cases e:a=b
 ·subst e;simp
 ·have h:¬ (Sum.inl a:Key)=Sum.inl b:=fun q=>e (Sum.inl.inj q)
  rw [decide_eq_false h]
  exact (beq_eq_false_iff_ne.mpr e).symm
theorem QeH (a b:Str):decide ((Sum.inr a:Key)=Sum.inr b)=decide (a=b):=by
 by_cases e:a=b
 ·subst e;simp
 ·have h:¬ (Sum.inr a:Key)=Sum.inr b:=fun q=>e (Sum.inr.inj q)
  rw [decide_eq_false h,decide_eq_false e]
theorem QeF (a:Int) (b:Str):decide ((Sum.inl a:Key)=Sum.inr b)=false:=decide_eq_false (fun q=>nomatch q)
theorem QeG (a:Str) (b:Int):decide ((Sum.inr a:Key)=Sum.inl b)=false:=decide_eq_false (fun q=>nomatch q)
def Z9 (prog:Program) (w:World):PySem.KeyKind prog w Key where
 is:=UJ
 hash:=Qg8 w
 inj:=fun v a b ha hb=>by
  rcases Z8 ha with ⟨i,t,rfl,rfl⟩ | ⟨x,t,rfl,rfl⟩
  ·rcases Z8 hb with ⟨j,u,rfl,e⟩ | ⟨y,u,rfl,e⟩
   ·injection e with e1 _;rw [e1]
   ·exact nomatch e
  ·rcases Z8 hb with ⟨j,u,rfl,e⟩ | ⟨y,u,rfl,e⟩
   ·exact nomatch e
   ·injection e with e1 _;rw [e1]
 byValue:=fun k v h=>by
  rcases Z8 h with ⟨i,t,rfl,rfl⟩ | ⟨x,t,rfl,rfl⟩<;>rfl
 pyHash:=fun hv h=>by
  rcases Z8 hv with ⟨i,t,rfl,rfl⟩ | ⟨x,t,rfl,rfl⟩
  ·exact wpAny_pyHash_int h
  ·exact wpAny_pyHash_str h
 eqBool:=fun hu hv h=>by
  rcases Z8 hu with ⟨i,t,rfl,rfl⟩ | ⟨x,t,rfl,rfl⟩
  ·rcases Z8 hv with ⟨j,u,rfl,rfl⟩ | ⟨y,u,rfl,rfl⟩
   ·rw [QeE] at h;exact wpAny_eqBool_int h
   ·rw [QeF] at h;exact SeqAt.EqAt.int_str i t y u _ _ _ _ h
  ·rcases Z8 hv with ⟨j,u,rfl,rfl⟩ | ⟨y,u,rfl,rfl⟩
   ·rw [QeG] at h;exact SeqAt.EqAt.str_int x t j u _ _ _ _ h
   ·rw [QeH] at h;exact wpAny_eqBool_str h
 «strs»:=fun k x t v h=>by
  rcases Z8 h with ⟨i,u,rfl,e⟩ | ⟨y,u,rfl,e⟩
  ·exact nomatch e
  ·injection e with e1 _
   subst e1
   cases v<;>rfl
theorem GD (prog:Program) (w:World) (i:Int) (t:Tok):(Z9 prog w).is (.inl i) (.int i t)=true:=kP i t
theorem GE (prog:Program) (w:World) (x:Str) (t:Tok):(Z9 prog w).is (.inr x) (.str x t)=true:=kQ x t
end L2
namespace L2
open PySem PySem.Spec PyProof.Rows
inductive V where
 | non | bl (b:Bool) | int (i:Int) | str (x:Str) | byt (b:Array UInt8) | flt (b:UInt64) | ref (a:Addr) | ty (n:String)
 deriving DecidableEq
def RelV:V->Value->Prop
 | .non,u=>u=Value.none
 | .bl b,u=>u=Value.bool b
 | .int i,u=>∃ t,u=Value.int i t
 | .str x,u=>∃ t,u=Value.str x t
 | .byt b,u=>∃ t,u=Value.bytes b t
 | .flt b,u=>∃ t,u=Value.float b t
 | .ref a,u=>u=Value.ref a
 | .ty n,u=>u=Value.type n
abbrev Vals:List V->List Value->Prop:=Paired RelV
theorem Vals.length {xs:List V} {us:List Value} (r:Vals xs us):xs.length=us.length:=Paired.length r
theorem Vals.get:∀ {xs:List V} {us:List Value} {i:Nat} {x:V},Vals xs us->xs[i]?=some x->∃ u,us[i]?=some u/\RelV x u
  | _,_,_,_,.nil,e=>by simp at e
  | _,_,0,_,.cons r _,e=>by simp at e;subst e;exact ⟨_,rfl,r⟩
  | _,_,i+1,x,.cons _ t,e=>by
    obtain ⟨u,h1,h2⟩:=Vals.get (i:=i) (x:=x) t (by simpa using e)
    exact ⟨u,by simpa using h1,h2⟩
theorem Vals.set {x:V} {u:Value} (r:RelV x u):∀ {xs:List V} {us:List Value} (i:Nat),Vals xs us->Vals (xs.set i x) (us.set i u)
 | _,_,_,.nil=>.nil
 | _,_,0,.cons _ t=>.cons r t
 | _,_,i+1,.cons q t=>.cons q (Vals.set r i t)
theorem Vals.append:∀ {xs ys:List V} {us ws:List Value},Vals xs us->Vals ys ws->Vals (xs++ys) (us++ws)
 | _,_,_,_,.nil,s=>s
 | _,_,_,_,.cons r t,s=>.cons r (Vals.append t s)
theorem Vals.take:∀ {xs:List V} {us:List Value} (n:Nat),Vals xs us->Vals (xs.take n) (us.take n)
 | _,_,0,_=>.nil
 | _,_,_+1,.nil=>.nil
 | _,_,n+1,.cons r t=>.cons r (Vals.take n t)
theorem Vals.drop:∀ {xs:List V} {us:List Value} (n:Nat),Vals xs us->Vals (xs.drop n) (us.drop n)
 | _,_,0,r=>r
 | _,_,_+1,.nil=>.nil
 | _,_,n+1,.cons _ t=>Vals.drop n t
def RelO:Option V->Option Value->Prop
 | some v,some u=>RelV v u
 | none,none=>True
 | _,_=>False
def KV {κ:Type}:List (κ×V)->List (κ×Value)->Prop:=Paired fun (p:κ×V) (q:κ×Value)=>p.1=q.1/\RelV p.2 q.2
def kV:Key->V
 | .inl i=>.int i
 | .inr x=>.str x
inductive HO where
  | lst (xs:List V)
  | tup (xs:List V)
  | dK (kvs:List (Key×V)) | dT (kvs:List (List Key×V))
  | set (S:Int->Bool) (n:Nat)
  | ins (C dx:Addr) (fs:List (Str×V))
  | own (x:Addr)
  | xd (fs:List (Str×V))
  | met (f x:Addr)
  | rng (lo hi:Int)
  | frz (o:Obj) (u:HO)
  | tbl (ps:Array Value)
  | ext (φ:Heap->Prop)
abbrev Hp:=Addr->Option HO
def upd (H:Hp) (a:Addr) (o:HO):Hp:=fun b=>if b=a then some o else H b
theorem Zj {H:Hp} {a:Addr} {o:HO}:upd H a o a=some o:=by unfold upd;rw [if_pos rfl]
theorem Q0 {H:Hp} {a b:Addr} {o:HO} (h:b≠a):upd H a o b=H b:=by unfold upd;rw [if_neg h]
theorem Qgm {H:Hp} {a b:Addr} {o u:HO} (h:H a=some o) (h':H b=some u) (d:o≠u):a≠b:=by
 intro e;subst e;rw [h] at h';exact d (Option.some.inj h')
theorem ZC {H:Hp} {a b:Addr} {o:HO} (h:H a=some o) (h':H b=none):a≠b:=by
 intro e;subst e;rw [h] at h';cases h'
section
variable (P:Program) (w:World)
def ObjOk (H:Hp) (h:Heap) (a:Addr):HO->Prop
 | .lst xs=>xs.length<=sizeLine/\∃ (its:List Value) (n:Nat),Vals xs its/\h.get? a=some { cls:=.type "list", data:=.seq its.toArray n }
 | .tup xs=>xs.length<=sizeLine/\∃ its:List Value,Vals xs its/\IsTup h a its.toArray
 | .dK kvs=>kvs.length<=sizeLine/\(a==sysModules)=false/\∃ vs,KV kvs vs/\h.DictOf (Z9 P w) a vs
 | .dT kvs=>kvs.length<=sizeLine/\(a==sysModules)=false/\∃ xs:List (List Key×Addr×Value),
   Paired (fun (p:List Key×V) (q:List Key×Addr×Value)=>p.1=q.1/\H q.2.1=some (.tup (p.1.map kV))/\RelV p.2 q.2.2) kvs xs /\
   ∃ o es ep,h.get? a=some o/\o.ExactDict/\o.data=.dict es ep/\es.toList=xs.map (entryOfKey (tupleKind (Z9 P w)))/\(xs.map (·.1)).Nodup
 | .set S n=>h.SetOf (intKind P w) a S n
 | .ins C dx fs=>H dx=some (.own a)/\fs.length<=1000/\dx≠a/\h.get? a=some (PySem.W.instObj C dx) /\
   ∃ mA,h.Ns1 dx mA/\(∀ f,RelO (fs.lookup f) (mA f))/\PySem.Within mA (fs.map (·.1))
 | .own _=>∃ o,h.get? a=some o
 | .xd fs=>∃ mA,h.Ns1 a mA/\∀ f,RelO (fs.lookup f) (mA f)
 | .rng lo hi=>∃ t u v,h.get? a=some { cls:=.type "range", data:=.fields #[.int lo t,.int hi u,.int 1 v] }
 | .frz o u=>h.get? a=some o/\ObjOk H h a u
 | .tbl ps=>h.get? a=some { cls:=.none,data:=.fields ps }
 | .met f x=>h.get? a=some (PySem.W.methodObj (.ref f) (.ref x))
 | .ext φ=>φ h/\(∃ o,h.get? a=some o)/\∀ h1 h2:Heap,φ h1->(∀ o,h1.get? a=some o->h2.get? a=some o)->φ h2
def HOk (H:Hp) (h:Heap):Prop:=∀ a o,H a=some o->ObjOk P w H h a o
end
section
variable {P:Program} {w:World} {H H':Hp} {h h':Heap} {a:Addr} {o:HO}
theorem ObjOk.lt (x:ObjOk P w H h a o):a < h.objs.size:=by
 cases o with
 | lst xs=>obtain ⟨_,_,_,_,e⟩:=x;exact Heap.lt_size e
 | tup xs=>obtain ⟨_,_,_,p⟩:=x;exact p.lt
 | dK kvs=>obtain ⟨_,_,_,_,o,_,_,e,_⟩:=x;exact Heap.lt_size e
 | dT kvs=>obtain ⟨_,_,_,_,o,_,_,e,_⟩:=x;exact Heap.lt_size e
 | set S n=>obtain ⟨o,_,_,_,e,_⟩:=x;exact Heap.lt_size e
 | ins C dx fs=>obtain ⟨_,_,_,e,_⟩:=x;exact Heap.lt_size e
 | own y=>obtain ⟨_,e⟩:=x;exact Heap.lt_size e
 | xd fs=>obtain ⟨_,⟨_,_,_,e,_⟩,_⟩:=x;exact Heap.lt_size e
 | rng lo hi=>obtain ⟨_,_,_,e⟩:=x;exact Heap.lt_size e
 | frz ob u=>obtain ⟨e,_⟩:=x;exact Heap.lt_size e
 | tbl ps=>exact Heap.lt_size (show h.get? a=some _ from x)
 | met f y=>exact Heap.lt_size (show h.get? a=some _ from x)
 | ext φ=>obtain ⟨_,⟨_,e⟩,_⟩:=x;exact Heap.lt_size e
theorem Paired.mapP {α β:Type} {F G:α->β->Prop}:∀ {l₁:List α} {l₂:List β},Paired F l₁ l₂->(∀ a b,F a b->G a b)->Paired G l₁ l₂
 | _,_,.nil,_=>.nil
 | _,_,.cons r t,f=>.cons (f _ _ r) (Paired.mapP t f)
theorem ObjOk.stay (x:ObjOk P w H h a o) (k:∀ b u,(b=a∨H b=some (.own a))->h.get? b=some u->h'.get? b=some u)
    (ho:∀ b,H b=some (.own a)->H' b=some (.own a)) (ht:∀ b xs,H b=some (.tup xs)->H' b=some (.tup xs)):ObjOk P w H' h' a o:=by
  induction o with
  | lst xs=>obtain ⟨z,its,n,r,e⟩:=x;exact ⟨z,its,n,r,k _ _ (.inl rfl) e⟩
  | tup xs=>obtain ⟨z,its,r,ob,e,c⟩:=x;exact ⟨z,its,r,ob,k _ _ (.inl rfl) e,c⟩
  | dK kvs=>obtain ⟨z,y,vs,r,ob,es,ep,e,c⟩:=x;exact ⟨z,y,vs,r,ob,es,ep,k _ _ (.inl rfl) e,c⟩
  | dT kvs =>
    obtain ⟨z,y,xs,r,ob,es,ep,e,c⟩:=x
    exact ⟨z,y,xs,Paired.mapP r fun p q z=>⟨z.1,ht _ _ z.2.1,z.2.2⟩,ob,es,ep,k _ _ (.inl rfl) e,c⟩
  | set S n=>obtain ⟨ob,es,ep,t,e,c⟩:=x;exact ⟨ob,es,ep,t,k _ _ (.inl rfl) e,c⟩
  | ins C dx fs =>
    obtain ⟨d,z,ne,e,mA,⟨od,es,ep,e2,c⟩,r⟩:=x
    exact ⟨ho _ d,z,ne,k _ _ (.inl rfl) e,mA,⟨od,es,ep,k _ _ (.inr d) e2,c⟩,r⟩
  | own y=>obtain ⟨ob,e⟩:=x;exact ⟨ob,k _ _ (.inl rfl) e⟩
  | xd fs=>obtain ⟨mA,⟨od,es,ep,e,c⟩,r⟩:=x;exact ⟨mA,⟨od,es,ep,k _ _ (.inl rfl) e,c⟩,r⟩
  | rng lo hi=>obtain ⟨t,u,v,e⟩:=x;exact ⟨t,u,v,k _ _ (.inl rfl) e⟩
  | frz ob u ih=>obtain ⟨e,q⟩:=x;exact ⟨k _ _ (.inl rfl) e,ih q⟩
  | tbl ps =>
    have e:h.get? a=some { cls:=.none,data:=.fields ps }:=x
    show h'.get? a=some { cls:=.none,data:=.fields ps }
    exact k a _ (.inl rfl) e
  | met f y =>
    have e:h.get? a=some (PySem.W.methodObj (.ref f) (.ref y)):=x
    show h'.get? a=some (PySem.W.methodObj (.ref f) (.ref y))
    exact k a _ (.inl rfl) e
  | ext φ=>obtain ⟨p,⟨o,e⟩,st⟩:=x;exact ⟨st _ _ p fun o q=>k _ _ (.inl rfl) q,⟨o,k _ _ (.inl rfl) e⟩,st⟩
theorem HOk.lt (x:HOk P w H h) (e:H a=some o):a < h.objs.size:=(x a o e).lt
theorem HOk.fresh (x:HOk P w H h) (e:h.objs.size<=a):H a=none:=by
 cases q:H a with
 | none=>rfl
 | some u=>exact absurd (Nat.lt_of_lt_of_le (x.lt q) e) (Nat.lt_irrefl _)
theorem HOk.kept (x:HOk P w H h) (k:∀ b u,h.get? b=some u->h'.get? b=some u):HOk P w H h':=fun a o e =>
 (x a o e).stay (fun b u _ q=>k b u q) (fun _ q=>q) fun _ _ q=>q
theorem HOk.laid (x:HOk P w H h) (k:∀ b u,h.get? b=some u->h'.get? b=some u) (hp:h.objs.size<=a) (new:ObjOk P w (upd H a o) h' a o):HOk P w (upd H a o) h':=fun b u e=>by
 have hn:=x.fresh hp
 by_cases hb:b=a
 ·subst hb;rw [Zj] at e;cases e;exact new
 ·rw [Q0 hb] at e
  exact (x b u e).stay (fun c v _ q=>k c v q) (fun c q=>by rw [Q0 (ZC q hn)];exact q) fun c xs q=>by rw [Q0 (ZC q hn)];exact q
end
def Rd (H:Hp) (a:Addr) (u:HO):Prop:=H a=some u∨∃ o,H a=some (.frz o u)
theorem Rd.ok {P:Program} {w:World} {H:Hp} {h:Heap} {a:Addr} {u:HO} (r:Rd H a u) (x:HOk P w H h):ObjOk P w H h a u:=by
 rcases r with r | ⟨o,r⟩
 ·exact x a u r
 ·obtain ⟨_,q⟩:=x a _ r
  exact q
def Mut:Option HO->Prop
 | some (.lst _)=>True
 | some (.dK _)=>True
 | some (.dT _)=>True
 | some (.set _ _)=>True
 | some (.ins _ _ _)=>True
 | some (.ext _)=>True
 | _=>False
section
variable {P:Program} {w:World} {H:Hp} {h h':Heap} {x e:Addr} {o':HO}
theorem HOk.write (ok:HOk P w H h) (mu:Mut (H x)) (he:e=x∨H e=some (.own x)) (k:∀ b u,b≠e->h.get? b=some u->h'.get? b=some u) (heo:∃ u,h'.get? e=some u)
  (new:ObjOk P w (upd H x o') h' x o'):HOk P w (upd H x o') h':=fun b u q=>by
 have nown:∀ c y,H c=some (.own y)->c≠x:=fun c y r z=>by subst z;rw [r] at mu;exact mu
 have ntup:∀ c xs,H c=some (.tup xs)->c≠x:=fun c xs r z=>by subst z;rw [r] at mu;exact mu
 by_cases hb:b=x
 ·subst hb;rw [Zj] at q;cases q;exact new
 ·rw [Q0 hb] at q
  by_cases hbe:b=e
  ·have q':H b=some (.own x):=by
    rcases he with z | z
    ·exact absurd (hbe.trans z) hb
    ·rw [hbe];exact z
   rw [q] at q';cases q'
   obtain ⟨v,hv⟩:=heo
   exact ⟨v,by rw [hbe];exact hv⟩
  ·refine (ok b u q).stay (fun c v hc r=>k c v ?_ r) (fun c r=>by rw [Q0 (nown c b r)];exact r) fun c xs r=>by rw [Q0 (ntup c xs r)];exact r
   rcases hc with rfl | hc
   ·exact hbe
   ·rintro rfl
    rcases he with z | z
    ·exact nown c b hc z
    ·rw [hc] at z;cases z;exact hb rfl
end
structure Un (fs ex:List Addr) (H H':Hp) (h h':Heap):Prop where
 keep:∀ b o,h.get? b=some o->H b=none->b∉fs->b∉ex->h'.get? b=some o
 slot:∀ b o,h.get? b=some o->H b=none->b∈fs->b∉ex->∃ sl,h'.get? b=some { o with slots:=sl }
 free:∀ b o,h.get? b=some o->H b=none->b∉ex->H' b=none
 there:∀ b o,h.get? b=some o->b∉ex->∃ o',h'.get? b=some o'
 tups:∀ b xs,H b=some (.tup xs)->H' b=some (.tup xs)
 frzs:∀ b o u,H b=some (.frz o u)->H' b=some (.frz o u)
 tbls:∀ b ps,H b=some (.tbl ps)->∃ more,H' b=some (.tbl (ps++more))
section
variable {fs fs' ex ex':List Addr} {H H1 H2:Hp} {h h1 h2 h':Heap} {a x e:Addr} {o:HO}
theorem Un.any (u:Un fs ex H H1 h h1) {b:Addr} {ob:Obj} (q:h.get? b=some ob) (n:H b=none) (hx:b∉ex):∃ sl,h1.get? b=some { ob with slots:=sl }:=by
 by_cases hb:b∈fs
 ·exact u.slot b ob q n hb hx
 ·exact ⟨ob.slots,u.keep b ob q n hb hx⟩
theorem Un.kept (k:∀ b u,h.get? b=some u->h'.get? b=some u):Un fs ex H H h h' :=
 ⟨fun b ob q _ _ _=>k b ob q,fun b ob q _ _ _=>⟨ob.slots,k b ob q⟩,fun _ _ _ n _=>n,fun b ob q _=>⟨ob,k b ob q⟩,fun _ _ q=>q,fun _ _ _ q=>q,fun _ ps q=>⟨#[],by rw [q];simp⟩⟩
theorem Un.refl:Un fs ex H H h h:=Un.kept fun _ _ q=>q
theorem Un.laid (k:∀ b u,h.get? b=some u->h'.get? b=some u) (hp:h.objs.size<=a) (hn:H a=none):Un fs ex H (upd H a o) h h' where
 keep:=fun b u q _ _ _=>k b u q
 slot:=fun b u q _ _ _=>⟨u.slots,k b u q⟩
 free:=fun b u q n _=>by rw [Q0 (Nat.ne_of_lt (Nat.lt_of_lt_of_le (Heap.lt_size q) hp))];exact n
 there:=fun b u q _=>⟨u,k b u q⟩
 tups:=fun b xs q=>by rw [Q0 (ZC q hn)];exact q
 frzs:=fun b u xs q=>by rw [Q0 (ZC q hn)];exact q
 tbls:=fun b ps q=>⟨#[],by rw [Q0 (ZC q hn),q];simp⟩
theorem Un.write (mu:Mut (H x)) (he:e=x∨H e=some (.own x)) (k:∀ b u,b≠e->h.get? b=some u->h'.get? b=some u) (heo:∃ u,h'.get? e=some u):Un fs ex H (upd H x o) h h':=by
 have hx:∀ b,H b=none->b≠x:=fun b n z=>by subst z;rw [n] at mu;exact mu
 have hb:∀ b,H b=none->b≠e:=fun b n z=>by
  subst z
  rcases he with r | r
  ·exact hx b n r
  ·rw [n] at r;cases r
 have hm:∀ b u,H b=some u->¬ Mut (some u)->b≠x:=fun b u q nm z=>by subst z;rw [q] at mu;exact nm mu
 refine ⟨fun b u q n _ _=>k b u (hb b n) q,fun b u q n _ _=>⟨u.slots,k b u (hb b n) q⟩,fun b u q n _=>by rw [Q0 (hx b n)];exact n,fun b u q _=>?_,
  fun b xs q=>by rw [Q0 (hm b _ q fun z=>z)];exact q,fun b u xs q=>by rw [Q0 (hm b _ q fun z=>z)];exact q,fun b ps q=>⟨#[],by rw [Q0 (hm b _ q fun z=>z),q];simp⟩⟩
 by_cases hbe:b=e
 ·subst hbe;exact heo
 ·exact ⟨u,k b u hbe q⟩
end
def trk (h:Heap) (H:Hp):List Addr:=(List.range h.objs.size).filter fun a=>(H a).isSome
def Kw (h:Heap) (H:Hp):Heap:=PySem.W.hideAll h (trk h H)
theorem kM (h:Heap) (H:Hp):(Kw h H).objs.size=h.objs.size:=PySem.W.hideAll_size _ _
theorem Qa8 {h:Heap} {H:Hp} {b:Addr} {o:Obj} (e:h.get? b=some o) (n:H b=none):(Kw h H).get? b=some o :=
 PySem.W.hideAll_get _ e fun hm=>by
  have q:(H b).isSome=true:=(List.mem_filter.mp hm).2
  rw [n] at q;simp at q
theorem Qc1 {h:Heap} {H:Hp} {b:Addr} {o:Obj} (e:(Kw h H).get? b=some o):h.get? b=some o/\H b=none:=by
  have e':h.get? b=some o:=PySem.W.of_hideAll (trk h H) e
  refine ⟨e',?_⟩
  cases q:H b with
  | none=>rfl
  | some x =>
    have hm:b∈trk h H:=List.mem_filter.mpr ⟨List.mem_range.mpr (Heap.lt_size e'),by simp [q]⟩
    have z:(Kw h H).get? b=none:=PySem.W.hideAll_none (trk h H) hm
    rw [z] at e;cases e
def Kh (g h:Heap) (L:Addr):List (Addr×Obj):=(List.range h.objs.size).filterMap fun a=>if a=L∨(g.get? a).isSome=true then none else (h.get? a).map fun o=>(a,o)
theorem Vq {g h:Heap} {L:Addr} {p:Addr×Obj} (hp:p∈Kh g h L):p.1≠L/\g.get? p.1=none/\h.get? p.1=some p.2:=by
  obtain ⟨b,_,e⟩:=List.mem_filterMap.mp hp
  split at e
  . cases e
  . rename_i hn
    cases q:h.get? b with
    | none=>rw [q] at e;simp at e
    | some u =>
      rw [q] at e
      simp only [Option.map_some,Option.some.injEq] at e
      subst e
      refine ⟨fun z=>hn (.inl z),?_,q⟩
      show g.get? b=none
      cases r:g.get? b with
      | none=>rfl
      | some v=>exact (hn (.inr (by simp [r]))).elim
def rest (g h:Heap) (L d:Addr):List (Addr×Obj):=(Kh g h L).filter fun p=>decide (p.1≠d)
theorem Qbw {g h:Heap} {L:Addr}:News g L h (Kh g h L):=fun p hp=>let ⟨a,b,c⟩:=Vq hp;⟨c,a,b⟩
end L2
namespace L2
open PySem PySem.Spec PyProof.Rows
structure Mod (K:PySem.W.Frag) (mg:Str->Option Value) (base:Heap):Prop where
 kin:K.In base
 glob:base.Ns mainGlobals mg
 blt:∃ mb,base.Ns builtinsNs mb/\∀ x:Str,x ≠ "__name__" -> mb x=bootBuiltins x
 nolimit:base.NoLimit
structure Cx where
 prog:Program
 w:World
 K:PySem.W.Frag
 mg:Str->Option Value
 base:Heap
 A:Around
 N:List Str
 s₀:Shared
 H₀:Hp
 env:Env
 outer:List Env
 stack:List Env
 ex:List Addr
 fn:Str->Bool
 calm:Bool
 pn:List (Addr×Obj)
 xe:Value->Shared->Prop
def frs (l:List Env):List Addr:=l.filterMap (·.frame)
abbrev Cx.fs (X:Cx):List Addr:=frs X.outer
def Vis (sc:Scope) (x:Str):Prop:=sc.names.lookup x=some .local∨sc.names.lookup x=some .cell∨sc.names.lookup x=some .free
def Loc (sc:Scope) (x:Str):Prop:=sc.names.lookup x=some .local∨sc.names.lookup x=some .cell
def Qg1 (env:Env) (h:Heap) (m:Str->Option Value) (x:Str) (u:Value):Prop :=
 (env.kindOf x=some .local/\m x=some u)∨((env.kindOf x=some .cell∨env.kindOf x=some .free)/\∃ c,env.cells.lookup x=some c/\h.IsCell c (some u))
structure Cx.Ok (X:Cx):Prop where
 mod:Mod X.K X.mg X.base
 kind:X.env.scope.kind=.function
 glob:X.env.globals=mainGlobals
 blt:X.env.builtins=builtinsNs
 above:X.s₀.heap.objs.size<=X.env.locals
 inj:∀ x y c,X.env.cells.lookup x=some c->X.env.cells.lookup y=some c->x=y
 has:∀ x,(X.env.kindOf x=some .cell∨X.env.kindOf x=some .free)->∃ c,X.env.cells.lookup x=some c
 cab:∀ x c,X.fn x=true->X.env.cells.lookup x=some c->X.s₀.heap.objs.size<=c
 hd:X.calm=true->X.A.handled=none
 frames:X.A.frames=some X.stack
 stk:X.stack=X.outer∨(X.stack=X.env::X.outer/\X.env.frame=some X.env.locals)
 exf:∀ b∈X.ex,b≠X.env.locals/\∀ x c,X.env.cells.lookup x=some c->c≠b
 bs:∀ b o,X.base.get? b=some o->X.s₀.heap.get? b=some o/\X.H₀ b=none
 bsz:X.base.objs.size<=X.s₀.heap.objs.size
 noex:∀ b o,X.base.get? b=some o->b∉X.ex
 exfs:∀ b∈X.ex,b∉X.fs
 funs:X.s₀.heap.FunFrames X.base X.outer
 frf:∀ b∈X.fs,X.H₀ b=none
structure Inv (X:Cx) (pins:List (Addr×Obj)) (σ:List (Option V)) (H:Hp) (s:Shared):Prop where
 ok:X.Ok
 os:s.os=X.s₀.os
 bare:AllBare s.gens
 base:Un X.fs X.ex X.H₀ H X.s₀.heap s.heap
 loc:∃ m,s.heap.Ns X.env.locals m/\∀ (i:Nat) (x:Str) (v:V),X.N[i]?=some x->σ[i]?=some (some v)->Vis X.env.scope x->∃ u,RelV v u/\Qg1 X.env s.heap m x u
 cell:∀ x c,X.env.cells.lookup x=some c->∃ v,s.heap.IsCell c v
 free:H X.env.locals=none
 freeC:∀ x c,X.env.cells.lookup x=some c->H c=none
 pin:∀ p∈X.pn++pins,s.heap.get? p.1=some p.2/\H p.1=none/\p.1≠X.env.locals/\p.1∉X.fs/\∀ v,p.2.data≠.cell v
 hok:HOk X.prog X.w H s.heap
 len:σ.length=X.N.length
section
variable {X:Cx} {pins:List (Addr×Obj)} {σ:List (Option V)} {H H':Hp} {s:Shared} {h':Heap}
theorem Cx.Ok.nofr (ok:X.Ok) {b:Addr} {o:Obj} (e:X.base.get? b=some o):b∉X.fs:=fun hb=>by
 have:=(ok.funs.mem hb).1
 rw [e] at this;cases this
theorem Inv.bs (I:Inv X pins σ H s):∀ b o,X.base.get? b=some o->s.heap.get? b=some o/\H b=none:=fun b o e =>
 ⟨I.base.keep b o (I.ok.bs b o e).1 (I.ok.bs b o e).2 (I.ok.nofr e) (I.ok.noex b o e),I.base.free b o (I.ok.bs b o e).1 (I.ok.bs b o e).2 (I.ok.noex b o e)⟩
theorem Inv.bk (I:Inv X pins σ H s):∀ b o,X.base.get? b=some o->s.heap.get? b=some o:=fun b o e=>(I.bs b o e).1
theorem Inv.mod (I:Inv X pins σ H s):Mod X.K X.mg X.base:=I.ok.mod
theorem Inv.kIn (I:Inv X pins σ H s):X.K.In s.heap:=I.ok.mod.kin.keeps I.bk
theorem Inv.fr (I:Inv X pins σ H s):∃ m,Fr X.base X.env.locals s.heap m :=
 let ⟨m,hn,_⟩:=I.loc
 ⟨m,hn,I.bk,Nat.le_trans I.ok.bsz I.ok.above⟩
theorem Inv.lt (I:Inv X pins σ H s):X.env.locals < s.heap.objs.size:=let ⟨_,hn,_⟩:=I.loc;hn.lt
theorem Inv.sz (I:Inv X pins σ H s):X.s₀.heap.objs.size<=s.heap.objs.size:=Nat.le_trans I.ok.above (Nat.le_of_lt I.lt)
theorem Inv.nofs (I:Inv X pins σ H s) {a:Addr} (h:s.heap.objs.size<=a):a∉X.fs:=fun hb=>by
 obtain ⟨_,o,ho,_⟩:=I.ok.funs.mem hb
 exact absurd (Nat.lt_of_lt_of_le (Heap.lt_size ho) (Nat.le_trans I.sz h)) (Nat.lt_irrefl _)
theorem Inv.cne (I:Inv X pins σ H s):∀ x c,X.env.cells.lookup x=some c->c≠X.env.locals:=fun x c e z=>by
 obtain ⟨v,o,ho,hd⟩:=I.cell x c e
 obtain ⟨m,⟨o',es,ep,ho',hd',_⟩,_⟩:=I.loc
 rw [z,ho'] at ho;cases ho;rw [hd'] at hd;cases hd
theorem Inv.funs (I:Inv X pins σ H s):s.heap.FunFrames X.base X.outer:=by
  have all:∀ (l:List Env),(∀ b∈frs l,b∈X.fs)->X.s₀.heap.FunFrames X.base l->s.heap.FunFrames X.base l:=by
    intro l
    induction l with
    | nil=>intro _ _;trivial
    | cons env r ih =>
      intro hs hl
      obtain ⟨hk,⟨L,o,hf,hn,ho,hd⟩,hr⟩:=hl
      have hL:L∈X.fs:=hs L (by unfold frs;rw [List.filterMap_cons,hf];exact List.mem_cons_self)
      obtain ⟨sl,e⟩:=I.base.slot L o ho (I.ok.frf L hL) hL fun z=>I.ok.exfs L z hL
      exact ⟨hk,⟨L,_,hf,hn,e,hd⟩,ih (fun b hb=>hs b (by unfold frs;rw [List.filterMap_cons,hf];exact List.mem_cons_of_mem _ hb)) hr⟩
  exact all X.outer (fun _ hb=>hb) I.ok.funs
theorem Inv.stack (I:Inv X pins σ H s):s.heap.FunFrames X.base X.stack:=by
 rcases I.ok.stk with e | ⟨e,hf⟩
 ·rw [e];exact I.funs
 ·rw [e]
  obtain ⟨m,hn,_⟩:=I.loc
  refine .cons (by rw [I.ok.kind];decide) hf hn ?_ I.funs
  exact Heap.get?_none_of_le (Nat.le_trans I.ok.bsz I.ok.above)
theorem Inv.stkSub (I:Inv X pins σ H s):∀ b∈frs X.stack,b∈X.env.locals::X.fs:=fun b hb=>by
 rcases I.ok.stk with e | ⟨e,hf⟩
 ·rw [e] at hb;exact List.mem_cons_of_mem _ hb
 ·rw [e] at hb
  unfold frs at hb
  rw [List.filterMap_cons,hf] at hb
  exact hb
theorem Inv.stkFree (I:Inv X pins σ H s):∀ b∈frs X.stack,H b=none:=fun b hb=>by
 rcases List.mem_cons.mp (I.stkSub b hb) with e | hb
 ·rw [e];exact I.free
 ·obtain ⟨_,o,ho,_⟩:=I.ok.funs.mem hb
  exact I.base.free b o ho (I.ok.frf b hb) fun z=>I.ok.exfs b z hb
theorem Inv.step {g':Array GenState} {t':Nat} {d':Drawn} {ch:List Addr} (I:Inv X pins σ H s)
  (hch:∀ b∈ch,(b∈X.ex∨X.s₀.heap.objs.size<=b)/\b≠X.env.locals/\(∀ x c,X.env.cells.lookup x=some c->c≠b)/\∀ p∈X.pn++pins,p.1≠b)
  (keep:∀ b o,b≠X.env.locals->b∉X.fs->b∉ch->s.heap.get? b=some o->H b=none->h'.get? b=some o)
  (slot:∀ b o,b≠X.env.locals->b∈X.fs->b∉ch->s.heap.get? b=some o->H b=none->∃ sl,h'.get? b=some { o with slots:=sl }) (free:∀ b o,b∉ch->s.heap.get? b=some o->H b=none->H' b=none)
  (there:∀ b o,b∉ch->s.heap.get? b=some o->∃ o',h'.get? b=some o')
  (tups:∀ b xs,H b=some (.tup xs)->H' b=some (.tup xs)) (frzs:∀ b o u,H b=some (.frz o u)->H' b=some (.frz o u)) (tbls:∀ b ps,H b=some (.tbl ps)->∃ more,H' b=some (.tbl (ps++more)))
  (ns:∀ m,s.heap.Ns X.env.locals m->h'.Ns X.env.locals m) (hok:HOk X.prog X.w H' h') (hg:AllBare g') :
  Inv X pins σ H' { s with heap:=h',gens:=g',drawn:=d',toks:=t' }:=by
 have neL:∀ b o,X.s₀.heap.get? b=some o->b≠X.env.locals:=fun b o e=>Nat.ne_of_lt (Nat.lt_of_lt_of_le (Heap.lt_size e) I.ok.above)
 have neC:∀ b o,X.s₀.heap.get? b=some o->b∉X.ex->b∉ch:=fun b o e hx hb=>by
  rcases (hch b hb).1 with z | z
  ·exact hx z
  ·exact absurd (Nat.lt_of_lt_of_le (Heap.lt_size e) z) (Nat.lt_irrefl _)
 have cellK:∀ x c,X.env.cells.lookup x=some c->∀ v,s.heap.IsCell c v->h'.IsCell c v:=fun x c e v ⟨o,ho,hd⟩=>by
  have nch:c∉ch:=fun z=>(hch c z).2.2.1 x c e rfl
  by_cases hc:c∈X.fs
  ·obtain ⟨sl,q⟩:=slot c o (I.cne x c e) hc nch ho (I.freeC x c e)
   exact ⟨_,q,hd⟩
  ·exact ⟨o,keep c o (I.cne x c e) hc nch ho (I.freeC x c e),hd⟩
 refine ⟨I.ok,I.os,hg,⟨fun b o e n hb hx=>?_,fun b o e n hb hx=>?_,fun b o e n hx=>?_,fun b o e hx=>?_,fun b xs e=>tups b xs (I.base.tups b xs e),fun b o xs e=>frzs b o xs (I.base.frzs b o xs e),fun b ps e=>?_⟩,?_,fun x c e=>?_,?_,fun x c e=>?_,fun p hp=>?_,hok,I.len⟩
 ·exact keep b o (neL b o e) hb (neC b o e hx) (I.base.keep b o e n hb hx) (I.base.free b o e n hx)
 ·obtain ⟨sl,e1⟩:=I.base.slot b o e n hb hx
  obtain ⟨sl',e2⟩:=slot b _ (neL b o e) hb (neC b o e hx) e1 (I.base.free b o e n hx)
  exact ⟨sl',e2⟩
 ·obtain ⟨o',e1⟩:=I.base.there b o e hx
  exact free b o' (neC b o e hx) e1 (I.base.free b o e n hx)
 ·obtain ⟨o',e1⟩:=I.base.there b o e hx
  exact there b o' (neC b o e hx) e1
 ·obtain ⟨m1,e1⟩:=I.base.tbls b ps e
  obtain ⟨m2,e2⟩:=tbls b _ e1
  exact ⟨m1++m2,by rw [e2,Array.append_assoc]⟩
 ·obtain ⟨m,hn,hl⟩:=I.loc
  refine ⟨m,ns m hn,fun i x v e1 e2 e3=>?_⟩
  obtain ⟨u,r,l⟩:=hl i x v e1 e2 e3
  refine ⟨u,r,?_⟩
  rcases l with l | ⟨k,c,e,z⟩
  ·exact .inl l
  ·exact .inr ⟨k,c,e,cellK x c e _ z⟩
 ·obtain ⟨v,z⟩:=I.cell x c e
  exact ⟨v,cellK x c e v z⟩
 ·obtain ⟨m,⟨o,_,_,ho,_⟩,_⟩:=I.loc
  exact free _ o (fun z=>(hch _ z).2.1 rfl) ho I.free
 ·obtain ⟨v,o,ho,hd⟩:=I.cell x c e
  exact free c o (fun z=>(hch c z).2.2.1 x c e rfl) ho (I.freeC x c e)
 ·obtain ⟨e,n,ne,nf,d⟩:=I.pin p hp
  have nch:p.1∉ch:=fun z=>(hch p.1 z).2.2.2 p hp rfl
  exact ⟨keep p.1 p.2 ne nf nch e n,free p.1 p.2 nch e n,ne,nf,d⟩
theorem Inv.un {t':Nat} (I:Inv X pins σ H s) (u:Un X.fs [] H H' s.heap h') (hok:HOk X.prog X.w H' h'):Inv X pins σ H' { s with heap:=h',toks:=t' }:=by
 obtain ⟨m,⟨o,es,ep,ho,r⟩,_⟩:=id I.loc
 obtain ⟨sl,hL⟩:=u.any ho I.free (by simp)
 exact I.step (g':=s.gens) (d':=s.drawn) (ch:=[]) (fun _ z=>nomatch z) (fun b o _ hb _ e n=>u.keep b o e n hb (by simp)) (fun b o _ hb _ e n=>u.slot b o e n hb (by simp)) (fun b o _ e n=>u.free b o e n (by simp)) (fun b o _ e=>u.there b o e (by simp)) u.tups u.frzs u.tbls (fun m' hm=>by
  obtain ⟨o',es',ep',ho',r'⟩:=hm
  rw [ho] at ho';cases ho'
  exact ⟨_,es',ep',hL,r'⟩) hok I.bare
theorem Inv.call {g':Array GenState} {t':Nat} {d':Drawn} {ch:List Addr} (I:Inv X pins σ H s) (u:Un (frs X.stack) ch H H' s.heap h') (hok:HOk X.prog X.w H' h') (hg:AllBare g')
  (hch:∀ b∈ch,(b∈X.ex∨X.s₀.heap.objs.size<=b)/\b≠X.env.locals/\(∀ x c,X.env.cells.lookup x=some c->c≠b)/\∀ p∈X.pn++pins,p.1≠b) :
  Inv X pins σ H' { s with heap:=h',gens:=g',drawn:=d',toks:=t' }:=by
 obtain ⟨m,⟨o,es,ep,ho,r⟩,_⟩:=id I.loc
 obtain ⟨sl,hL⟩:=u.any ho I.free fun z=>(hch _ z).2.1 rfl
 exact I.step (ch:=ch) hch (fun b o hL hb hc e n=>u.keep b o e n (fun z=>(List.mem_cons.mp (I.stkSub b z)).elim hL hb) hc) (fun b o _ _ hc e n=>u.any e n hc) (fun b o hc e n=>u.free b o e n hc) (fun b o hc e=>u.there b o e hc) u.tups u.frzs u.tbls (fun m' hm=>by
  obtain ⟨o',es',ep',ho',r'⟩:=hm
  rw [ho] at ho';cases ho'
  exact ⟨_,es',ep',hL,r'⟩) hok hg
theorem Inv.turned {t':Nat} {it:Addr} (I:Inv X pins σ H s) (k:∀ b o,b≠it->s.heap.get? b=some o->h'.get? b=some o) (hn:H it=none) (hL:it≠X.env.locals)
  (h1:it∈X.ex∨X.s₀.heap.objs.size<=it) (h2:∀ x c,X.env.cells.lookup x=some c->c≠it) (h3:∀ p∈X.pn++pins,p.1≠it):Inv X pins σ H { s with heap:=h',toks:=t' }:=by
 have nit:∀ b u,H b=some u->b≠it:=fun b u e z=>by rw [z,hn] at e;cases e
 refine I.step (g':=s.gens) (d':=s.drawn) (ch:=[it]) (fun b hb=>?_) (fun b o _ _ hc e _=>k b o (fun z=>hc (by simp [z])) e) (fun b o _ _ hc e _=>⟨o.slots,k b o (fun z=>hc (by simp [z])) e⟩) (fun _ _ _ _ n=>n)
  (fun b o hc e=>⟨o,k b o (fun z=>hc (by simp [z])) e⟩) (fun _ _ e=>e) (fun _ _ _ e=>e) (fun b ps e=>⟨#[],by rw [e];simp⟩) (fun m hm=>?_) (fun b u e=>?_) I.bare
 ·have e:b=it:=by simpa using hb
  subst e
  exact ⟨h1,hL,h2,h3⟩
 ·obtain ⟨o,es,ep,ho,r⟩:=hm
  exact ⟨o,es,ep,k _ o (Ne.symm hL) ho,r⟩
 ·refine (I.hok b u e).stay (fun c v hc q=>k c v ?_ q) (fun _ q=>q) fun _ _ q=>q
  rcases hc with z | z
  ·rw [z];exact nit b u e
  ·exact nit c _ z
theorem Inv.tok (I:Inv X pins σ H s) (t:Nat):Inv X pins σ H { s with toks:=t }:=I.un (h':=s.heap) (t':=t) Un.refl I.hok
theorem Inv.kept {t':Nat} (I:Inv X pins σ H s) (k:∀ b u,s.heap.get? b=some u->h'.get? b=some u):Inv X pins σ H { s with heap:=h',toks:=t' }:=I.un (Un.kept k) (I.hok.kept k)
theorem Inv.laid {a:Addr} {o:HO} {t':Nat} (I:Inv X pins σ H s) (k:∀ b u,s.heap.get? b=some u->h'.get? b=some u) (hp:s.heap.objs.size<=a) (new:ObjOk X.prog X.w (upd H a o) h' a o) :
  Inv X pins σ (upd H a o) { s with heap:=h',toks:=t' }:=I.un (Un.laid k hp (I.hok.fresh hp)) (I.hok.laid k hp new)
theorem Inv.write {x e:Addr} {o:HO} {t':Nat} (I:Inv X pins σ H s) (mu:Mut (H x)) (he:e=x∨H e=some (.own x)) (k:∀ b u,b≠e->s.heap.get? b=some u->h'.get? b=some u) (heo:∃ u,h'.get? e=some u)
  (new:ObjOk X.prog X.w (upd H x o) h' x o):Inv X pins σ (upd H x o) { s with heap:=h',toks:=t' }:=I.un (Un.write mu he k heo) (I.hok.write mu he k heo new)
theorem Inv.pins_of {pins':List (Addr×Obj)} (I:Inv X pins σ H s) (h:∀ p∈pins',s.heap.get? p.1=some p.2/\H p.1=none/\p.1≠X.env.locals/\p.1∉X.fs/\∀ v,p.2.data≠.cell v):Inv X pins' σ H s :=
 ⟨I.ok,I.os,I.bare,I.base,I.loc,I.cell,I.free,I.freeC,fun p hp=>(List.mem_append.mp hp).elim (fun z=>I.pin p (List.mem_append_left _ z)) (h p),I.hok,I.len⟩
theorem GF {N:List Str} (hN:N.Nodup) {i j:Nat} {x:Str} (a:N[i]?=some x) (b:N[j]?=some x):i=j:=by
 obtain ⟨h1,e1⟩:=List.getElem?_eq_some_iff.mp a
 obtain ⟨h2,e2⟩:=List.getElem?_eq_some_iff.mp b
 exact (List.getElem_inj hN).mp (e1.trans e2.symm)
theorem U6 {M:Model} {A:Around} {E:Value->Shared->Prop} {i:Nat} {x:Str} {v:V} {u:Value} {Q:Unit->Shared->Prop} (I:Inv X pins σ H s) (hN:X.N.Nodup) (hi:X.N[i]?=some x) (hx:Loc X.env.scope x) (r:RelV v u)
  (h:∀ s',Inv X pins (σ.set i (some v)) H s'->(∃ a,Heap.SameBut a s.heap s'.heap/\(a=X.env.locals∨X.env.cells.lookup x=some a))->Q () s') (hf:X.fn x=true∨X.env.scope.names.lookup x=some .local:=by first | exact .inl rfl | exact .inr rfl | assumption):wpAny M A (storeName X.env x u) Q E s:=by
 obtain ⟨m,hn,hl⟩:=id I.loc
 have hcls:(X.env.scope.kind==.class||(X.env.scope.kind==.module&&X.env.locals != X.env.globals))=false:=by rw [I.ok.kind];rfl
 have hiσ:i < σ.length:=by rw [I.len];exact (List.getElem?_eq_some_iff.mp hi).1
 have cne:=I.cne
 have tracked:∀ {a:Addr} {h':Heap},(∃ o,s.heap.get? a=some o/\H a=none)->Heap.SameBut a s.heap h'->HOk X.prog X.w H h':=fun {a h'} ha hs b ob e=>by
  obtain ⟨_,_,hfree⟩:=ha
  refine (I.hok b ob e).stay (fun c w' hc q=>(hs.2 c ?_).trans q) (fun _ q=>q) fun _ _ q=>q
  rintro rfl
  rcases hc with rfl | hc
  ·rw [hfree] at e;cases e
  ·rw [hfree] at hc;cases hc
 rcases hx with hk | hk
 ·refine wpAny_storeName_local hk hn (fun h' hn' hs=>?_) hcls
  obtain ⟨oL,_,_,hoL,_⟩:=id hn
  refine h _ ⟨I.ok,I.os,I.bare,⟨fun b o e n hb hx=>?_,fun b o e n hb hx=>?_,I.base.free,fun b o e hx=>?_,I.base.tups,I.base.frzs,I.base.tbls⟩,⟨_,hn',fun j y v' e1 e2 e3=>?_⟩,fun y c e=>?_,I.free,I.freeC,fun p hp=>?_,tracked ⟨oL,hoL,I.free⟩ hs,by simpa using I.len⟩ ⟨_,hs,.inl rfl⟩
  ·exact (hs.2 b (Nat.ne_of_lt (Nat.lt_of_lt_of_le (Heap.lt_size e) I.ok.above))).trans (I.base.keep b o e n hb hx)
  ·obtain ⟨sl,e1⟩:=I.base.slot b o e n hb hx
   exact ⟨sl,(hs.2 b (Nat.ne_of_lt (Nat.lt_of_lt_of_le (Heap.lt_size e) I.ok.above))).trans e1⟩
  ·obtain ⟨o',e1⟩:=I.base.there b o e hx
   exact ⟨o',(hs.2 b (Nat.ne_of_lt (Nat.lt_of_lt_of_le (Heap.lt_size e) I.ok.above))).trans e1⟩
  ·by_cases hj:j=i
   ·subst hj
    rw [hi] at e1;cases e1
    rw [List.getElem?_set_self hiσ] at e2
    cases e2
    exact ⟨u,r,.inl ⟨hk,by simp⟩⟩
   ·rw [List.getElem?_set_ne (Ne.symm hj)] at e2
    obtain ⟨u',r',q⟩:=hl j y v' e1 e2 e3
    refine ⟨u',r',?_⟩
    rcases q with ⟨k,e⟩ | ⟨k,c,e,z⟩
    ·refine .inl ⟨k,?_⟩
     have:y≠x:=fun e=>hj (GF hN e1 (e▸hi))
     simp [this,e]
    ·exact .inr ⟨k,c,e,z.sameBut hs (cne y c e)⟩
  ·obtain ⟨w',z⟩:=I.cell y c e
   exact ⟨w',z.sameBut hs (cne y c e)⟩
  ·obtain ⟨e,n,ne,nf,d⟩:=I.pin p hp
   exact ⟨(hs.2 p.1 ne).trans e,n,ne,nf,d⟩
 ·have hfn:X.fn x=true:=by
   rcases hf with z | z
   ·exact z
   ·rw [z] at hk;cases hk
  obtain ⟨c,hc⟩:=I.ok.has x (.inl hk)
  obtain ⟨w',z⟩:=I.cell x c hc
  refine wpAny_storeName_cell I.ok.kind hk hc z (fun h' hc' hs=>?_)
  obtain ⟨oc,hoc,hocd⟩:=id z
  refine h { s with heap:=h' } ⟨I.ok,I.os,I.bare,⟨fun b o e n hb hx=>?_,fun b o e n hb hx=>?_,I.base.free,fun b o e hx=>?_,I.base.tups,I.base.frzs,I.base.tbls⟩,⟨m,hn.sameBut hs (Ne.symm (cne x c hc)),fun j y v' e1 e2 e3=>?_⟩,fun y c' e=>?_,I.free,I.freeC,fun p hp=>?_,tracked ⟨oc,hoc,I.freeC x c hc⟩ hs,by simpa using I.len⟩ ⟨c,hs,.inr hc⟩
  ·exact (hs.2 b (Nat.ne_of_lt (Nat.lt_of_lt_of_le (Heap.lt_size e) (I.ok.cab x c hfn hc)))).trans (I.base.keep b o e n hb hx)
  ·obtain ⟨sl,e1⟩:=I.base.slot b o e n hb hx
   exact ⟨sl,(hs.2 b (Nat.ne_of_lt (Nat.lt_of_lt_of_le (Heap.lt_size e) (I.ok.cab x c hfn hc)))).trans e1⟩
  ·obtain ⟨o',e1⟩:=I.base.there b o e hx
   exact ⟨o',(hs.2 b (Nat.ne_of_lt (Nat.lt_of_lt_of_le (Heap.lt_size e) (I.ok.cab x c hfn hc)))).trans e1⟩
  ·by_cases hj:j=i
   ·subst hj
    rw [hi] at e1;cases e1
    rw [List.getElem?_set_self hiσ] at e2
    cases e2
    exact ⟨u,r,.inr ⟨.inl hk,c,hc,hc'⟩⟩
   ·rw [List.getElem?_set_ne (Ne.symm hj)] at e2
    obtain ⟨u',r',q⟩:=hl j y v' e1 e2 e3
    refine ⟨u',r',?_⟩
    rcases q with q | ⟨k,c',e,z'⟩
    ·exact .inl q
    ·refine .inr ⟨k,c',e,z'.sameBut hs ?_⟩
     rintro rfl
     exact hj (GF hN e1 (I.ok.inj _ _ _ e hc▸hi))
  ·by_cases hcc:c'=c
   ·subst hcc;exact ⟨_,hc'⟩
   ·obtain ⟨w2,z2⟩:=I.cell y c' e
    exact ⟨w2,z2.sameBut hs hcc⟩
  ·obtain ⟨e,n,ne,nf,d⟩:=I.pin p hp
   refine ⟨(hs.2 p.1 ?_).trans e,n,ne,nf,d⟩
   intro q
   rw [q,hoc] at e
   have q':oc=p.2:=Option.some.inj e
   exact d w' (by rw [<- q'];exact hocd)
theorem G1 {M:Model} {A:Around} {E:Value->Shared->Prop} {i:Nat} {x:Str} {v:V} {u:Value} {Q:Unit->Shared->Prop} (I:Inv X pins σ H s) (hN:X.N.Nodup) (hi:X.N[i]?=some x) (hx:Loc X.env.scope x) (r:RelV v u)
  (h:∀ s',Inv X pins (σ.set i (some v)) H s'->Q () s') (hf:X.fn x=true∨X.env.scope.names.lookup x=some .local:=by first | exact .inl rfl | exact .inr rfl | assumption):wpAny M A (storeName X.env x u) Q E s :=
 U6 I hN hi hx r (fun s' I' _=>h s' I') hf
theorem Inv.call' {s':Shared} {ch:List Addr} (I:Inv X pins σ H s) (ho:s'.os=s.os) (u:Un (frs X.stack) ch H H' s.heap s'.heap) (hok:HOk X.prog X.w H' s'.heap) (hg:AllBare s'.gens)
  (hch:∀ b∈ch,(b∈X.ex∨X.s₀.heap.objs.size<=b)/\b≠X.env.locals/\(∀ x c,X.env.cells.lookup x=some c->c≠b)/\∀ p∈X.pn++pins,p.1≠b):Inv X pins σ H' s':=by
 obtain ⟨h',g',d',t',o'⟩:=s'
 have e:o'=s.os:=ho
 subst e
 exact I.call (g':=g') (t':=t') (d':=d') u hok hg hch
end
abbrev XK:=Value->Option Addr->Hp->Prop
abbrev St:=List (Option V)
abbrev VK:=V->Hp->Prop
abbrev TE:=St->Hp->VK->Prop
abbrev TT:=St->Hp->(Bool->Hp->Prop)->Prop
abbrev TA:=St->Hp->(List V->Hp->Prop)->Prop
structure Ke where
 nx:St->Hp->Prop
 rt:VK
 bk:St->Hp->Prop:=fun _ _=>False
 ct:St->Hp->Prop:=fun _ _=>False
abbrev TS:=Ke->St->Hp->Prop
def EP (X:Cx) (pins:List (Addr×Obj)) (σ:St) (Q:VK) (u:Value) (s':Shared):Prop:=∃ v H',Inv X pins σ H' s'/\RelV v u/\Q v H'
def TP (X:Cx) (pins:List (Addr×Obj)) (σ:St) (Q:Bool->Hp->Prop) (b:Bool) (s':Shared):Prop:=∃ H',Inv X pins σ H' s'/\Q b H'
def AP (X:Cx) (pins:List (Addr×Obj)) (σ:St) (Q:List V->Hp->Prop) (us:List Value) (s':Shared):Prop:=∃ vs H',Inv X pins σ H' s'/\Vals vs us/\Q vs H'
def SP (X:Cx) (pins:List (Addr×Obj)) (D:Ke) (f:Flow) (s':Shared):Prop :=
 match f with
 | .next=>∃ σ' H',Inv X pins σ' H' s'/\D.nx σ' H'
 | .brk=>∃ σ' H',Inv X pins σ' H' s'/\D.bk σ' H'
 | .cont=>∃ σ' H',Inv X pins σ' H' s'/\D.ct σ' H'
 | .ret u=>∃ v σ' H',Inv X pins σ' H' s'/\RelV v u/\D.rt v H'
def PE (X:Cx) (e:Expr) (t:TE):Prop :=
 ∀ (pins:List (Addr×Obj)) (s:Shared) (σ:St) (H:Hp) (Q:VK),Inv X pins σ H s->t σ H Q->wpAny (model X.prog X.w) X.A (eval e X.env) (EP X pins σ Q) X.xe s
def PT (X:Cx) (e:Expr) (t:TT):Prop :=
 ∀ (pins:List (Addr×Obj)) (s:Shared) (σ:St) (H:Hp) (Q:Bool->Hp->Prop),Inv X pins σ H s->t σ H Q->wpAny (model X.prog X.w) X.A (isTrue e X.env (eval e X.env)) (TP X pins σ Q) X.xe s
def PW (X:Cx) (e:Expr) (t:TT):Prop :=
 ∀ (whole:Sem Value) (pins:List (Addr×Obj)) (s:Shared) (σ:St) (H:Hp) (Q:Bool->Hp->Prop),Inv X pins σ H s->t σ H Q->wpAny (model X.prog X.w) X.A (isTrue e X.env whole) (TP X pins σ Q) X.xe s
def PA (X:Cx) (es:List Expr) (t:TA):Prop :=
 ∀ (pos:Pos) (pins:List (Addr×Obj)) (s:Shared) (σ:St) (H:Hp) (Q:List V->Hp->Prop),Inv X pins σ H s->t σ H Q->wpAny (model X.prog X.w) X.A (spliced (backTo pos (starEach es X.env))) (AP X pins σ Q) X.xe s
def PS (X:Cx) (st:Stmt) (t:TS):Prop :=
 ∀ (pins:List (Addr×Obj)) (s:Shared) (σ:St) (H:Hp) (D:Ke),Inv X pins σ H s->t D σ H->wpAny (model X.prog X.w) X.A (exec st X.env) (SP X pins D) X.xe s
def PSs (X:Cx) (st:List Stmt) (t:TS):Prop :=
 ∀ (pins:List (Addr×Obj)) (s:Shared) (σ:St) (H:Hp) (D:Ke),Inv X pins σ H s->t D σ H->wpAny (model X.prog X.w) X.A (execs st X.env) (SP X pins D) X.xe s
theorem thn {α:Type} {t:Sem α} {Q Q':α->Shared->Prop} {M:Model} {A:Around} {E:Value->Shared->Prop} {s:Shared} (h:wpAny M A t Q E s) (hQ:∀ a s,Q a s->Q' a s):wpAny M A t Q' E s:=wpAny_mono h hQ fun _ _ x=>x
end L2
namespace L2
open PySem PySem.Spec PyProof.Rows
section
variable {X:Cx}
theorem bin {a b:Expr} {ta tb:TE} (ha:PE X a ta) (hb:PE X b tb) {pins:List (Addr×Obj)} {s:Shared} {σ:St} {H:Hp} {R:V->V->Hp->Prop} (I:Inv X pins σ H s) (h:ta σ H fun x H1=>tb σ H1 fun y H2=>R x y H2)
  {α:Type} {Q:α->Shared->Prop} {f:Value->Value->Sem α}
  (hf:∀ v u s2 x y H2,Inv X pins σ H2 s2->RelV x v->RelV y u->R x y H2->wpAny (model X.prog X.w) X.A (f v u) Q X.xe s2) :
  wpAny (model X.prog X.w) X.A (eval a X.env) (fun v s₁=>wpAny (model X.prog X.w) X.A (eval b X.env) (fun u s₂=>wpAny (model X.prog X.w) X.A (f v u) Q X.xe s₂) X.xe s₁) X.xe s:=by
 refine thn (ha pins s σ H _ I h) fun v s1 ⟨x,H1,I1,r1,q1⟩=>?_
 refine thn (hb pins s1 σ H1 _ I1 q1) fun u s2 ⟨y,H2,I2,r2,q2⟩=>?_
 exact hf v u s2 x y H2 I2 r1 r2 q2
def Qhs (i:Nat):TE:=fun σ H Q=>∃ v,σ[i]?=some (some v)/\Q v H
def tC (v:V):TE:=fun _ H Q=>Q v H
theorem Qfb {i:Nat} {x:Str} {pos:Pos} (hN:X.N[i]?=some x) (hv:Vis X.env.scope x) (hd:(x==("__debug__" : Str))=false:=by decide) (hcd:(x==("__classdict__" : Str))=false:=by decide):PE X (.Name x pos) (Qhs i):=by
 intro pins s σ H Q I h
 obtain ⟨v,e,h⟩:=h
 obtain ⟨m,hn,hl⟩:=I.loc
 obtain ⟨u,r,l⟩:=hl i x v hN e hv
 have fin:EP X pins σ Q u s:=⟨v,H,I,r,h⟩
 rcases l with ⟨hk,hm⟩ | ⟨hk,c,hc,hcell⟩
 ·exact wpAny_Name (wpAny_loadName_local I.ok.kind hk hn hm fin) hd
 ·rcases hk with hk | hk
  ·exact wpAny_Name (wpAny_loadName_cell I.ok.kind hk hc hcell fin) hd
  ·exact wpAny_Name (wpAny_loadName_free I.ok.kind hk hc hcell fin hcd) hd
theorem Qe5 {i j pos}:PE X (.Constant (.int i) j pos) (tC (.int i)):=fun _ _ _ H _ I h=>wpAny_Constant_int ⟨.int i,H,I.tok _,⟨_,rfl⟩,h⟩
theorem Qgw {b j pos}:PE X (.Constant (.bool b) j pos) (tC (.bl b)):=fun _ _ _ H _ I h=>Constant_bool ⟨.bl b,H,I,rfl,h⟩
theorem Qe6 {j pos}:PE X (.Constant .none j pos) (tC .non):=fun _ _ _ H _ I h=>Constant_none ⟨.non,H,I,rfl,h⟩
theorem Qe9 {x j pos}:PE X (.Constant (.str x) j pos) (tC (.str x)):=fun _ _ _ H _ I h=>Calls.Constant_str ⟨.str x,H,I.tok _,⟨_,rfl⟩,h⟩
def Gl (X:Cx) (x:Str):Prop:=X.env.kindOf x=some .globalImplicit
theorem KF {E:Value->Shared->Prop} {pins:List (Addr×Obj)} {s:Shared} {σ:St} {H:Hp} {x:Str} {u:Value} {pos:Pos} {Q:Value->Shared->Prop} (I:Inv X pins σ H s) (hg:Gl X x) (hm:X.mg x=some u) (h:Q u s)
  (hd:(x==("__debug__" : Str))=false:=by decide):wpAny (model X.prog X.w) X.A (eval (.Name x pos) X.env) Q E s :=
 Calls.Name_function_global I.ok.kind hg (Calls.loadGlobal_global (by rw [I.ok.glob];exact I.mod.glob.keeps I.bk) hm h) hd
theorem xY {E:Value->Shared->Prop} {pins:List (Addr×Obj)} {s:Shared} {σ:St} {H:Hp} {x:Str} {u:Value} {pos:Pos} {Q:Value->Shared->Prop} (I:Inv X pins σ H s) (hg:Gl X x) (hm:X.mg x=none) (hv:bootBuiltins x=some u) (h:Q u s)
  (hn:x ≠ "__name__" := by decide) (hd:(x==("__debug__" : Str))=false:=by decide):wpAny (model X.prog X.w) X.A (eval (.Name x pos) X.env) Q E s:=by
 obtain ⟨mb,h1,h2⟩:=I.mod.blt
 exact Calls.Name_function_global I.ok.kind hg (Calls.loadGlobal_builtin (by rw [I.ok.glob];exact I.mod.glob.keeps I.bk) hm (by rw [I.ok.blt];exact h1.keeps I.bk) ((h2 x hn).trans hv) h) hd
theorem gj {x:Str} {v:V} {u:Value} {pos:Pos} (hg:Gl X x) (hm:X.mg x=some u) (r:RelV v u) (hd:(x==("__debug__" : Str))=false:=by decide):PE X (.Name x pos) (tC v) :=
 fun _ _ _ H _ I h=>KF I hg hm ⟨v,H,I,r,h⟩ hd
theorem gh {x:Str} {v:V} {u:Value} {pos:Pos} (hg:Gl X x) (hm:X.mg x=none) (hv:bootBuiltins x=some u) (r:RelV v u) (hn:x ≠ "__name__" := by decide) (hd:(x==("__debug__" : Str))=false:=by decide):PE X (.Name x pos) (tC v) :=
 fun _ _ _ H _ I h=>xY I hg hm hv ⟨v,H,I,r,h⟩ hn hd
variable {a b:Expr} {ta tb:TE} {pos:Pos}
def PC (X:Cx) (op:CmpOp) (a b:Expr) (t:TE):Prop :=
  ∀ (pins : List (Addr × Obj)) (s : Shared) (σ : St) (H : Hp) (Q : VK), Inv X pins σ H s -> t σ H Q ->
    wpAny (model X.prog X.w) X.A (eval a X.env) (fun v s₁=>wpAny (model X.prog X.w) X.A (eval b X.env) (fun u s₂=>wpAny (model X.prog X.w) X.A (compareOp op v u) (EP X pins σ Q) X.xe s₂) X.xe s₁) X.xe s
theorem Qbx (b:Expr) {op:CmpOp} (h:op≠.In) (h2:op≠.NotIn):behindInMarks op b=false:=by
 have e1:(op==CmpOp.In)=false:=by cases op<;>first | rfl | exact absurd rfl h
 have e2:(op==CmpOp.NotIn)=false:=by cases op<;>first | rfl | exact absurd rfl h2
 cases b<;>simp [behindInMarks,e1,e2]
def tB (t:TE):TT:=fun σ H Q=>t σ H fun x H1=>∃ c,x=.bl c/\Q c H1
theorem Qhc {op:CmpOp} {t:TE} (h:PC X op a b t) (h1:behindInMarks op b=false:=by first | exact Qbx _ (by decide) (by decide) | rfl):PT X (.Compare a [op] [b] pos) (tB t):=by
 intro pins s σ H Q I hw
 refine wpAny_isTrue_Compare1 (thn (h pins s σ H _ I hw) fun v s1 h1=>thn h1 fun u s2 h2=>thn h2 fun c s3 ⟨x,H1,I1,r1,q1⟩=>?_) h1
 obtain ⟨d,rfl,q⟩:=q1
 cases r1
 exact wpAny_truthy_bool ⟨H1,I1,q⟩
theorem Qfr {e:Expr} {t:TE} (h:PE X e t) (he:∀ whole,isTrue e X.env whole=(do let v <- whole;standAt e.pos;holding [v] (truthy v)):=by intro _;rfl):PT X e (tB t):=by
 intro pins s σ H Q I hw
 refine isTrue_plain (thn (h pins s σ H _ I hw) fun v s1 ⟨x,H1,I1,r1,q1⟩=>?_) (he _)
 obtain ⟨d,rfl,q⟩:=q1
 cases r1
 exact wpAny_truthy_bool ⟨H1,I1,q⟩
variable {tA tB':TT} {rest:List Expr}
def Qhk (t u:TT):TT:=fun σ H Q=>t σ H fun c H1=>if c=true then u σ H1 Q else Q false H1
def tOr (t u:TT):TT:=fun σ H Q=>t σ H fun c H1=>if c=true then Q true H1 else u σ H1 Q
def Qhp (t:TT):TT:=fun σ H Q=>t σ H fun c H1=>Q (!c) H1
theorem Qdw (ha:PT X a tA):PW X (.BoolOp .And [a] pos) tA:=by
 intro wh pins s σ H Q I h
 refine isTrue_and (thn (ha pins s σ H Q I h) fun c s1 e=>?_)
 cases c with
 | true=>exact isTrue_and_nil e
 | false=>exact e
theorem Qfu (ha:PT X a tA):PW X (.BoolOp .Or [a] pos) tA:=by
 intro wh pins s σ H Q I h
 refine isTrue_or (thn (ha pins s σ H Q I h) fun c s1 e=>?_)
 cases c with
 | false=>exact isTrue_or_nil e
 | true=>exact e
theorem Qft (ha:PT X a tA) (hb:PW X (.BoolOp .And (b::rest) pos) tB'):PW X (.BoolOp .And (a::b::rest) pos) (Qhk tA tB'):=by
 intro wh pins s σ H Q I h
 refine isTrue_and (thn (ha pins s σ H _ I h) fun c s1 ⟨H1,I1,q1⟩=>?_)
 cases c with
 | true=>exact hb wh pins s1 σ H1 Q I1 q1
 | false=>exact ⟨H1,I1,q1⟩
theorem QgB (ha:PT X a tA) (hb:PW X (.BoolOp .Or (b::rest) pos) tB'):PW X (.BoolOp .Or (a::b::rest) pos) (tOr tA tB'):=by
 intro wh pins s σ H Q I h
 refine isTrue_or (thn (ha pins s σ H _ I h) fun c s1 ⟨H1,I1,q1⟩=>?_)
 cases c with
 | true=>exact ⟨H1,I1,q1⟩
 | false=>exact hb wh pins s1 σ H1 Q I1 q1
theorem Qfq (ha:PT X a tA):PT X (.UnaryOp .Not a pos) (Qhp tA):=by
 intro pins s σ H Q I h
 exact isTrue_not (ha pins s σ H (fun c H1=>Q (!c) H1) I h)
def QgI (ta tb:TE):TE:=fun σ H Q=>ta σ H fun x H1=>∃ c,x=.bl c/\if c=true then tb σ H1 Q else Q (.bl false) H1
def QgP (ta:TE):TE:=fun σ H Q=>ta σ H fun x H1=>∃ c,x=.bl c/\Q (.bl (!c)) H1
theorem Qe8 {op} {t:TE} (h:PE X a t):PE X (.BoolOp op [a] pos) t:=fun pins s σ H Q I hw=>BoolOp_one (h pins s σ H Q I hw)
theorem Qe3 (ha:PE X a ta) (hb:PE X (.BoolOp .And (b::rest) pos) tb):PE X (.BoolOp .And (a::b::rest) pos) (QgI ta tb):=by
 intro pins s σ H Q I h
 refine BoolOp_and (thn (ha pins s σ H _ I h) fun v s1 ⟨x,H1,I1,r1,q1⟩=>?_)
 obtain ⟨c,rfl,q1⟩:=q1
 cases r1
 refine wpAny_truthy_bool ?_
 cases c with
 | true=>exact hb pins s1 σ H1 Q I1 q1
 | false=>exact ⟨.bl false,H1,I1,rfl,q1⟩
theorem Qe7 (ha:PE X a ta):PE X (.UnaryOp .Not a pos) (QgP ta):=by
 intro pins s σ H Q I h
 refine UnaryOp_ (thn (ha pins s σ H _ I h) fun v s1 ⟨x,H1,I1,r1,q1⟩=>?_)
 obtain ⟨c,rfl,q1⟩:=q1
 cases r1
 exact not_of (wpAny_truthy_bool ⟨.bl (!c),H1,I1,rfl,q1⟩)
def tIf (t:TT) (ta tb:TE):TE:=fun σ H Q=>t σ H fun c H1=>if c=true then ta σ H1 Q else tb σ H1 Q
theorem QbG {c:Expr} (hc:PT X c tA) (ha:PE X a ta) (hb:PE X b tb):PE X (.IfExp c a b pos) (tIf tA ta tb):=by
 intro pins s σ H Q I h
 refine wpAny_IfExp (thn (hc pins s σ H _ I h) fun d s1 ⟨H1,I1,q1⟩=>?_)
 cases d with
 | true=>exact ha pins s1 σ H1 Q I1 q1
 | false=>exact hb pins s1 σ H1 Q I1 q1
end
end L2
namespace L2
open PySem PySem.Spec PyProof.Rows
def SqL (K:PySem.W.Frag) (H:Hp) (a:Addr) (xs:List V):Prop :=
 Rd H a (.lst xs) ∨
  ∃ (o:Obj) (its:Array Value) (n:Nat),K.lookup a=some o/\o.cls=.type "list" /\ o.dict=none/\o.data=.seq its n/\its.size<=sizeLine/\Vals xs its.toList
def SqT (K:PySem.W.Frag) (H:Hp) (a:Addr) (xs:List V):Prop :=
 Rd H a (.tup xs) ∨
  ∃ (o:Obj) (its:Array Value) (n:Nat),K.lookup a=some o/\o.cls=.type "tuple" /\ o.data=.seq its n/\its.size<=sizeLine/\Vals xs its.toList
def Qg2:Value->Option V
 | .none=>some .non
 | .bool b=>some (.bl b)
 | .int i _=>some (.int i)
 | .str x _=>some (.str x)
 | .bytes b _=>some (.byt b)
 | .float b _=>some (.flt b)
 | .ref a=>some (.ref a)
 | .type n=>some (.ty n)
 | _=>none
theorem RelV.abs {x:V} {u:Value} (r:RelV x u):Qg2 u=some x:=by
 cases x with
 | non=>cases r;rfl
 | bl _=>cases r;rfl
 | int _=>obtain ⟨t,rfl⟩:=r;rfl
 | str _=>obtain ⟨t,rfl⟩:=r;rfl
 | byt _=>obtain ⟨t,rfl⟩:=r;rfl
 | flt _=>obtain ⟨t,rfl⟩:=r;rfl
 | ref _=>cases r;rfl
 | ty _=>cases r;rfl
theorem RelV.inj {x y:V} {u:Value} (r:RelV x u) (q:RelV y u):x=y:=Option.some.inj (r.abs.symm.trans q.abs)
theorem Vals.inj:∀ {xs ys:List V} {us:List Value},Vals xs us->Vals ys us->xs=ys
 | _,_,_,.nil,.nil=>rfl
 | _,_,_,.cons r t,.cons r' t'=>by rw [r.inj r',Vals.inj t t']
section
variable {X:Cx} {pins:List (Addr×Obj)} {σ:St} {H:Hp} {s:Shared} {a:Addr} {xs ys:List V}
theorem SqL.of {K:PySem.W.Frag} (h:H a=some (.lst xs)):SqL K H a xs:=.inl (.inl h)
theorem SqT.of {K:PySem.W.Frag} (h:H a=some (.tup xs)):SqT K H a xs:=.inl (.inl h)
theorem Inv.list (I:Inv X pins σ H s) (h:SqL X.K H a xs):∃ its:List Value,Vals xs its/\PlainL s.heap a its.toArray/\xs.length<=sizeLine:=by
 rcases h with h | ⟨o,its,n,hk,hc,hd,hs,hz,r⟩
 ·obtain ⟨z,its,n,r,e⟩:=h.ok I.hok
  exact ⟨its,r,⟨_,n,e,rfl,rfl,rfl⟩,z⟩
 ·refine ⟨its.toList,r,⟨o,n,I.kIn a o hk,hc,hd,by simpa using hs⟩,?_⟩
  have e:=r.length
  simp only [Array.length_toList] at e
  omega
theorem Inv.tuple (I:Inv X pins σ H s) (h:SqT X.K H a xs):∃ its:List Value,Vals xs its/\IsTup s.heap a its.toArray/\xs.length<=sizeLine:=by
 rcases h with h | ⟨o,its,n,hk,hc,hs,hz,r⟩
 ·obtain ⟨z,its,r,p⟩:=h.ok I.hok
  exact ⟨its,r,p,z⟩
 ·refine ⟨its.toList,r,⟨o,I.kIn a o hk,hc,n,by simpa using hs⟩,?_⟩
  have e:=r.length
  simp only [Array.length_toList] at e
  omega
theorem Inv.list_inj (I:Inv X pins σ H s) (h:SqL X.K H a xs) (h':SqL X.K H a ys):xs=ys:=by
 obtain ⟨its,r,⟨o,n,e,_,_,d⟩,_⟩:=I.list h
 obtain ⟨its',r',⟨o',n',e',_,_,d'⟩,_⟩:=I.list h'
 rw [e] at e';cases e'
 rw [d] at d'
 injection d' with d1 _
 have:its=its':=by simpa using congrArg Array.toList d1
 subst this
 exact r.inj r'
theorem Inv.tuple_inj (I:Inv X pins σ H s) (h:SqT X.K H a xs) (h':SqT X.K H a ys):xs=ys:=by
 obtain ⟨its,r,⟨o,e,_,n,d⟩,_⟩:=I.tuple h
 obtain ⟨its',r',⟨o',e',_,n',d'⟩,_⟩:=I.tuple h'
 rw [e] at e';cases e'
 rw [d] at d'
 injection d' with d1 _
 have:its=its':=by simpa using congrArg Array.toList d1
 subst this
 exact r.inj r'
end
abbrev Cx.wish (X:Cx) (E:Value->Shared->Prop):Cx:={ X with xe:=E }
abbrev Cx.nox (X:Cx):Cx:=X.wish fun _ _=>False
theorem Cx.Ok.wish {X:Cx} (ok:X.Ok) (E:Value->Shared->Prop):(X.wish E).Ok :=
 ⟨ok.mod,ok.kind,ok.glob,ok.blt,ok.above,ok.inj,ok.has,ok.cab,ok.hd,ok.frames,ok.stk,ok.exf,ok.bs,ok.bsz,ok.noex,ok.exfs,ok.funs,ok.frf⟩
theorem Cx.Ok.unwish {X:Cx} {E:Value->Shared->Prop} (ok:(X.wish E).Ok):X.Ok :=
 ⟨ok.mod,ok.kind,ok.glob,ok.blt,ok.above,ok.inj,ok.has,ok.cab,ok.hd,ok.frames,ok.stk,ok.exf,ok.bs,ok.bsz,ok.noex,ok.exfs,ok.funs,ok.frf⟩
section
variable {X:Cx} {pins:List (Addr×Obj)} {σ:St} {H:Hp} {s:Shared} {E:Value->Shared->Prop}
theorem Inv.wish (I:Inv X pins σ H s) (E:Value->Shared->Prop):Inv (X.wish E) pins σ H s:=⟨I.ok.wish E,I.os,I.bare,I.base,I.loc,I.cell,I.free,I.freeC,I.pin,I.hok,I.len⟩
theorem Inv.unwish (I:Inv (X.wish E) pins σ H s):Inv X pins σ H s:=⟨I.ok.unwish,I.os,I.bare,I.base,I.loc,I.cell,I.free,I.freeC,I.pin,I.hok,I.len⟩
theorem SP.unwish {D:Ke} {f:Flow} {s':Shared} (h:SP (X.wish E) pins D f s'):SP X pins D f s':=by
 cases f with
 | next=>obtain ⟨σ',H',I,q⟩:=h;exact ⟨σ',H',I.unwish,q⟩
 | brk=>obtain ⟨σ',H',I,q⟩:=h;exact ⟨σ',H',I.unwish,q⟩
 | cont=>obtain ⟨σ',H',I,q⟩:=h;exact ⟨σ',H',I.unwish,q⟩
 | ret u=>obtain ⟨v,σ',H',I,r,q⟩:=h;exact ⟨v,σ',H',I.unwish,r,q⟩
theorem PSs.nox {st:List Stmt} {t:TS} (h:PSs X.nox st t):PSs X st t:=fun pins s σ H D I hw =>
 wpAny_mono (h pins s σ H D (I.wish _) hw) (fun _ _ q=>q.unwish) fun _ _ z=>False.elim z
end
section
variable {X:Cx} {st:Stmt} {rest:List Stmt} {t u:TS} {e:Expr} {te:TE} {pos:Pos}
def QgN:TS:=fun D σ H=>D.nx σ H
def QgR (t u:TS):TS:=fun D σ H=>t { D with nx:=u D } σ H
theorem pss_nil:PSs X [] QgN:=fun _ _ σ H _ I h=>wpAny_execs_nil ⟨σ,H,I,h⟩
theorem QbT (h1:PS X st t) (h2:PSs X rest u):PSs X (st::rest) (QgR t u):=by
  intro pins s σ H D I h
  refine wpAny_execs_cons (thn (h1 pins s σ H { D with nx:=u D } I h) fun f s1 q=>?_)
  cases f with
  | next =>
    obtain ⟨σ',H',I',q⟩:=q
    exact h2 pins s1 σ' H' D I' q
  | ret v=>exact q
  | brk=>exact q
  | cont=>exact q
theorem Qdr (h1:PS X st t):PSs X [st] t:=by
 intro pins s σ H D I h
 refine wpAny_execs_cons (thn (h1 pins s σ H D I h) fun f s1 q=>?_)
 cases f with
 | next=>exact wpAny_execs_nil q
 | ret v=>exact q
 | brk=>exact q
 | cont=>exact q
theorem Inv.quiet {pins:List (Addr×Obj)} {σ:St} {H:Hp} {s:Shared} (I:Inv X pins σ H s):interactive X.env=false:=by simp [interactive,I.ok.kind]
def QgM (te:TE):TS:=fun D σ H=>te σ H fun _ H1=>D.nx σ H1
theorem Qdq (he:PE X e te) (hs:swapsWith e none pos.line X.env=pure false:=by rfl):PS X (.Expr e pos) (QgM te):=by
 intro pins s σ H D I h
 exact wpAny_Expr_any (thn (he pins s σ H _ I h) fun v s1 ⟨x,H1,I1,r1,q1⟩=>⟨σ,H1,I1,q1⟩) I.quiet hs
def Qhq (te:TE):TS:=fun D σ H=>te σ H D.rt
theorem Qfo (he:PE X e te):PS X (.Return (some e) pos) (Qhq te):=by
 intro pins s σ H D I h
 exact wpAny_Return_some (thn (he pins s σ H _ I h) fun v s1 ⟨x,H1,I1,r1,q1⟩=>⟨x,σ,H1,I1,r1,q1⟩)
def Qhn (c:TT) (t u:TS):TS:=fun D σ H=>c σ H fun b H1=>if b=true then t D σ H1 else u D σ H1
theorem QgA {c:Expr} {a b:List Stmt} {tc:TT} (hc:PT X c tc) (ha:PSs X a t) (hb:PSs X b u):PS X (.If c a b pos) (Qhn tc t u):=by
 intro pins s σ H D I h
 refine wpAny_If (thn (hc pins s σ H _ I h) fun d s1 ⟨H1,I1,q1⟩=>?_)
 cases d with
 | true=>exact ha pins s1 σ H1 D I1 q1
 | false=>exact hb pins s1 σ H1 D I1 q1
def QfC:TS:=fun _ _ _=>False
theorem QbR:PS X st QfC:=fun _ _ _ _ _ _ h=>h.elim
end
abbrev TG:=V->St->Hp->(St->Hp->Prop)->Prop
abbrev TGs:=List V->St->Hp->(St->Hp->Prop)->Prop
def PG (X:Cx) (target:Expr) (t:TG):Prop :=
  ∀ (pins : List (Addr × Obj)) (s : Shared) (σ : St) (H : Hp) (v : V) (u : Value) (Q : St -> Hp -> Prop), Inv X pins σ H s -> RelV v u -> t v σ H Q ->
    wpAny (model X.prog X.w) X.A (assign target X.env u) (fun _ s'=>∃ σ' H',Inv X pins σ' H' s'/\Q σ' H') X.xe s
def PGs (X:Cx) (ts:List Expr) (t:TGs):Prop :=
  ∀ (pins : List (Addr × Obj)) (s : Shared) (σ : St) (H : Hp) (vs : List V) (us : List Value) (Q : St -> Hp -> Prop), Inv X pins σ H s -> Vals vs us -> t vs σ H Q ->
    wpAny (model X.prog X.w) X.A (assignInOrder ((assignEach ts X.env).map (·.2)) us) (fun _ s'=>∃ σ' H',Inv X pins σ' H' s'/\Q σ' H') X.xe s
abbrev gW:=V->V->V->Hp->(Hp->Prop)->Prop
def Qaw (X:Cx) (t:gW):Prop :=
  ∀ (pins : List (Addr × Obj)) (s : Shared) (σ : St) (H : Hp) (o i v : V) (ov iv u : Value) (Q : Hp -> Prop), Inv X pins σ H s -> RelV o ov -> RelV i iv -> RelV v u -> t o i v H Q ->
    wpAny (model X.prog X.w) X.A (setItem ov iv u) (fun _ s'=>∃ H',Inv X pins σ H' s'/\Q H') X.xe s
abbrev TIp:=V->V->Hp->VK->Prop
def PIp (X:Cx) (op:Operator) (t:TIp):Prop :=
  ∀ (pins : List (Addr × Obj)) (s : Shared) (σ : St) (H : Hp) (x y : V) (v u : Value) (Q : VK), Inv X pins σ H s -> RelV x v -> RelV y u -> t x y H Q ->
    wpAny (model X.prog X.w) X.A (inplaceOp op v u) (EP X pins σ Q) X.xe s
section
variable {X:Cx} {pos:Pos}
def uO (i:Nat):TG:=fun v σ H Q=>Q (σ.set i (some v)) H
theorem KH {i:Nat} {x:Str} (hN:X.N.Nodup) (hi:X.N[i]?=some x) (hx:Loc X.env.scope x) (hf:X.fn x=true∨X.env.scope.names.lookup x=some .local:=by first | exact .inl rfl | exact .inr rfl | assumption):PG X (.Name x pos) (uO i):=by
 intro pins s σ H v u Q I r h
 exact wpAny_assign_Name (G1 I hN hi hx r (fun s' I'=>⟨_,H,I',h⟩) hf)
def Qg4:TGs:=fun vs σ H Q=>vs=[]/\Q σ H
def Qge (t:TG) (u:TGs):TGs:=fun vs σ H Q=>∃ v r,vs=v::r/\t v σ H fun σ' H'=>u r σ' H' Q
theorem Qdf:PGs X [] Qg4:=by
 intro pins s σ H vs us Q I r h
 obtain ⟨e,h⟩:=h
 subst e
 cases r
 exact assignInOrder_nil ⟨σ,H,I,h⟩
theorem QbN {e:Expr} {es:List Expr} {t:TG} {u:TGs} (h1:PG X e t) (h2:PGs X es u)
    (hs:(assignEach (e::es) X.env).map (·.2)=assign e X.env::(assignEach es X.env).map (·.2):=by rfl):PGs X (e::es) (Qge t u):=by
  intro pins s σ H vs us Q I r h
  obtain ⟨v,vr,e1,h⟩:=h
  subst e1
  cases r with
  | cons r rr =>
    rw [hs]
    refine assignInOrder_cons (thn (h1 pins s σ H _ _ _ I r h) fun _ s1 ⟨σ1,H1,I1,q1⟩=>?_)
    exact h2 pins s1 σ1 H1 _ _ Q I1 rr q1
def Qg6 (K:PySem.W.Frag) (n:Nat) (t:TGs):TG:=fun v σ H Q=>∃ a xs,v=.ref a/\SqT K H a xs/\xs.length=n/\t xs σ H Q
theorem Qfh {es:List Expr} {k:Nat} {t:TGs} {n:Nat} (hc:X.calm=true) (h:PGs X es t)
  (hn:(assignEach es X.env).length=n:=by rfl) (hst:(assignEach es X.env).findIdx? (·.1)=none:=by rfl):PG X (.Tuple es k pos) (Qg6 X.K n t):=by
 intro pins s σ H v u Q I r hw
 obtain ⟨a,xs,e1,hq,hl,hw⟩:=hw
 subst e1
 cases r
 obtain ⟨its,rv,ht,hz⟩:=I.tuple hq
 refine assign_Tuple_tuple (I.ok.hd hc) ht (by simp [hn,<- hl,rv.length]) hst fun h' hx=>?_
 have I1:Inv X pins σ H { s with heap:=h' }:=I.kept (t':=s.toks) fun b o e=>hx b o (Nat.ne_of_lt (Heap.lt_size e)) e
 exact h pins _ σ H xs _ Q I1 (by simpa using rv) hw
def Qg5 (to ti:TE) (t:gW):TG:=fun v σ H Q=>to σ H fun o H1=>ti σ H1 fun i H2=>t o i v H2 fun H3=>Q σ H3
theorem Qfg {o i:Expr} {to ti:TE} {t:gW} (ho:PE X o to) (hi:PE X i ti) (hs:Qaw X t)
  (ha:∀ v,assign (.Subscript o i pos) X.env v=(do
   let ov <- holding [v] (eval o X.env)
   let iv <- holding [v,ov] (eval i X.env)
   standAt pos
   holding [v,ov,iv] (setItem ov iv v)
   release [v,ov,iv] []):=by intro _;rfl):PG X (.Subscript o i pos) (Qg5 to ti t):=by
 intro pins s σ H v u Q I r h
 rw [ha]
 refine wpAny_bind (wpAny_holding (thn (ho pins s σ H _ I h) fun ov s1 ⟨x,H1,I1,r1,q1⟩=>?_))
 refine wpAny_bind (wpAny_holding (thn (hi pins s1 σ H1 _ I1 q1) fun iv s2 ⟨y,H2,I2,r2,q2⟩=>?_))
 refine wpAny_bind (wpAny_standAt (wpAny_bind (wpAny_holding (thn (hs pins s2 σ H2 x y v ov iv u _ I2 r1 r2 r q2) fun _ s3 ⟨H3,I3,q3⟩=>?_))))
 exact wpAny_release ⟨σ,H3,I3,q3⟩
def QdK (te:TE) (g:TG):TS:=fun D σ H=>te σ H fun x H1=>g x σ H1 D.nx
theorem Qfm {tg e:Expr} {te:TE} {g:TG} (he:PE X e te) (hg:PG X tg g) (hs:swapsWithSole [tg] e pos.line X.env=pure false:=by rfl) (hw:swappedStores [tg] e X.env=pure none:=by rfl)
  (h1:(assignEach [tg] X.env).map (·.2)=[assign tg X.env]:=by rfl):PS X (.Assign [tg] e pos) (QdK te g):=by
 intro pins s σ H D I h
 refine wpAny_Assign_stores (thn (he pins s σ H _ I h) fun v s1 ⟨x,H1,I1,r1,q1⟩=>?_) hs hw
 rw [h1]
 exact thn (hg pins s1 σ H1 x v _ I1 r1 q1) fun _ s2 q=>q
theorem Qfp {i:Nat} {x:Str} {e:Expr} {te:TE} {pos':Pos} (hN:X.N.Nodup) (hi:X.N[i]?=some x) (hx:Loc X.env.scope x) (he:PE X e te) (hs:swapsWith e (some (.Name x pos')) pos.line X.env=pure false:=by rfl) (hf:X.fn x=true∨X.env.scope.names.lookup x=some .local:=by first | exact .inl rfl | exact .inr rfl | assumption) :
  PS X (.Assign [.Name x pos'] e pos) (QdK te (uO i)):=by
 intro pins s σ H D I h
 refine wpAny_Assign_Name (thn (he pins s σ H _ I h) fun v s1 ⟨y,H1,I1,r1,q1⟩=>?_) hs
 exact G1 I1 hN hi hx r1 (fun s2 I2=>⟨_,H1,I2,q1⟩) hf
def QgJ (to ti te:TE) (tget:V->V->Hp->VK->Prop) (tip:TIp) (tset:gW):TS:=fun D σ H=>to σ H fun o H1=>ti σ H1 fun i H2=>tget o i H2 fun x H3=>te σ H3 fun y H4=>tip x y H4 fun z H5=>tset o i z H5 fun H6=>D.nx σ H6
def QfW (X:Cx) (t:V->V->Hp->VK->Prop):Prop :=
  ∀ (pins : List (Addr × Obj)) (s : Shared) (σ : St) (H : Hp) (o i : V) (ov iv : Value) (Q : VK), Inv X pins σ H s -> RelV o ov -> RelV i iv -> t o i H Q ->
    wpAny (model X.prog X.w) X.A (getItem ov iv) (EP X pins σ Q) X.xe s
theorem Qdo {o i e:Expr} {to ti te:TE} {tget:V->V->Hp->VK->Prop} {tip:TIp} {tset:gW} {op:Operator} {tpos:Pos} (ho:PE X o to) (hi:PE X i ti) (hg:QfW X tget) (he:PE X e te) (hp:PIp X op tip) (hs:Qaw X tset)
  (ha:∀ ov iv new,augStore i ov iv new=(do holding [new,ov,iv] (setItem ov iv new);release [new,ov,iv] [];pure .next):=by intros;rfl):PS X (.AugAssign (.Subscript o i tpos) op e pos) (QgJ to ti te tget tip tset):=by
 intro pins s σ H D I h
 refine wpAny_AugAssign_SubscriptAny (thn (ho pins s σ H _ I h) fun ov s1 ⟨x1,H1,I1,r1,q1⟩=>?_) ha
 refine thn (hi pins s1 σ H1 _ I1 q1) fun iv s2 ⟨x2,H2,I2,r2,q2⟩=>?_
 refine thn (hg pins s2 σ H2 x1 x2 ov iv _ I2 r1 r2 q2) fun old s3 ⟨x3,H3,I3,r3,q3⟩=>?_
 refine thn (he pins s3 σ H3 _ I3 q3) fun v s4 ⟨x4,H4,I4,r4,q4⟩=>?_
 refine thn (hp pins s4 σ H4 x3 x4 old v _ I4 r3 r4 q4) fun new s5 ⟨x5,H5,I5,r5,q5⟩=>?_
 exact thn (hs pins s5 σ H5 x1 x2 x5 ov iv new _ I5 r1 r2 r5 q5) fun _ s6 ⟨H6,I6,q6⟩=>⟨σ,H6,I6,q6⟩
def ipI (f:Int->Int->Int):TIp:=fun x y H Q=>∃ i j,x=.int i/\y=.int j/\Q (.int (f i j)) H
theorem QeA:PIp X .Add (ipI fun i j=>i+j):=by
 intro pins s σ H x y v u Q I r1 r2 h
 obtain ⟨i,j,e1,e2,q⟩:=h
 subst e1;subst e2
 obtain ⟨t,rfl⟩:=r1
 obtain ⟨t',rfl⟩:=r2
 exact iadd_int ⟨.int _,H,I.tok _,⟨_,rfl⟩,q⟩
end
section
variable {X:Cx} {pos:Pos}
def QfD (c:TT) (tb:TS):TS:=fun D σ H=>∃ W:Nat->St->Hp->Prop,(∃ m,W m σ H)/\∀ m σ H,W m σ H ->
 c σ H fun b H1=>if b=true then ∃ N:St->Hp->Prop,(∀ σ' H',N σ' H'->∃ m',m' < m/\W m' σ' H')/\tb { D with nx:=N,ct:=N,bk:=D.nx } σ H1 else D.nx σ H1
theorem QbS {c:Expr} {body:List Stmt} {tc:TT} {tb:TS} (hp:PassesOwn (model X.prog X.w) X.A X.env X.xe) (hc:PT X c tc) (hb:PSs X body tb):PS X (.While c body [] pos) (QfD tc tb):=by
  intro pins s σ H D I h
  obtain ⟨W,⟨m0,w0⟩,turn⟩:=h
  refine wpAny_While (codeAny_whileLoop (fun n s'=>∃ σ' H',Inv X pins σ' H' s'/\W n σ' H') ?_ m0 ⟨σ,H,I,w0⟩)
  rintro n s1 ⟨σ1,H1,I1,w1⟩
  refine wpAny_passesOwn hp (thn (hc pins s1 σ1 H1 _ I1 (turn n σ1 H1 w1)) fun b s2 ⟨H2,I2,q2⟩=>?_)
  cases b with
  | true =>
    obtain ⟨N,hN,q2⟩:=q2
    rw [if_pos rfl]
    refine wpAny_passesOwn hp (thn (hb pins s2 σ1 H2 _ I2 q2) fun f s3 q3=>?_)
    cases f with
    | next =>
      obtain ⟨σ3,H3,I3,n3⟩:=q3
      obtain ⟨m',hm,w3⟩:=hN σ3 H3 n3
      exact ⟨m',hm,σ3,H3,I3,w3⟩
    | cont =>
      obtain ⟨σ3,H3,I3,n3⟩:=q3
      obtain ⟨m',hm,w3⟩:=hN σ3 H3 n3
      exact ⟨m',hm,σ3,H3,I3,w3⟩
    | brk=>exact q3
    | ret v=>exact q3
  | false =>
    rw [if_neg Bool.false_ne_true]
    exact wpAny_execs_nil ⟨σ1,H2,I2,q2⟩
end
structure It where
 go:Nat->Hp->Prop
 yld:Nat->Hp->V->Hp->Prop
 stop:Nat->Hp->Prop
def V3 (X:Cx) (pins:List (Addr×Obj)) (H:Hp) (b:Addr):Prop :=
 H b=none/\b≠X.env.locals/\b∉X.fs/\(b∈X.ex∨X.s₀.heap.objs.size<=b)/\(∀ x c,X.env.cells.lookup x=some c->c≠b)/\∀ p∈X.pn++pins,p.1≠b
theorem Inv.fpOk {X:Cx} {pins:List (Addr×Obj)} {σ:St} {H H':Hp} {s:Shared} {b:Addr} (I:Inv X pins σ H s) (hb:s.heap.objs.size<=b) (hn:H' b=none):V3 X pins H' b:=by
 refine ⟨hn,Nat.ne_of_gt (Nat.lt_of_lt_of_le I.lt hb),I.nofs hb,.inr (Nat.le_trans I.sz hb),fun x c e z=>?_,fun p hp z=>?_⟩
 ·obtain ⟨v,q⟩:=I.cell x c e
  exact absurd (Nat.lt_of_lt_of_le q.lt (by rw [z];exact hb)) (Nat.lt_irrefl _)
 ·exact absurd (Nat.lt_of_lt_of_le (Heap.lt_size (I.pin p hp).1) (by rw [z];exact hb)) (Nat.lt_irrefl _)
structure gX (P:Program) (w:World) (K:PySem.W.Frag) (tg:Expr) (J:It) (fp:List Addr) (it:Addr) (tn:Nat->Heap->Prop):Prop where
 mem:it∈fp
 obj:∀ i h,tn i h->∀ b∈fp,∃ o,h.get? b=some o/\∀ v,o.data≠.cell v
 keep:∀ i h h',tn i h->(∀ b∈fp,∀ o,h.get? b=some o->h'.get? b=some o)->tn i h'
 item:∀ (X:Cx),X.prog=P->X.w=w->X.K=K->X.calm=true->∀ (i:Nat) (pins:List (Addr×Obj)) (s:Shared) (σ:St) (H:Hp) (E:Value->Shared->Prop),Inv X pins σ H s->(∀ b∈fp,V3 X pins H b)->tn i s.heap->J.go i H ->
  wpAny (model P w) X.A (pyNext (.ref it)) (fun r s1=>∃ u,r=some u /\
   wpAny (model P w) X.A (letOwnedTupleGo tg (.ref it) u) (fun _ s2=>∃ x H',Inv X pins σ H' s2/\RelV x u/\J.yld i H x H'/\tn (i+1) s2.heap/\∀ b∈fp,H' b=none) E s1) E s
 done:∀ (X:Cx),X.prog=P->X.w=w->X.K=K->X.calm=true->∀ (i:Nat) (pins:List (Addr×Obj)) (s:Shared) (σ:St) (H:Hp) (E:Value->Shared->Prop),Inv X pins σ H s->(∀ b∈fp,V3 X pins H b)->tn i s.heap->J.stop i H ->
  wpAny (model P w) X.A (pyNext (.ref it)) (fun r s1=>r=none/\Inv X pins σ H s1) E s
 self:∀ (A:Around) (i:Nat) (s:Shared) (Q:Value->Shared->Prop) (E:Value->Shared->Prop),tn i s.heap->Q (.ref it) s->wpAny (model P w) A (pyIter (.ref it)) Q E s
abbrev TI:=St->Hp->(It->Hp->Prop)->Prop
def PIE (X:Cx) (pins:List (Addr×Obj)) (σ:St) (tg:Expr) (R:It->Hp->Prop) (itv:Value) (s2:Shared):Prop :=
 ∃ (it:Addr) (fp:List Addr) (tn:Nat->Heap->Prop) (J:It) (H':Hp),itv=.ref it/\Inv X pins σ H' s2/\gX X.prog X.w X.K tg J fp it tn/\tn 0 s2.heap/\(∀ b∈fp,V3 X pins H' b)/\R J H'
def PI (X:Cx) (tg iter:Expr) (wi:TI):Prop :=
  ∀ (pins : List (Addr × Obj)) (s : Shared) (σ : St) (H : Hp) (R : It -> Hp -> Prop), Inv X pins σ H s -> wi σ H R ->
    wpAny (model X.prog X.w) X.A (eval iter X.env) (fun v s1=>wpAny (model X.prog X.w) X.A (pyIter v) (PIE X pins σ tg R) X.xe s1) X.xe s
theorem Qa4 {M:Model} {A:Around} {E:Value->Shared->Prop} {s:Shared} {tg:Expr} {it:Addr} {u:Value} {o:Obj} {n:String} {vs:Array Value} {Q:Unit->Shared->Prop} (ho:s.heap.get? it=some o) (hc:o.cls=.type n) (hd:o.data=.fields vs)
    (hn:["enumerate", "zip", "dict_itemiterator", "dict_reverseitemiterator", "odict_iterator", "itertools.zip_longest", "itertools.pairwise"].contains n=false) (hQ:Q () s):wpAny M A (letOwnedTupleGo tg (.ref it) u) Q E s:=by
  unfold letOwnedTupleGo
  cases tg<;>first
    | exact wpAny_pure hQ
    | (cases u<;>first
        | exact wpAny_pure hQ
        | (refine wpAny_bind (wpAny_load ho ?_)
           rw [hc,hd]
           show wpAny M A (if (["enumerate", "zip", "dict_itemiterator", "dict_reverseitemiterator", "odict_iterator", "itertools.zip_longest", "itertools.pairwise"].contains n&&vs[0]?==some (rawInt _))=true then _ else _) Q E s
           rw [if_neg (by intro h;rw [hn,Bool.false_and] at h;cases h)]
           exact wpAny_pure hQ))
def Itl (K:PySem.W.Frag) (a:Addr):It :=
 ⟨fun i H=>∃ xs x,SqL K H a xs/\xs[i]?=some x,fun i H x H'=>H'=H/\∀ xs,SqL K H a xs->xs[i]?=some x,fun i H=>∃ xs,SqL K H a xs/\xs.length<=i⟩
def Itt (K:PySem.W.Frag) (a:Addr):It :=
 ⟨fun i H=>∃ xs x,SqT K H a xs/\xs[i]?=some x,fun i H x H'=>H'=H/\∀ xs,SqT K H a xs->xs[i]?=some x,fun i H=>∃ xs,SqT K H a xs/\xs.length<=i⟩
def Itr (lo:Int) (n:Nat):It:=⟨fun i _=>i < n,fun i H x H'=>H'=H/\x=.int (lo+i),fun i _=>n<=i⟩
theorem Qar {P:Program} {w:World} {K:PySem.W.Frag} {tg:Expr} (a it:Addr):gX P w K tg (Itl K a) [it] it (fun i h=>h.IsListIter it a i) where
 mem:=by simp
 obj:=fun i h st b hb=>by
  have e:b=it:=by simpa using hb
  subst e
  obtain ⟨o,e,c,d⟩:=st
  exact ⟨o,e,fun v z=>by rw [d] at z;cases z⟩
 keep:=fun i h h' st k=>st.at fun o e=>k it (by simp) o e
 item:=by
  intro X hP hw hK hc i pins s σ H E I hf st hg
  subst hP hw hK
  obtain ⟨xs,x,hq,hx⟩:=hg
  obtain ⟨its,rv,p,hz⟩:=I.list hq
  obtain ⟨u,hu,ru⟩:=rv.get hx
  obtain ⟨f0,f1,f2,f3,f4,f5⟩:=hf it (by simp)
  refine wpAny_pyNext_list_item st p.isList (x:=u) (by simpa using hu) fun h' st' sb=>?_
  have I1:Inv X pins σ H { s with heap:=h' }:=I.turned (t':=s.toks) (fun b o hb e=>(sb.2 b hb).trans e) f0 f1 f3 f4 f5
  obtain ⟨o,e,c,d⟩:=id st'
  exact ⟨u,rfl,Qa4 (s:={ s with heap:=h' }) e c d (by decide) ⟨x,H,I1,ru,⟨rfl,fun ys hy=>by rw [I.list_inj hy hq];exact hx⟩,st',fun b hb=>(hf b hb).1⟩⟩
 done:=by
  intro X hP hw hK hc i pins s σ H E I hf st hg
  subst hP hw hK
  obtain ⟨xs,hq,hx⟩:=hg
  obtain ⟨its,rv,p,hz⟩:=I.list hq
  obtain ⟨f0,f1,f2,f3,f4,f5⟩:=hf it (by simp)
  have hl:=rv.length
  exact wpAny_pyNext_list_end (I.ok.hd hc) st p.isList (by simp;omega) fun h' eb=>⟨rfl,I.turned (t':=s.toks) (fun b o hb e=>eb b o hb e) f0 f1 f3 f4 f5⟩
 self:=fun _ _ _ _ _ st h=>wpAny_pyIter_listiter st h
theorem ue {P:Program} {w:World} {K:PySem.W.Frag} {tg:Expr} (a it:Addr):gX P w K tg (Itt K a) [it] it (fun i h=>h.IsTupleIter it a i) where
 mem:=by simp
 obj:=fun i h st b hb=>by
  have e:b=it:=by simpa using hb
  subst e
  obtain ⟨o,e,c,d⟩:=st
  exact ⟨o,e,fun v z=>by rw [d] at z;cases z⟩
 keep:=fun i h h' st k=>st.at fun o e=>k it (by simp) o e
 item:=by
  intro X hP hw hK hc i pins s σ H E I hf st hg
  subst hP hw hK
  obtain ⟨xs,x,hq,hx⟩:=hg
  obtain ⟨its,rv,p,hz⟩:=I.tuple hq
  obtain ⟨u,hu,ru⟩:=rv.get hx
  obtain ⟨f0,f1,f2,f3,f4,f5⟩:=hf it (by simp)
  refine wpAny_pyNext_tuple_item st (show s.heap.IsTuple a its.toArray from p) (x:=u) (by simpa using hu) fun h' st' sb=>?_
  have I1:Inv X pins σ H { s with heap:=h' }:=I.turned (t':=s.toks) (fun b o hb e=>(sb.2 b hb).trans e) f0 f1 f3 f4 f5
  obtain ⟨o,e,c,d⟩:=id st'
  exact ⟨u,rfl,Qa4 (s:={ s with heap:=h' }) e c d (by decide) ⟨x,H,I1,ru,⟨rfl,fun ys hy=>by rw [I.tuple_inj hy hq];exact hx⟩,st',fun b hb=>(hf b hb).1⟩⟩
 done:=by
  intro X hP hw hK hc i pins s σ H E I hf st hg
  subst hP hw hK
  obtain ⟨xs,hq,hx⟩:=hg
  obtain ⟨its,rv,p,hz⟩:=I.tuple hq
  obtain ⟨f0,f1,f2,f3,f4,f5⟩:=hf it (by simp)
  have hl:=rv.length
  exact wpAny_pyNext_tuple_end (I.ok.hd hc) st (show s.heap.IsTuple a its.toArray from p) (by simp;omega) fun h' eb=>⟨rfl,I.turned (t':=s.toks) (fun b o hb e=>eb b o hb e) f0 f1 f3 f4 f5⟩
 self:=fun _ _ _ _ _ st h=>wpAny_pyIter_tupleiter st h
theorem ud {P:Program} {w:World} {K:PySem.W.Frag} {tg:Expr} (it:Addr) (lo:Int) (n:Nat):gX P w K tg (Itr lo n) [it] it (fun i h=>IsRangeIter h it (lo+(i:Nat) * 1) ((n:Int) - (i:Nat)) 1) where
 mem:=by simp
 obj:=fun i h st b hb=>by
  have e:b=it:=by simpa using hb
  subst e
  exact ⟨_,st,fun v z=>by
   have z':Data.fields _=Data.cell v:=z
   cases z'⟩
 keep:=fun i h h' st k=>k it (by simp) _ st
 item:=by
  intro X hP hw hK hc i pins s σ H E I hf st hg
  subst hP hw hK
  obtain ⟨f0,f1,f2,f3,f4,f5⟩:=hf it (by simp)
  have W:=Walks.range (prog:=X.prog) (w:=X.w) (I.ok.hd hc) it lo 1 n
  refine W.item i s _ _ hg st fun v h' tk hv st' kk=>?_
  obtain ⟨t,rfl⟩:=hv
  have I1:Inv X pins σ H { s with heap:=h',toks:=tk }:=I.turned (fun b o hb e=>kk b o (by simpa using hb) e) f0 f1 f3 f4 f5
  refine ⟨_,rfl,Qa4 (s:={ s with heap:=h',toks:=tk }) (n := "range_iterator") st' rfl rfl (by decide) ⟨.int (lo+i),H,I1,⟨t,?_⟩,⟨rfl,rfl⟩,st',fun b hb=>(hf b hb).1⟩⟩
  rw [Int.mul_one]
 done:=by
  intro X hP hw hK hc i pins s σ H E I hf st hg
  subst hP hw hK
  obtain ⟨f0,f1,f2,f3,f4,f5⟩:=hf it (by simp)
  exact wpAny_pyNext_range_end (I.ok.hd hc) st (by have:n<=i:=hg;omega) fun h' eb=>⟨rfl,I.turned (t':=s.toks) (fun b o hb e=>eb b o hb e) f0 f1 f3 f4 f5⟩
 self:=fun _ _ _ _ _ st h=>wpAny_pyIter_rangeiter st h
end L2
namespace L2
open PySem PySem.Spec PyProof.Rows
section
variable {X:Cx} {tg:Expr}
def Qgg (K:PySem.W.Frag) (tl:TE):TI:=fun σ H R=>tl σ H fun x H1=>∃ a,x=.ref a/\(∃ xs,SqL K H1 a xs)/\R (Itl K a) H1
def Qg7 (K:PySem.W.Frag) (tl:TE):TI:=fun σ H R=>tl σ H fun x H1=>∃ a,x=.ref a/\(∃ xs,SqT K H1 a xs)/\R (Itt K a) H1
theorem Qdi {l:Expr} {tl:TE} (hl:PE X l tl):PI X tg l (Qgg X.K tl):=by
 intro pins s σ H R I h
 refine thn (hl pins s σ H _ I h) fun v s1 ⟨x,H1,I1,r1,q1⟩=>?_
 obtain ⟨a,e,⟨xs,hq⟩,q⟩:=q1
 subst e
 cases r1
 obtain ⟨its,rv,p,hz⟩:=I1.list hq
 refine wpAny_pyIter_list p.isList ?_
 refine ⟨s1.heap.objs.size,[s1.heap.objs.size],_,_,H1,rfl,I1.kept (t':=s1.toks) fun b o e=>Heap.get?_push_of_some _ e,Qar a _,⟨_,Heap.get?_push_size _ rfl,rfl,rfl⟩,fun b hb=>?_,q⟩
 have e:b=s1.heap.objs.size:=by simpa using hb
 subst e
 exact I1.fpOk (Nat.le_refl _) (I1.hok.fresh (Nat.le_refl _))
theorem Qfi {l:Expr} {tl:TE} (hl:PE X l tl):PI X tg l (Qg7 X.K tl):=by
 intro pins s σ H R I h
 refine thn (hl pins s σ H _ I h) fun v s1 ⟨x,H1,I1,r1,q1⟩=>?_
 obtain ⟨a,e,⟨xs,hq⟩,q⟩:=q1
 subst e
 cases r1
 obtain ⟨its,rv,p,hz⟩:=I1.tuple hq
 refine wpAny_pyIter_tuple (show s1.heap.IsTuple a its.toArray from p) ?_
 refine ⟨s1.heap.objs.size,[s1.heap.objs.size],_,_,H1,rfl,I1.kept (t':=s1.toks) fun b o e=>Heap.get?_push_of_some _ e,ue a _,⟨_,Heap.get?_push_size _ rfl,rfl,rfl⟩,fun b hb=>?_,q⟩
 have e:b=s1.heap.objs.size:=by simpa using hb
 subst e
 exact I1.fpOk (Nat.le_refl _) (I1.hok.fresh (Nat.le_refl _))
theorem QbY {pins:List (Addr×Obj)} {σ:St} {H:Hp} {s:Shared} {R:It->Hp->Prop} {E:Value->Shared->Prop} {lo hi:Int} {t u v:Tok} {tk:Nat} (I:Inv X pins σ H s) (h1:-(2 ^ 62)<=lo) (h2:lo < 2 ^ 62) (h3:-(2 ^ 62)<=hi) (h4:hi < 2 ^ 62)
  (q:R (Itr lo (hi - lo).toNat) H):wpAny (model X.prog X.w) X.A (pyIter (.ref s.heap.objs.size)) (PIE X pins σ tg R) E { s with heap:=s.heap.push { cls:=.type "range", data:=.fields #[.int lo t,.int hi u,.int 1 v] },toks:=tk }:=by
 refine wpAny_pyIter_range (IsRange.new ..) (small_one h1 h2 h3 h4) ?_
 have I1:Inv X pins σ H { s with heap:=s.heap.push { cls:=.type "range", data:=.fields #[.int lo t,.int hi u,.int 1 v] },toks:=tk }:=I.kept fun b o e=>Heap.get?_push_of_some _ e
 refine ⟨(s.heap.push { cls:=.type "range", data:=.fields #[.int lo t,.int hi u,.int 1 v] }).objs.size,[(s.heap.push { cls:=.type "range", data:=.fields #[.int lo t,.int hi u,.int 1 v] }).objs.size],_,_,H,rfl,
  I1.kept (t':=tk) fun b o e=>Heap.get?_push_of_some _ e,ud _ lo (hi - lo).toNat,?_,fun b hb=>?_,q⟩
 ·have e1:lo+((0:Nat):Int) * 1=lo:=by simp
  have e2:(((hi - lo).toNat:Nat):Int) - ((0:Nat):Int)=Builtin.Range.rangeSize lo hi 1:=by rw [rangeSize_one];split<;>omega
  show IsRangeIter _ _ (lo+((0:Nat):Int) * 1) ((((hi - lo).toNat:Nat):Int) - ((0:Nat):Int)) 1
  rw [e1,e2]
  exact Heap.get?_push_size _ rfl
 ·have e:b=(s.heap.push { cls:=.type "range", data:=.fields #[.int lo t,.int hi u,.int 1 v] }).objs.size:=by simpa using hb
  subst e
  exact I1.fpOk (Nat.le_refl _) (I1.hok.fresh (Nat.le_refl _))
def Qgh (ta:TA):TI:=fun σ H R=>ta σ H fun vs H1=>∃ j:Int,vs=[.int j] /\ -(2 ^ 62)<=j/\j < 2 ^ 62/\R (Itr 0 j.toNat) H1
theorem Qaj {a:Expr} {ta:TA} {p pos:Pos} (hg:Gl X "range") (hm:X.mg "range" = none) (ha:PA X [a] ta) (hs:starEach [a] X.env=[(false,eval a X.env)]:=by rfl):PI X tg (.Call (.Name "range" p) [a] [] pos) (Qgh ta):=by
  intro pins s σ H R I h
  refine Call_ (xY I hg hm boot_range (PyProof.Rows.callWith_type1 (thn (ha pos pins s σ H _ I h) fun us s1 ⟨vs,H1,I1,r1,q1⟩=>?_) hs rfl))
  obtain ⟨j,e,q1,q2,q⟩:=q1
  subst e
  cases r1 with
  | cons r rr =>
    cases rr
    obtain ⟨t,rfl⟩:=r
    exact call_range_1 (QbY I1 (by omega) (by omega) q1 q2 (by simpa using q))
def Qhm (wi:TI) (g:TG) (tb:TS):TS:=fun D σ H=>wi σ H fun J H1=>∃ W:Nat->Nat->St->Hp->Prop,(∃ m,W 0 m σ H1)/\∀ i m σ H,W i m σ H ->
 (J.stop i H/\D.nx σ H)∨(J.go i H/\∃ N:St->Hp->Prop,(∀ σ' H',N σ' H'->∃ m',m' < m/\W (i+1) m' σ' H')/\∀ x H',J.yld i H x H'->g x σ H' fun σ2 H2=>tb { D with nx:=N,ct:=N,bk:=D.nx } σ2 H2)
def Vy (fp:List Addr) (h:Heap):List (Addr×Obj):=fp.filterMap fun b=>(h.get? b).map fun o=>(b,o)
theorem qF {fp:List Addr} {h:Heap} {b:Addr} {o:Obj} (hb:b∈fp) (e:h.get? b=some o):(b,o)∈Vy fp h:=List.mem_filterMap.mpr ⟨b,hb,by rw [e];rfl⟩
theorem Qaa {fp:List Addr} {h:Heap} {p:Addr×Obj} (hp:p∈Vy fp h):p.1∈fp/\h.get? p.1=some p.2:=by
  obtain ⟨b,hb,e⟩:=List.mem_filterMap.mp hp
  cases q:h.get? b with
  | none=>rw [q] at e;cases e
  | some o =>
    rw [q] at e
    have e':(b,o)=p:=Option.some.inj e
    subst e'
    exact ⟨hb,q⟩
theorem Inv.pinned {pins:List (Addr×Obj)} {σ:St} {H:Hp} {s:Shared} {fp:List Addr} (I:Inv X pins σ H s) (hf:∀ b∈fp,V3 X pins H b) (ho:∀ b∈fp,∃ o,s.heap.get? b=some o/\∀ v,o.data≠.cell v):Inv X (pins++Vy fp s.heap) σ H s :=
 I.pins_of fun p hp=>(List.mem_append.mp hp).elim (fun z=>I.pin p (List.mem_append_right _ z)) fun z=>by
  obtain ⟨hb,e⟩:=Qaa z
  obtain ⟨f0,f1,f2,_⟩:=hf p.1 hb
  obtain ⟨o,e',d⟩:=ho p.1 hb
  rw [e] at e';cases e'
  exact ⟨e,f0,f1,f2,d⟩
theorem Inv.unpinned {pins pl:List (Addr×Obj)} {σ:St} {H:Hp} {s:Shared} (I:Inv X (pins++pl) σ H s):Inv X pins σ H s:=I.pins_of fun p hp=>I.pin p (List.mem_append_right _ (List.mem_append_left _ hp))
theorem QbQ {iter:Expr} {body:List Stmt} {wi:TI} {g:TG} {tb:TS} {pos:Pos} (hp:PassesOwn (model X.prog X.w) X.A X.env X.xe) (hc:X.calm=true) (hi:PI X tg iter wi) (hg:PG X tg g) (hb:PSs X body tb)
  (hs:∀ x,foldedSetIterable iter X.env x=pure x:=by intro _;rfl):PS X (.For tg iter body [] pos) (Qhm wi g tb):=by
 intro pins s σ H D I h
 refine wpAny_For (thn (hi pins s σ H _ I h) fun v s1 h1=>thn h1 fun itv s2 h2=>?_) hs
 obtain ⟨it,fp,tn,J,H2,e,I2,T,st2,f2,W,⟨m0,w0⟩,turn⟩:=h2
 subst e
 have stat:∀ {H':Hp},(∀ b∈fp,H' b=none)->∀ b∈fp,V3 X pins H' b:=fun hn b hb=>⟨hn b hb,(f2 b hb).2⟩
 refine codeAny_forLoop_any (fun n s'=>∃ i σ' H',Inv X pins σ' H' s'/\tn i s'.heap/\(∀ b∈fp,H' b=none)/\W i n σ' H') ?_ m0 ⟨0,σ,H2,I2,st2,fun b hb=>(f2 b hb).1,w0⟩
 rintro n s3 ⟨i,σ3,H3,I3,st3,fr3,w3⟩
 rcases turn i n σ3 H3 w3 with ⟨stop,qn⟩ | ⟨go,N,hN,step⟩
 ·refine wpAny_passesOwn hp (thn (T.done X rfl rfl rfl hc i pins s3 σ3 H3 X.xe I3 (stat fr3) st3 stop) fun r s4 ⟨hr,I4⟩=>?_)
  subst hr
  exact wpAny_execs_nil ⟨σ3,H3,I4,qn⟩
 ·refine wpAny_passesOwn hp (thn (T.item X rfl rfl rfl hc i pins s3 σ3 H3 X.xe I3 (stat fr3) st3 go) fun r s4 ⟨u,hr,h4⟩=>?_)
  subst hr
  refine wpAny_passesOwn hp (thn h4 fun _ s5 ⟨x,H5,I5,r5,y5,st5,fr5⟩=>?_)
  have I5':=I5.pinned (stat fr5) (T.obj _ _ st5)
  refine wpAny_passesOwn hp (thn (hg _ s5 σ3 H5 x u _ I5' r5 (step x H5 y5)) fun _ s6 ⟨σ6,H6,I6,q6⟩=>?_)
  refine wpAny_passesOwn hp (thn (hb _ s6 σ6 H6 _ I6 q6) fun f s7 q7=>?_)
  have again:∀ {σ7:St} {H7:Hp},Inv X (pins++Vy fp s5.heap) σ7 H7 s7->N σ7 H7->∃ m,m < n/\∃ i σ' H',Inv X pins σ' H' s7/\tn i s7.heap/\(∀ b∈fp,H' b=none)/\W i m σ' H':=fun {σ7 H7} I7 n7=>by
   obtain ⟨m',hm,w7⟩:=hN σ7 H7 n7
   refine ⟨m',hm,i+1,σ7,H7,I7.unpinned,T.keep _ _ _ st5 fun b hb o e=>(I7.pin (b,o) (List.mem_append_right _ (List.mem_append_right _ (qF hb e)))).1,fun b hb=>?_,w7⟩
   obtain ⟨o,e,d⟩:=T.obj _ _ st5 b hb
   exact (I7.pin (b,o) (List.mem_append_right _ (List.mem_append_right _ (qF hb e)))).2.1
  cases f with
  | next=>obtain ⟨σ7,H7,I7,n7⟩:=q7;exact again I7 n7
  | cont=>obtain ⟨σ7,H7,I7,n7⟩:=q7;exact again I7 n7
  | brk=>obtain ⟨σ7,H7,I7,q7⟩:=q7;exact ⟨σ7,H7,I7.unpinned,q7⟩
  | ret v=>obtain ⟨x7,σ7,H7,I7,r7,q7⟩:=q7;exact ⟨x7,σ7,H7,I7.unpinned,r7,q7⟩
end
end L2
namespace L2
open PySem PySem.Spec PyProof.Rows
abbrev R2:=V->V->Hp->VK->Prop
def OpR (X:Cx) (f:Value->Value->Sem Value) (r:R2):Prop :=
  ∀ (pins : List (Addr × Obj)) (s : Shared) (σ : St) (H : Hp) (x y : V) (v u : Value) (Q : VK), Inv X pins σ H s -> RelV x v -> RelV y u -> r x y H Q ->
    wpAny (model X.prog X.w) X.A (f v u) (EP X pins σ Q) X.xe s
def UnR (X:Cx) (f:Value->Sem Value) (r:V->Hp->VK->Prop):Prop :=
  ∀ (pins : List (Addr × Obj)) (s : Shared) (σ : St) (H : Hp) (x : V) (v : Value) (Q : VK), Inv X pins σ H s -> RelV x v -> r x H Q ->
    wpAny (model X.prog X.w) X.A (f v) (EP X pins σ Q) X.xe s
def Xs (X:Cx) (f:Value) (r:List V->Hp->VK->Prop):Prop :=
  ∀ (pins : List (Addr × Obj)) (s : Shared) (σ : St) (H : Hp) (xs : List V) (us : List Value) (Q : VK), Inv X pins σ H s -> Vals xs us -> r xs H Q ->
    wpAny (model X.prog X.w) X.A (call f us) (EP X pins σ Q) X.xe s
def tOp (r:R2) (ta tb:TE):TE:=fun σ H Q=>ta σ H fun x H1=>tb σ H1 fun y H2=>r x y H2 Q
def tUn (r:V->Hp->VK->Prop) (ta:TE):TE:=fun σ H Q=>ta σ H fun x H1=>r x H1 Q
def rI (C:Int->Int->Prop) (g:Int->Int->V):R2:=fun x y H Q=>∃ i j,x=.int i/\y=.int j/\C i j/\Q (g i j) H
def rI0 (g:Int->Int->V):R2:=fun x y H Q=>∃ i j,x=.int i/\y=.int j/\Q (g i j) H
def rU (g:Int->V):V->Hp->VK->Prop:=fun x H Q=>∃ i,x=.int i/\Q (g i) H
section
variable {X:Cx} {a b c:Expr} {ta tb tc:TE} {pos:Pos}
theorem Qem (ha:PE X a ta) (hb:PE X b tb) {pins:List (Addr×Obj)} {s:Shared} {σ:St} {H:Hp} {R:V->V->Hp->Prop} (I:Inv X pins σ H s)
  (h:ta σ H fun x H1=>tb σ H1 fun y H2=>R x y H2) {Q:Value->Shared->Prop} {f:Value->Value->Sem Value}
  (hf:∀ v u s2 x y H2,Inv X pins σ H2 s2->RelV x v->RelV y u->R x y H2->wpAny (model X.prog X.w) X.A (f v u) Q X.xe s2) :
  wpAny (model X.prog X.w) X.A (eval a X.env) (fun v s₁=>wpAny (model X.prog X.w) X.A (eval b X.env) (fun u s₂=>wpAny (model X.prog X.w) X.A (f v u) Q X.xe s₂) X.xe s₁) X.xe s:=by
 refine thn (ha pins s σ H _ I h) fun v s1 ⟨x,H1,I1,r1,q1⟩=>?_
 refine thn (hb pins s1 σ H1 _ I1 q1) fun u s2 ⟨y,H2,I2,r2,q2⟩=>?_
 exact hf v u s2 x y H2 I2 r1 r2 q2
theorem Qgy {op:Operator} {r:R2} (ho:OpR X (binaryOp op) r) (ha:PE X a ta) (hb:PE X b tb):PE X (.BinOp a op b pos) (tOp r ta tb):=by
 intro pins s σ H Q I h
 exact wpAny_BinOp (Qem ha hb I h fun v u s2 x y H2 I2 rx ry q=>ho pins s2 σ H2 x y v u Q I2 rx ry q)
theorem Qgz {op:UnaryOp} {r:V->Hp->VK->Prop} (ho:UnR X (unaryOp op) r) (ha:PE X a ta):PE X (.UnaryOp op a pos) (tUn r ta):=by
 intro pins s σ H Q I h
 exact UnaryOp_ (thn (ha pins s σ H _ I h) fun v s1 ⟨x,H1,I1,r1,q1⟩=>ho pins s1 σ H1 x v Q I1 r1 q1)
theorem opI {f:Value->Value->Sem Value} {C:Int->Int->Prop} {g:Int->Int->Int}
  (rule:∀ (i j:Int) (t u:Tok) (s:Shared) (Q:Value->Shared->Prop) (E:Value->Shared->Prop),C i j->Q (.int (g i j) s.toks) { s with toks:=s.toks+1 }->wpAny (model X.prog X.w) X.A (f (.int i t) (.int j u)) Q E s) :
  OpR X f (rI C fun i j=>.int (g i j)):=by
 intro pins s σ H x y v u Q I rx ry h
 obtain ⟨i,j,rfl,rfl,hc,q⟩:=h
 obtain ⟨t,rfl⟩:=rx
 obtain ⟨t',rfl⟩:=ry
 exact rule i j t t' s _ _ hc ⟨.int (g i j),H,I.tok _,⟨_,rfl⟩,q⟩
theorem Qgo {f:Value->Value->Sem Value} {g:Int->Int->Int}
  (rule:∀ (i j:Int) (t u:Tok) (s:Shared) (Q:Value->Shared->Prop) (E:Value->Shared->Prop),Q (.int (g i j) s.toks) { s with toks:=s.toks+1 }->wpAny (model X.prog X.w) X.A (f (.int i t) (.int j u)) Q E s) :
  OpR X f (rI0 fun i j=>.int (g i j)):=by
 intro pins s σ H x y v u Q I rx ry h
 obtain ⟨i,j,rfl,rfl,q⟩:=h
 obtain ⟨t,rfl⟩:=rx
 obtain ⟨t',rfl⟩:=ry
 exact rule i j t t' s _ _ ⟨.int (g i j),H,I.tok _,⟨_,rfl⟩,q⟩
theorem Qc2 {f:Value->Value->Sem Value} {g:Int->Int->Bool}
  (rule:∀ (i j:Int) (t u:Tok) (s:Shared) (Q:Value->Shared->Prop) (E:Value->Shared->Prop),Q (.bool (g i j)) s->wpAny (model X.prog X.w) X.A (f (.int i t) (.int j u)) Q E s) :
  OpR X f (rI0 fun i j=>.bl (g i j)):=by
 intro pins s σ H x y v u Q I rx ry h
 obtain ⟨i,j,rfl,rfl,q⟩:=h
 obtain ⟨t,rfl⟩:=rx
 obtain ⟨t',rfl⟩:=ry
 exact rule i j t t' s _ _ ⟨.bl (g i j),H,I,rfl,q⟩
def QgY (i j:Int):Prop:=0 < j/\j < 1073741824
def QgZ (i j:Int):Prop:=0<=j/\j<=1000000/\i.natAbs < 2 ^ 64
def CMul (i j:Int):Prop:=(-(2 ^ 64) < i/\i < 2 ^ 64)∨(-(2 ^ 64) < j/\j < 2 ^ 64)
theorem CMul.ok {i j:Int} (h:CMul i j):IntMulOk i j:=by
 rcases h with ⟨h1,h2⟩ | ⟨h1,h2⟩
 ·exact .of_left (intBits_le_64 h1 h2)
 ·exact .of_right (intBits_le_64 h1 h2)
theorem QeU:OpR X (binaryOp .Add) (rI0 fun i j=>.int (i+j)):=Qgo fun _ _ _ _ _ _ _ q=>add_int q
theorem QeZ:OpR X (binaryOp .Sub) (rI0 fun i j=>.int (i - j)):=Qgo fun _ _ _ _ _ _ _ q=>sub_int q
theorem QeX:OpR X (binaryOp .Mult) (rI CMul fun i j=>.int (i * j)):=opI fun _ _ _ _ _ _ _ hc q=>mul_int q hc.ok
theorem Qc4:OpR X (binaryOp .FloorDiv) (rI QgY fun i j=>.int (i / j)):=opI fun i j _ _ _ _ _ hc q=>by
 have h1:(0:Int) < j:=hc.1
 have h2:j < 1073741824:=hc.2
 exact floordiv_int (by omega) (by rw [Int.fdiv_eq_ediv_of_nonneg i (by omega)];exact q) (.inl (PyProof.noPylong_small (by omega)))
theorem QeW:OpR X (binaryOp .Mod) (rI (fun _ j=>0 < j) fun i j=>.int (i % j)):=opI fun i j _ _ _ _ _ hc q=>by
 have h1:(0:Int) < j:=hc
 exact mod_int' (by omega) (by rw [Int.fmod_eq_emod_of_nonneg i (by omega)];exact q)
theorem QeY:OpR X (binaryOp .Pow) (rI QgZ fun i j=>.int (i ^ j.toNat)):=opI fun _ _ _ _ _ _ _ hc q=>pow_int_small hc.1 hc.2.1 hc.2.2 q
theorem unI {f:Value->Sem Value} {g:Int->Int}
  (rule:∀ (i:Int) (t:Tok) (s:Shared) (Q:Value->Shared->Prop) (E:Value->Shared->Prop),Q (.int (g i) s.toks) { s with toks:=s.toks+1 }->wpAny (model X.prog X.w) X.A (f (.int i t)) Q E s) :
  UnR X f (rU fun i=>.int (g i)):=by
 intro pins s σ H x v Q I rx h
 obtain ⟨i,rfl,q⟩:=h
 obtain ⟨t,rfl⟩:=rx
 exact rule i t s _ _ ⟨.int (g i),H,I.tok _,⟨_,rfl⟩,q⟩
theorem QfJ:UnR X (unaryOp .USub) (rU fun i=>.int (-i)):=unI fun _ _ _ _ _ q=>neg_int q
end
section
variable {X:Cx} {a b c:Expr} {ta tb tc:TE} {pos:Pos}
theorem QaX {pins:List (Addr×Obj)} {σ:St} {H:Hp} {s:Shared} {Q:VK} {k k':Bool} (I:Inv X pins σ H s) (q:Q (.bl k) H) (e:k=k'):EP X pins σ Q (.bool k') s:=by
 subst e
 exact ⟨.bl k,H,I,rfl,q⟩
theorem Qgs:OpR X (compareOp .Lt) (rI0 fun i j=>.bl (decide (i < j))):=Qc2 fun _ _ _ _ _ _ _ q=>lt_int q
theorem Qgr:OpR X (compareOp .LtE) (rI0 fun i j=>.bl (decide (i<=j))):=Qc2 fun _ _ _ _ _ _ _ q=>le_int q
theorem Qgq:OpR X (compareOp .Gt) (rI0 fun i j=>.bl (decide (j < i))):=Qc2 fun _ _ _ _ _ _ _ q=>gt_int q
theorem Qgp:OpR X (compareOp .GtE) (rI0 fun i j=>.bl (decide (j<=i))):=Qc2 fun _ _ _ _ _ _ _ q=>ge_int q
theorem QeV:OpR X (compareOp .Is) (fun x y H Q=>y=.non/\Q (.bl (decide (x=.non))) H):=by
 intro pins s σ H x y v u Q I rx ry h
 obtain ⟨rfl,q⟩:=h
 cases ry
 refine is_none_gen (QaX I q ?_)
 cases x<;>first
  | (cases rx;rfl)
  | (obtain ⟨t,rfl⟩:=rx;rfl)
theorem Qc6:OpR X (compareOp .IsNot) (fun x y H Q=>y=.non/\Q (.bl (!decide (x=.non))) H):=by
 intro pins s σ H x y v u Q I rx ry h
 obtain ⟨rfl,q⟩:=h
 cases ry
 refine isnot_none_gen (QaX I q ?_)
 cases x<;>first
  | (cases rx;rfl)
  | (obtain ⟨t,rfl⟩:=rx;rfl)
theorem QN (b:Expr) {op:CmpOp} (h:op≠.In:=by decide) (h2:op≠.NotIn:=by decide):behindInMarks op b=false:=by
 have e1:(op==CmpOp.In)=false:=by cases op<;>first | rfl | exact absurd rfl h
 have e2:(op==CmpOp.NotIn)=false:=by cases op<;>first | rfl | exact absurd rfl h2
 cases b<;>simp [behindInMarks,e1,e2]
theorem Qda {op:CmpOp} {r:R2} (ho:OpR X (compareOp op) r) (ha:PE X a ta) (hb:PE X b tb) (hm:behindInMarks op b=false):PE X (.Compare a [op] [b] pos) (tOp r ta tb):=by
 intro pins s σ H Q I h
 exact wpAny_Compare1 (Qem ha hb I h fun v u s2 x y H2 I2 rx ry q=>ho pins s2 σ H2 x y v u Q I2 rx ry q) hm
def Qeh (t:TE):TT:=fun σ H Q=>t σ H fun x H'=>∃ k,x=.bl k/\Q k H'
theorem Qds {op:CmpOp} {r:R2} (ho:OpR X (compareOp op) r) (ha:PE X a ta) (hb:PE X b tb) (hm:behindInMarks op b=false):PT X (.Compare a [op] [b] pos) (Qeh (tOp r ta tb)):=by
 intro pins s σ H Q I h
 refine wpAny_isTrue_Compare1 (thn (ha pins s σ H _ I h) fun v s1 ⟨x,H1,I1,r1,q1⟩=>thn (hb pins s1 σ H1 _ I1 q1) fun u s2 ⟨y,H2,I2,r2,q2⟩ =>
  thn (ho pins s2 σ H2 x y v u _ I2 r1 r2 q2) fun c s3 ⟨z,H3,I3,r3,k,e,q3⟩=>?_) hm
 subst e
 cases r3
 exact wpAny_truthy_bool ⟨H3,I3,q3⟩
def Qci (r r':R2) (ta tb tc:TE):TE:=fun σ H Q=>ta σ H fun x H1=>tb σ H1 fun y H2=>r x y H2 fun z H3=>∃ k,z=.bl k /\
 (if k=true then tc σ H3 fun w' H4=>r' y w' H4 Q else Q (.bl false) H3)
theorem QbU {op op':CmpOp} {r r':R2} (ho:OpR X (compareOp op) r) (ho':OpR X (compareOp op') r') (ha:PE X a ta) (hb:PE X b tb) (hc:PE X c tc)
    (hm:lastMarks [op,op'] [b,c]=false:=by with_unfolding_all rfl):PT X (.Compare a [op,op'] [b,c] pos) (Qeh (Qci r r' ta tb tc)):=by
  intro pins s σ H Q I h
  refine isTrue_chain (thn (ha pins s σ H _ I h) fun v s1 ⟨x,H1,I1,r1,q1⟩=>test_link (thn (hb pins s1 σ H1 _ I1 q1) fun u s2 ⟨y,H2,I2,r2,q2⟩ =>
    thn (ho pins s2 σ H2 x y v u _ I2 r1 r2 q2) fun d s3 ⟨z,H3,I3,r3,k,e,q3⟩=>?_)) hm
  subst e
  cases r3
  refine wpAny_truthy_bool ?_
  cases k with
  | false =>
    obtain ⟨k',e',q'⟩:=q3
    cases e'
    exact ite_ff ⟨H3,I3,q'⟩
  | true =>
    refine ite_tt (test_last (thn (hc pins s3 σ H3 _ I3 q3) fun w' s4 ⟨z',H4,I4,r4,q4⟩=>thn (ho' pins s4 σ H4 y z' u w' _ I4 r2 r4 q4) fun d' s5 ⟨z2,H5,I5,r5,k2,e2,q5⟩=>?_))
    subst e2
    cases r5
    exact wpAny_truthy_bool ⟨H5,I5,q5⟩
theorem Vn:(sizeLine:Nat) < 2 ^ 63:=by rw [sizeLine_eq];decide
theorem G9 {x:V} {us:List Value} (r:Vals [x] us):∃ u,us=[u]/\RelV x u:=by
 cases r with
 | cons r1 r2=>cases r2;exact ⟨_,rfl,r1⟩
theorem va {x y:V} {us:List Value} (r:Vals [x,y] us):∃ u w',us=[u,w']/\RelV x u/\RelV y w':=by
  cases r with
  | cons r1 r2 =>
    cases r2 with
    | cons r3 r4=>cases r4;exact ⟨_,_,rfl,r1,r3⟩
theorem ku (hc:X.calm=true):Xs X (.builtin "max") (fun xs H Q=>∃ i j,xs=[.int i,.int j]/\Q (.int (if j > i then j else i)) H):=by
 intro pins s σ H xs us Q I r h
 obtain ⟨i,j,rfl,q⟩:=h
 obtain ⟨u,w',rfl,⟨t,rfl⟩,⟨t',rfl⟩⟩:=va r
 refine max_two_ints (I.ok.hd hc) fun h' tk k=>⟨_,H,I.kept k,?_,q⟩
 by_cases hj:j > i
 ·rw [if_pos hj,if_pos hj];exact ⟨_,rfl⟩
 ·rw [if_neg hj,if_neg hj];exact ⟨_,rfl⟩
theorem kz (hc:X.calm=true):Xs X (.builtin "min") (fun xs H Q=>∃ i j,xs=[.int i,.int j]/\Q (.int (if j < i then j else i)) H):=by
 intro pins s σ H xs us Q I r h
 obtain ⟨i,j,rfl,q⟩:=h
 obtain ⟨u,w',rfl,⟨t,rfl⟩,⟨t',rfl⟩⟩:=va r
 refine min_two_ints (I.ok.hd hc) fun h' tk k=>⟨_,H,I.kept k,?_,q⟩
 by_cases hj:j < i
 ·rw [if_pos hj,if_pos hj];exact ⟨_,rfl⟩
 ·rw [if_neg hj,if_neg hj];exact ⟨_,rfl⟩
end
end L2
namespace L2
open PySem PySem.Spec PyProof.Rows
structure ObjM (h:Heap) (x dx C:Addr) (mA:Str->Option Value):Prop where
 obj:h.get? x=some (PySem.W.instObj C dx)
 ns:h.Ns1 dx mA
 ne:dx≠x
theorem kW {h:Heap} {dx:Addr} {mA:Str->Option Value} (n:h.Ns1 dx mA):∃ od,h.get? dx=some od/\∀ name,PySem.W.lookIn name od=some (mA name):=by
 obtain ⟨o,es,ep,ho,hd,hk,_,hm⟩:=n
 refine ⟨o,ho,fun name=>?_⟩
 have e:=hm name
 unfold nsFind findBy at e
 rw [<- Array.find?_toList] at e
 unfold PySem.W.lookIn
 rw [hd]
 dsimp only
 split
 ·rename_i y q
  rw [q] at e
  exact congrArg some e
 ·rename_i q
  rw [q] at e
  have a:es.toList.any (·.refKey)=false:=by
   rw [List.any_eq_false]
   intro y hy
   obtain ⟨z,t,hkey⟩:=hk y (Array.mem_toList_iff.mp hy)
   simp [DictEntry.refKey,hkey]
  have a':¬ es.toList.any (·.refKey)=true:=by rw [a];exact Bool.false_ne_true
  rw [if_neg a']
  exact congrArg some e
theorem ObjM.look {h:Heap} {x dx C:Addr} {mA:Str->Option Value} (I:ObjM h x dx C mA):∃ od,PySem.W.InstAt h x (PySem.W.instObj C dx) C (some od)/\∀ name,PySem.W.lookIn name od=some (mA name) :=
 let ⟨od,ho,hl⟩:=kW I.ns
 ⟨od,⟨I.obj,rfl,rfl,ho⟩,hl⟩
section
variable {prog:Program} {w:World} {A:Around} {E:Value->Shared->Prop} {s:Shared} {K:PySem.W.Frag} {x dx C f:Addr} {mA:Str->Option Value} {name:Str} {v:Value}
theorem QcQ {expr:Bool} {Q:Value->Shared->Prop} (X:K.In s.heap) (I:ObjM s.heap x dx C mA) (hg:PySem.W.plainGet K C name=true) (hh:PySem.W.hasDictIn K C=true)
  (ha:PySem.W.findIn K (.ref C) name=some none) (hv:mA name=some v) (hv':PySem.W.handedIn v=true) (h:Q v { s with toks:=s.toks+1 }) :
  wpAny (model prog w) A (getAttr (.ref x) name expr) Q E s:=by
 obtain ⟨od,J,hl⟩:=I.look
 exact PySem.W.get_value X J (PySem.W.plainGet_of hg).1 (PySem.W.findObj_own hh ha rfl (by rw [hl,hv])) hv' h
theorem Qa3 {pl:Sem Bool} {Q:Value×List Value->Shared->Prop} (X:K.In s.heap) (I:ObjM s.heap x dx C mA) (hg:PySem.W.plainGet K C name=true)
  (hf:PySem.W.findIn K (.ref C) name=some (some (.ref f))) (ht:PySem.W.isFn K (.ref f)=true) (hv:mA name=none) (h:Q (.ref f,[.ref x]) s) :
  wpAny (model prog w) A (getMethod (.ref x) name pl) Q E s:=by
 obtain ⟨od,J,hl⟩:=I.look
 exact PySem.W.method_fn X J (PySem.W.plainGet_of hg).1 (PySem.W.plainGet_of hg).2 hf (beq_iff_eq.mp ht) (by show (PySem.W.lookIn name od).map (·.isSome)=some false;rw [hl,hv];rfl) h
theorem QdG {ns:List Str} {Q:Unit->Shared->Prop} (X:K.In s.heap) (I:ObjM s.heap x dx C mA)
  (hs:PySem.W.findIn K (.ref C) "__setattr__" = some (some (.builtin "object.__setattr__"))) (hp:PySem.W.plainOver K C=true) (ht:PySem.W.takerIn K C name=some none) (hh:PySem.W.hasDictIn K C=true)
  (hw:PySem.Within mA ns) (hsz:ns.length<=sizeLine)
  (h:∀ h',ObjM h' x dx C (fun y=>if y=name then some v else mA y)->Heap.SameBut dx s.heap h'->Q () { s with heap:=h',toks:=s.toks+2 }) :
  wpAny (model prog w) A (setAttr (.ref x) name v) Q E s:=by
 obtain ⟨od,J,hl⟩:=I.look
 refine PySem.W.set_plain X J hs (PySem.W.osa_open (s:={ s with toks:=s.toks+1 }) (r:=none) X J hp ht fun b=>?_)
 obtain ⟨cd,hc,hd'⟩:=PySem.W.any_some hh
 have hx:s.heap.get? x=some ⟨.ref C,some dx,.plain,#[]⟩:=I.obj
 refine wpAny_bind (wpAny_pure (wpAny_bind (wpAny_bind (wpAny_loadPart hx (wpAny_bind (PySem.W.Looks.here (s:={ s with toks:=s.toks+1 }) (PySem.W.looks_clsIn X hc) ?_))))))
 rw [hd']
 refine wpAny_pure (a:=some dx) (wpAny_bind (wpAny_pure (wpAny_bind ?_)))
 refine wpAny_nsSet1 (s:={ s with toks:=s.toks+1 }) I.ns fun h' hn2 hs2=>?_
 obtain ⟨oD,esD,epD,hoD,hdD,hcD⟩:=hn2.count (PySem.Within.cons name v hw)
 refine wpAny_bind (wpAny_lookBehind hoD (by rw [hdD];exact pastItsLine_dict (Nat.le_trans hcD (by rw [List.length_cons];omega))) ?_)
 exact wpAny_pure (h _ ⟨(hs2.2 _ (Ne.symm I.ne)).trans I.obj,hn2,I.ne⟩ hs2)
theorem Qbp {R:Result->Shared->Prop} {vs:List Value} {kw:List (Str×Value)} (X:K.In s.heap) (hm:PySem.W.makesIn K C=true)
  (hi:PySem.W.findIn K (.ref C) "__init__" = some (some (.ref f))) (hf:PySem.W.typeIn K (.ref f)=some (.type "function"))
  (h:codeAny (model prog w) (A.under (.builtin "type.__call__" ⟨.ref C::vs,kw⟩)) (.call (.ref f) ⟨.ref (s.heap.objs.size+1)::vs,kw⟩) (PySem.W.InitBack (s.heap.objs.size+1) R)
   { s with heap:=(s.heap.push PySem.W.emptyDict).push (PySem.W.instObj C s.heap.objs.size) }) :
  codeAny (model prog w) A (.call (.ref C) ⟨vs,kw⟩) R s:=by
 obtain ⟨hh,g,d,t,os⟩:=s
 exact PySem.W.make_core (PySem.W.makes_of X hm) (PySem.W.looks_findIn X hi) (fun self=>PySem.W.bind_fn X self hf) (.inl rfl) h
end
def YU (f:Str) (v:V):List (Str×V)->List (Str×V)
 | []=>[(f,v)]
 | (g,x)::r=>if g=f then (g,v)::r else (g,x)::YU f v r
theorem yq (f g:Str) (v:V):∀ fs:List (Str×V),(YU f v fs).lookup g=if g=f then some v else fs.lookup g
  | []=>by
    show List.lookup g [(f,v)]=_
    by_cases h:g=f
    . have hb:(g==f)=true:=beq_iff_eq.mpr h
      simp only [List.lookup,hb,if_pos h]
    . have hb:(g==f)=false:=beq_eq_false_iff_ne.mpr h
      simp only [List.lookup,hb,if_neg h]
  | (k,x)::r=>by
    have ih:=yq f g v r
    rw [show YU f v ((k,x)::r)=(if k=f then (k,v)::r else (k,x)::YU f v r) from rfl]
    by_cases hk:k=f
    . rw [if_pos hk]
      by_cases h:g=k
      . have hb:(g==k)=true:=beq_iff_eq.mpr h
        simp only [List.lookup,hb,if_pos (h.trans hk)]
      . have hb:(g==k)=false:=beq_eq_false_iff_ne.mpr h
        simp only [List.lookup,hb,if_neg (fun e:g=f=>h (e.trans hk.symm))]
    . rw [if_neg hk]
      by_cases h:g=k
      . have hb:(g==k)=true:=beq_iff_eq.mpr h
        simp only [List.lookup,hb,if_neg (fun e:g=f=>hk (h.symm.trans e))]
      . have hb:(g==k)=false:=beq_eq_false_iff_ne.mpr h
        simp only [List.lookup,hb]
        exact ih
theorem xX (f:Str) (v:V):∀ fs:List (Str×V),f∈(YU f v fs).map (·.1)/\∀ g,g∈fs.map (·.1)->g∈(YU f v fs).map (·.1)
  | []=>⟨by simp [YU],fun g h=>by simp at h⟩
  | (k,x)::r=>by
    obtain ⟨i1,i2⟩:=xX f v r
    rw [show YU f v ((k,x)::r)=(if k=f then (k,v)::r else (k,x)::YU f v r) from rfl]
    by_cases hk:k=f
    . rw [if_pos hk]
      subst hk
      exact ⟨by simp,fun g h=>by simpa using h⟩
    . rw [if_neg hk]
      refine ⟨?_,fun g h=>?_⟩
      . rw [List.map_cons]
        exact List.mem_cons_of_mem _ i1
      . rw [List.map_cons] at h ⊢
        rcases List.mem_cons.mp h with e | e
        . exact List.mem_cons.mpr (.inl e)
        . exact List.mem_cons_of_mem _ (i2 g e)
theorem yo (f:Str) (v:V):∀ fs:List (Str×V),(YU f v fs).length<=fs.length+1
  | []=>by simp [YU]
  | (k,x)::r=>by
    have ih:=yo f v r
    rw [show YU f v ((k,x)::r)=(if k=f then (k,v)::r else (k,x)::YU f v r) from rfl]
    by_cases hk:k=f
    . rw [if_pos hk,List.length_cons,List.length_cons];omega
    . rw [if_neg hk,List.length_cons,List.length_cons];omega
theorem RelO.some_of {v:V} {o:Option Value} (r:RelO (some v) o):∃ u,o=some u/\RelV v u:=by
 cases o with
 | none=>exact (show False from r).elim
 | some u=>exact ⟨u,rfl,r⟩
theorem RelO.none_of {o:Option Value} (r:RelO none o):o=none:=by
 cases o with
 | none=>rfl
 | some u=>exact (show False from r).elim
theorem kL {v:V} {u:Value} (r:RelV v u):PySem.W.handedIn u=true:=by
 cases v with
 | non=>cases (show u=Value.none from r);rfl
 | bl b=>cases (show u=Value.bool b from r);rfl
 | int i=>obtain ⟨t,e⟩:=(show ∃ t,u=Value.int i t from r);cases e;rfl
 | str x=>obtain ⟨t,e⟩:=(show ∃ t,u=Value.str x t from r);cases e;rfl
 | byt b=>obtain ⟨t,e⟩:=(show ∃ t,u=Value.bytes b t from r);cases e;rfl
 | flt b=>obtain ⟨t,e⟩:=(show ∃ t,u=Value.float b t from r);cases e;rfl
 | ref a=>cases (show u=Value.ref a from r);rfl
 | ty n=>cases (show u=Value.type n from r);rfl
section
variable {P:Program} {w:World} {H H':Hp} {h h':Heap} {a C dx:Addr} {fs fs':List (Str×V)}
theorem Ky (hok:HOk P w H h) (e:H a=some (.ins C dx fs)):∃ mA,ObjM h a dx C mA/\(∀ f,RelO (fs.lookup f) (mA f))/\PySem.Within mA (fs.map (·.1))/\fs.length<=1000/\H dx=some (.own a):=by
 obtain ⟨d,z,ne,ob,mA,n,r,q⟩:=(show ObjOk P w H h a (.ins C dx fs) from hok a _ e)
 exact ⟨mA,⟨ob,n,ne⟩,r,q,z,d⟩
end
structure Cls (K:PySem.W.Frag) (C:Addr):Prop where
 pg:PySem.W.plainGet K C Str.empty=true
 hd:PySem.W.hasDictIn K C=true
 po:PySem.W.plainOver K C=true
 sa:PySem.W.findIn K (.ref C) "__setattr__" = some (some (.builtin "object.__setattr__"))
theorem Cls.get {K:PySem.W.Frag} {C:Addr} (c:Cls K C) (f:Str):PySem.W.plainGet K C f=true:=c.pg
def NoAttr (K:PySem.W.Frag) (C:Addr) (f:Str):Prop:=PySem.W.findIn K (.ref C) f=some none
theorem NoAttr.taker {K:PySem.W.Frag} {C:Addr} {f:Str} (n:NoAttr K C f):PySem.W.takerIn K C f=some none:=by
 unfold PySem.W.takerIn
 rw [show PySem.W.findIn K (.ref C) f=some none from n]
 rfl
structure vh (K:PySem.W.Frag) (C:Addr) (m:Str) (f:Addr):Prop where
 at_:PySem.W.findIn K (.ref C) m=some (some (.ref f))
 fn:PySem.W.isFn K (.ref f)=true
 kp:PySem.W.keepIn K (.ref f)=true
section
variable {X:Cx} {pins:List (Addr×Obj)} {σ:St} {H:Hp} {s:Shared} {a C dx:Addr} {fs:List (Str×V)} {f:Str} {v:V} {A:Around} {E:Value->Shared->Prop}
theorem Vi {b:Bool} {Q:Value->Shared->Prop} (I:Inv X pins σ H s) (e:H a=some (.ins C dx fs)) (c:Cls X.K C) (n:NoAttr X.K C f) (l:fs.lookup f=some v)
  (h:∀ u s',Inv X pins σ H s'->RelV v u->Q u s'):wpAny (model X.prog X.w) A (getAttr (.ref a) f b) Q E s:=by
 obtain ⟨mA,O,r,_,_,_⟩:=Ky I.hok e
 obtain ⟨u,hu,ru⟩:=RelO.some_of (v:=v) (o:=mA f) (by rw [<- l];exact r f)
 exact QcQ I.kIn O (c.get f) c.hd n hu (kL ru) (h u _ (I.tok _) ru)
theorem ju {m:Str} {g:Addr} {pl:Sem Bool} {Q:Value×List Value->Shared->Prop} (I:Inv X pins σ H s) (e:H a=some (.ins C dx fs)) (c:Cls X.K C) (k:vh X.K C m g) (l:fs.lookup m=none)
  (h:Q (.ref g,[.ref a]) s):wpAny (model X.prog X.w) A (getMethod (.ref a) m pl) Q E s:=by
 obtain ⟨mA,O,r,_,_,_⟩:=Ky I.hok e
 have hn:mA m=none:=RelO.none_of (by rw [<- l];exact r m)
 exact Qa3 I.kIn O (c.get m) k.at_ k.fn hn h
theorem VP {y:V} {u:Value} {Q:Unit->Shared->Prop} (I:Inv X pins σ H s) (e:H a=some (.ins C dx fs)) (c:Cls X.K C) (n:NoAttr X.K C f) (hl:fs.length < 1000) (ry:RelV y u)
  (h:∀ s',Inv X pins σ (upd H a (.ins C dx (YU f y fs))) s'->Q () s'):wpAny (model X.prog X.w) A (setAttr (.ref a) f u) Q E s:=by
 obtain ⟨mA,O,r,wi,_,ho⟩:=Ky I.hok e
 have hz:(fs.map (·.1)).length<=sizeLine:=by rw [List.length_map,sizeLine_eq];omega
 refine QdG I.kIn O c.sa c.po n.taker c.hd wi hz fun h' O' sb=>h _ ?_
 have hd:∃ o,h'.get? dx=some o:=let ⟨o,_,_,e',_⟩:=O'.ns;⟨o,e'⟩
 refine I.write (x:=a) (e:=dx) (by rw [e];exact True.intro) (.inr ho) (fun b q hb z=>(sb.2 b hb).trans z) hd ?_
 refine ⟨by rw [Q0 O.ne];exact ho,?_,O.ne,O'.obj,_,O'.ns,fun g=>?_,fun g hg=>?_⟩
 ·have:=yo f y fs;omega
 ·show RelO ((YU f y fs).lookup g) (if g=f then some u else mA g)
  rw [yq]
  by_cases q:g=f
  ·rw [if_pos q,if_pos q];exact ry
  ·rw [if_neg q,if_neg q];exact r g
 ·by_cases q:g=f
  ·rw [q];exact (xX f y fs).1
  ·refine (xX f y fs).2 g (wi g fun z=>hg ?_)
   show (if g=f then some u else mA g)=none
   rw [if_neg q];exact z
theorem Inv.made (I:Inv X pins σ H s):Inv X pins σ (upd (upd H s.heap.objs.size (.own (s.heap.objs.size+1))) (s.heap.objs.size+1) (.ins C s.heap.objs.size []))
  { s with heap:=(s.heap.push PySem.W.emptyDict).push (PySem.W.instObj C s.heap.objs.size) }:=by
 have e1:(s.heap.push PySem.W.emptyDict).get? s.heap.objs.size=some PySem.W.emptyDict:=Heap.get?_push_size s.heap rfl
 have e2:((s.heap.push PySem.W.emptyDict).push (PySem.W.instObj C s.heap.objs.size)).get? (s.heap.objs.size+1)=some (PySem.W.instObj C s.heap.objs.size):=by
  have:=Heap.get?_push_size (s.heap.push PySem.W.emptyDict) (o:=PySem.W.instObj C s.heap.objs.size) rfl
  rwa [Heap.size_push] at this
 have e3:(s.heap.push PySem.W.emptyDict).Ns s.heap.objs.size (fun _=>none):=⟨PySem.W.emptyDict,#[],_,e1,rfl,(fun e he=>absurd he (by simp)),fun _=>rfl⟩
 have I1:=I.laid (a:=s.heap.objs.size) (o:=.own (s.heap.objs.size+1)) (h':=s.heap.push PySem.W.emptyDict) (t':=s.toks) (fun b u q=>Heap.get?_push_of_some _ q) (Nat.le_refl _) ⟨_,e1⟩
 refine I1.laid (a:=s.heap.objs.size+1) (o:=.ins C s.heap.objs.size []) (t':=s.toks) (fun b u q=>Heap.get?_push_of_some _ q) (Nat.le_of_eq (Heap.size_push _ _)) ?_
 have ne:s.heap.objs.size≠s.heap.objs.size+1:=Nat.ne_of_lt (Nat.lt_succ_self _)
 refine ⟨by rw [Q0 ne,Zj],Nat.zero_le _,ne,e2,fun _=>none,(Heap.Ns1.of_empty e3).at fun o q=>Heap.get?_push_of_some _ q,fun _=>True.intro,fun y hy=>absurd rfl hy⟩
theorem Qcy {prog:Program} {w:World} {env:Env} {e:Expr} {f:Str} {pos:Pos} {s:Shared} {Q:Value->Shared->Prop} (hb:attributeBase e f env (eval e env)=eval e env)
  (h:wpAny (model prog w) A (eval e env) (fun o s₁=>wpAny (model prog w) A (getAttr o f true) Q E s₁) E s):wpAny (model prog w) A (eval (.Attribute e f pos) env) Q E s :=
 Attribute_any_ h (by rw [arm_eval_Attribute,hb])
end
def Qhl (K:PySem.W.Frag) (ta:TE) (f:Str):TE:=fun σ H Q=>ta σ H fun x H1=>∃ a C dx fs v,x=.ref a/\H1 a=some (.ins C dx fs)/\Cls K C/\NoAttr K C f/\fs.lookup f=some v/\Q v H1
def Qhj (K:PySem.W.Frag) (ta tv:TE) (f:Str):TS:=fun D σ H=>tv σ H fun y H1=>ta σ H1 fun x H2=>∃ a C dx fs,x=.ref a/\H2 a=some (.ins C dx fs)/\Cls K C/\NoAttr K C f/\fs.length < 1000 /\
 D.nx σ (upd H2 a (.ins C dx (YU f y fs)))
def QfV (X:Cx) (op:Operator) (rd:V->V->Hp->VK->Prop):Prop :=
 ∀ (pins:List (Addr×Obj)) (s:Shared) (σ:St) (H:Hp) (x y:V) (u v:Value) (Q:VK),Inv X pins σ H s->RelV x u->RelV y v->rd x y H Q->wpAny (model X.prog X.w) X.A (inplaceOp op u v) (EP X pins σ Q) X.xe s
def QdE (K:PySem.W.Frag) (ta tv:TE) (rd:V->V->Hp->VK->Prop) (f:Str):TS:=fun D σ H=>ta σ H fun x H1=>∃ a C dx fs v,x=.ref a/\H1 a=some (.ins C dx fs)/\Cls K C/\NoAttr K C f/\fs.lookup f=some v /\
 tv σ H1 fun y H2=>rd v y H2 fun z H3=>∃ dx' fs',H3 a=some (.ins C dx' fs')/\fs'.length < 1000/\D.nx σ (upd H3 a (.ins C dx' (YU f z fs')))
section
variable {X:Cx} {o e value:Expr} {f:Str} {pos pos' tpos:Pos} {ta tv:TE}
theorem Qe4 (he:PE X e ta) (hb:attributeBase e f X.env (eval e X.env)=eval e X.env):PE X (.Attribute e f pos) (Qhl X.K ta f):=by
 intro pins s σ H Q I h
 refine Qcy hb (thn (he pins s σ H _ I h) fun u s1 ⟨x,H1,I1,rx,a,C,dx,fs,v,ex,ea,c,n,l,q⟩=>?_)
 subst ex
 obtain rfl:u=Value.ref a:=rx
 exact Vi I1 ea c n l fun u' s2 I2 ru=>⟨v,H1,I2,ru,q⟩
theorem Qfn (ha:PE X o ta) (hv:PE X value tv) (hs:swapsWith value (some (.Attribute o f pos')) pos.line X.env=pure false):PS X (.Assign [.Attribute o f pos'] value pos) (Qhj X.K ta tv f):=by
 intro pins s σ H D I h
 refine plainObj_wpAny_Assign_Attribute (thn (hv pins s σ H _ I h) fun u s1 ⟨y,H1,I1,ry,q⟩=>thn (ha pins s1 σ H1 _ I1 q) fun ov s2 ⟨x,H2,I2,rx,a,C,dx,fs,ex,ea,c,n,l,q2⟩=>?_) hs
 subst ex
 obtain rfl:ov=Value.ref a:=rx
 exact VP I2 ea c n l ry fun s3 I3=>⟨σ,_,I3,q2⟩
theorem Qak {op:Operator} {rd:V->V->Hp->VK->Prop} (ha:PE X o ta) (hv:PE X value tv) (hop:QfV X op rd):PS X (.AugAssign (.Attribute o f tpos) op value pos) (QdE X.K ta tv rd f):=by
 intro pins s σ H D I h
 refine wpAny_AugAssign_AttributeAny (thn (ha pins s σ H _ I h) fun ov s1 ⟨x,H1,I1,rx,a,C,dx,fs,v,ex,ea,c,n,l,q⟩=>?_)
 subst ex
 obtain rfl:ov=Value.ref a:=rx
 refine Vi I1 ea c n l fun u s2 I2 ru=>thn (hv pins s2 σ H1 _ I2 q) fun w3 s3 ⟨y,H2,I3,ry,q3⟩=>thn (hop pins s3 σ H2 v y u w3 _ I3 ru ry q3) fun w4 s4 ⟨z,H3,I4,rz,dx',fs',ea',l',q4⟩=>?_
 exact VP I4 ea' c n l' rz fun s5 I5=>⟨σ,_,I5,q4⟩
def Qhd:V->V->Hp->VK->Prop:=fun x y H Q=>∃ i j,x=.int i/\y=.int j/\Q (.int (i+j)) H
theorem Qez:QfV X .Add Qhd:=by
 rintro pins s σ H x y u v Q I rx ry ⟨i,j,rfl,rfl,q⟩
 obtain ⟨t,rfl⟩:=(show ∃ t,u=Value.int i t from rx)
 obtain ⟨t',rfl⟩:=(show ∃ t',v=Value.int j t' from ry)
 exact PyProof.Rows.iadd_int ⟨.int (i+j),H,I.tok _,⟨_,rfl⟩,q⟩
theorem Qd8 {pl:Sem Bool} {m:Str} {apos:Pos} {args:List Expr} {pins:List (Addr×Obj)} {s:Shared} {σ:St} {H:Hp} {Q:Value->Shared->Prop} {te:TE} (he:PE X e te) (I:Inv X pins σ H s)
  (h:te σ H fun x H1=>∃ a C dx fs g,x=.ref a/\H1 a=some (.ins C dx fs)/\Cls X.K C/\vh X.K C m g/\fs.lookup m=none /\
   ∀ s1,Inv X pins σ H1 s1->wpAny (model X.prog X.w) X.A (callWith pos (.ref g) [.ref a] (backTo pos (starEach args X.env)) (backToKw pos (keywordEach [] X.env))) Q X.xe s1)
  (ht:eval (.Call (.Attribute e m apos) args [] pos) X.env=(do
   let ov <- eval e X.env
   standAt apos.atName
   let (f,first) <- holding [ov] (getMethod ov m pl)
   callWith pos f first (backTo pos (starEach args X.env)) (backToKw pos (keywordEach [] X.env)))) :
  wpAny (model X.prog X.w) X.A (eval (.Call (.Attribute e m apos) args [] pos) X.env) Q X.xe s:=by
 refine PySem.W.methodCall_KW (pl:=pl) (thn (he pins s σ H _ I h) fun u s1 ⟨x,H1,I1,rx,a,C,dx,fs,g,ex,ea,c,k,l,q⟩=>?_) ht
 subst ex
 obtain rfl:u=Value.ref a:=rx
 exact ju I1 ea c k l (q s1 I1)
end
section
variable {X:Cx} {pins:List (Addr×Obj)} {σ:St} {H:Hp} {s:Shared} {A:Around} {E:Value->Shared->Prop} {Q:Value->Shared->Prop} {c:Value} {b:Bool}
end
end L2
namespace L2
open PySem PySem.Spec PyProof.Rows
structure Room (k:Nat) (A:Around):Prop where
 hd:A.handled=none
 dp:A.depth+3 * k+5 < recursionLimit
 un:A.units+16 * k+200 < cLine
theorem Room.mono {j k:Nat} {A:Around} (r:Room k A) (h:j<=k):Room j A:=⟨r.hd,by have:=r.dp;omega,by have:=r.un;omega⟩
theorem Room.deeper {k:Nat} {A:Around} (r:Room (k+1) A) (env:Env):Room k (A.deeper env) :=
 ⟨r.hd,by have:=r.dp;show A.depth+1+3 * k+5 < _;omega,by have:=r.un;show A.units+3+16 * k+200 < _;omega⟩
theorem vM {A:Around} {C:Addr} {us:List Value} {kw:List (Str×Value)}:(A.under (.builtin "type.__call__" ⟨.ref C::us,kw⟩)).depth=A.depth+1:=by
 first | rfl | simp [Around.under,Code.weight,Code.isCreation,Code.isGuard,Code.isCaller,Code.frames,Code.isFrame,guardIds]
theorem vN {A:Around} {C:Addr} {us:List Value} {kw:List (Str×Value)}:(A.under (.builtin "type.__call__" ⟨.ref C::us,kw⟩)).units=A.units+1:=by
 first | rfl | simp [Around.under,Code.cUnits,Code.frames,Code.isFrame]
theorem Room.make {k:Nat} {A:Around} (r:Room (k+1) A) (C:Addr) (us:List Value) (kw:List (Str×Value)):Room k (A.under (.builtin "type.__call__" ⟨.ref C::us,kw⟩)) :=
 ⟨r.hd,by have:=r.dp;rw [vM];omega,by have:=r.un;rw [vN];omega⟩
theorem Room.depth {k:Nat} {A:Around} (r:Room k A):A.depth < recursionLimit:=by have:=r.dp;omega
theorem Room.units {k:Nat} {A:Around} (r:Room k A):A.units+64 < cLine:=by have:=r.un;omega
def QgO:TA:=fun _ H Q=>Q [] H
def QgL (ta:TE) (tr:TA):TA:=fun σ H Q=>ta σ H fun x H1=>tr σ H1 fun xs H2=>Q (x::xs) H2
section
variable {X:Cx} {e:Expr} {es:List Expr} {te:TE} {t:TA} {pos:Pos}
theorem pa_nil:PA X [] QgO:=fun _ _ _ _ H Q I h=>Calls.spliced_nil ⟨[],H,I,.nil,h⟩
theorem X9 (ha:PE X e te) (hr:PA X es t) (hs:starEach (e::es) X.env=(false,eval e X.env)::starEach es X.env:=by rfl):PA X (e::es) (QgL te t):=by
 intro pos pins s σ H Q I h
 rw [hs]
 show wpAny _ _ (spliced ((false,eval e X.env)::backTo pos (starEach es X.env))) _ _ s
 refine Calls.spliced_cons (thn (ha pins s σ H _ I h) fun u s1 ⟨x,H1,I1,r1,q1⟩=>?_)
 exact thn (hr pos pins s1 σ H1 _ I1 q1) fun us s2 ⟨xs,H2,I2,r2,q2⟩=>⟨x::xs,H2,I2,.cons r1 r2,q2⟩
def Qhr (t:TA):TE:=fun σ H Q=>t σ H fun xs H1=>xs.length<=sizeLine/\∀ p,H1 p=none->Q (.ref p) (upd H1 p (.tup xs))
def Qho (t:TA):TE:=fun σ H Q=>t σ H fun xs H1=>xs.length<=sizeLine/\∀ p,H1 p=none->Q (.ref p) (upd H1 p (.lst xs))
theorem Qfa {x1} (h:PA X es t):PE X (.Tuple es x1 pos) (Qhr t):=by
 intro pins s σ H Q I hq
 refine wpAny_Tuple_spliced (thn (h pos pins s σ H _ I hq) fun us s1 ⟨xs,H1,I1,r,z,q⟩=>⟨by rw [<- r.length];exact z,?_⟩)
 have hf:H1 s1.heap.objs.size=none:=I1.hok.fresh (Nat.le_refl _)
 refine ⟨.ref s1.heap.objs.size,upd H1 s1.heap.objs.size (.tup xs),I1.laid (t':=s1.toks) (fun b u e=>Heap.get?_push_of_some _ e) (Nat.le_refl _) ?_,rfl,q _ hf⟩
 exact ⟨z,us,r,⟨_,Heap.get?_push_size _ rfl,rfl,_,rfl⟩⟩
theorem QbH (h:PA X es t):PE X (.List es pos) (Qho t):=by
 intro pins s σ H Q I hq
 refine wpAny_List_spliced (thn (h pos pins s σ H _ I hq) fun us s1 ⟨xs,H1,I1,r,z,q⟩=>⟨by rw [<- r.length];exact z,?_⟩)
 have hf:H1 s1.heap.objs.size=none:=I1.hok.fresh (Nat.le_refl _)
 refine ⟨.ref s1.heap.objs.size,upd H1 s1.heap.objs.size (.lst xs),I1.laid (t':=s1.toks) (fun b u e=>Heap.get?_push_of_some _ e) (Nat.le_refl _) ?_,rfl,q _ hf⟩
 exact ⟨z,us,0,r,Heap.get?_push_size _ rfl⟩
end
abbrev Sp:=List V->Hp->VK->XK->Prop
abbrev CXT:=List Env->Hp->Shared->XK->Value->Shared->Prop
structure Env0 (P:Program) (w:World) (K:PySem.W.Frag) (mg:Str->Option Value) (base:Heap) (A:Around) (outer:List Env) (s:Shared) (H:Hp):Prop where
 frames:A.frames=some outer
 mod:Mod K mg base
 bs:∀ b o,base.get? b=some o->s.heap.get? b=some o/\H b=none
 bsz:base.objs.size<=s.heap.objs.size
 funs:s.heap.FunFrames base outer
 frf:∀ b∈frs outer,H b=none
 hok:HOk P w H s.heap
 bare:AllBare s.gens
def CE (outer:List Env) (P:Program) (w:World) (H:Hp) (s:Shared) (Q:VK) (u:Value) (s':Shared):Prop :=
 ∃ v H',s'.os=s.os/\AllBare s'.gens/\Un (frs outer) [] H H' s.heap s'.heap/\HOk P w H' s'.heap/\RelV v u/\Q v H'
def CR (CX:CXT) (outer:List Env) (P:Program) (w:World) (H:Hp) (s:Shared) (Q:VK) (E:XK) (r:Result) (s':Shared):Prop :=
 match r with
 | .ok (.ret u)=>CE outer P w H s Q u s'
 | .ok _=>False
 | .error e=>CX outer H s E e s'
structure qX (P:Program) (w:World) (K:PySem.W.Frag) (mg:Str->Option Value) (base:Heap) (CX:CXT) (k:Nat) (f:Addr) (fd:FuncData) (ps:List Str) (sp:Sp):Prop where
 len:∀ vs H Q E,sp vs H Q E->vs.length=ps.length
 run:∀ (A:Around) (outer:List Env) (s:Shared) (H:Hp) (args:Args) (us:List Value) (vs:List V) (Q:VK) (E:XK),Room k A->Env0 P w K mg base A outer s H->BindsTo s fd args (ps.zip us)->Vals vs us->sp vs H Q E ->
  codeAny (model P w) A (.call (.ref f) args) (CR CX outer P w H s Q E) s
theorem Env0.make {P:Program} {w:World} {K:PySem.W.Frag} {mg:Str->Option Value} {base:Heap} {A:Around} {outer:List Env} {s:Shared} {H:Hp} (e:Env0 P w K mg base A outer s H) (C:Addr) (us:List Value) (kw:List (Str×Value)) :
  Env0 P w K mg base (A.under (.builtin "type.__call__" ⟨.ref C::us,kw⟩)) outer s H:=⟨by first | exact e.frames | (simpa [Around.under,Code.envs,Code.isFrame,pushEnvs] using e.frames),e.mod,e.bs,e.bsz,e.funs,e.frf,e.hok,e.bare⟩
section
variable {X:Cx} {pins:List (Addr×Obj)} {σ:St} {H:Hp} {s s':Shared}
theorem Inv.env0 (I:Inv X pins σ H s):Env0 X.prog X.w X.K X.mg X.base X.A X.stack s H :=
 ⟨I.ok.frames,I.ok.mod,I.bs,Nat.le_trans I.ok.bsz I.sz,I.stack,I.stkFree,I.hok,I.bare⟩
theorem Inv.after {Q:VK} {u:Value} (I:Inv X pins σ H s) (h:CE X.stack X.prog X.w H s Q u s'):EP X pins σ Q u s':=by
 obtain ⟨v,H',os,bare,un,hok,r,q⟩:=h
 obtain ⟨hh,g,d,t,os'⟩:=s'
 obtain rfl:os'=s.os:=os
 exact ⟨v,H',I.call (h':=hh) (g':=g) (d':=d) (t':=t) (ch:=[]) un hok bare (fun b z=>absurd z (by simp)),r,q⟩
end
def QgK (sp:Sp) (dvs:List V) (E:XK) (t:TA):TE:=fun σ H Q=>t σ H fun vs H1=>sp (vs++dvs) H1 Q E
def Qcj (C:Addr) (m:Str) (sp:Sp) (dvs:List V) (E:XK) (ta:TE) (t:TA):TE:=fun σ H Q=>ta σ H fun x H1=>∃ a dx fs,x=.ref a/\H1 a=some (.ins C dx fs)/\fs.lookup m=none /\
 t σ H1 fun vs H2=>sp (x::(vs++dvs)) H2 Q E
def Binds (K:PySem.W.Frag) (fd:FuncData) (ps:List Str) (ds:List Value):Prop :=
 ∀ (s:Shared) (us:List Value),K.In s.heap->(us++ds).length=ps.length->BindsTo s fd ⟨us,[]⟩ (ps.zip (us++ds))
theorem Binds.all {K:PySem.W.Frag} {fd:FuncData} {ps:List Str} (h:∀ us:List Value,us.length=ps.length->bindArgs fd ⟨us,[]⟩=pure (ps.zip us)):Binds K fd ps []:=fun s us _ hl=>by
 rw [List.append_nil] at hl ⊢
 exact .of_eq (h us hl)
def YN (CX:CXT) (X:Cx) (E:XK):Prop:=∀ (pins:List (Addr×Obj)) (σ:St) (H:Hp) (s:Shared) (e:Value) (s':Shared),Inv X pins σ H s->CX X.stack H s E e s'->X.xe e s'
section
variable {X:Cx} {CX:CXT} {k:Nat} {f C:Addr} {fd:FuncData} {ps:List Str} {sp:Sp} {dvs:List V} {ds:List Value} {E:XK} {x m:Str} {p pos apos:Pos} {e o:Expr} {es:List Expr} {ta:TE} {t:TA}
theorem vV {pins:List (Addr×Obj)} {σ:St} {H:Hp} {s:Shared} {Q:VK} {us:List Value} {vs:List V} (F:qX X.prog X.w X.K X.mg X.base CX k f fd ps sp) (hr:Room k X.A) (hb:Binds X.K fd ps ds) (hd:Vals dvs ds) (hx:YN CX X E)
    (I:Inv X pins σ H s) (r:Vals vs us) (h:sp (vs++dvs) H Q E):wpAny (model X.prog X.w) X.A (call (.ref f) us) (EP X pins σ Q) X.xe s:=by
  have r2:Vals (vs++dvs) (us++ds):=r.append hd
  have hl:(us++ds).length=ps.length:=by rw [<- r2.length];exact F.len _ _ _ _ h
  refine wpAny_call (codeAny_mono (F.run X.A X.stack s H ⟨us,[]⟩ (us++ds) (vs++dvs) Q E hr I.env0 (hb s us I.kIn hl) r2 h) fun r s' hq=>?_)
  cases r with
  | error e=>exact hx pins σ H s e s' I hq
  | ok fl =>
    cases fl with
    | ret u=>exact I.after hq
    | next=>exact False.elim hq
    | brk=>exact False.elim hq
    | cont=>exact False.elim hq
theorem Qc9 (F:qX X.prog X.w X.K X.mg X.base CX k f fd ps sp) (hr:Room k X.A) (hg:Gl X x) (hm:X.mg x=some (.ref f)) (hk:PySem.W.keepIn X.K (.ref f)=true) (hb:Binds X.K fd ps ds) (hd:Vals dvs ds) (hx:YN CX X E)
  (ha:PA X (e::es) t) (hdb:(x==("__debug__" : Str))=false:=by decide) (he:starEach (e::es) X.env=(false,eval e X.env)::starEach es X.env:=by rfl) (hpl:(backTo pos (starEach es X.env)).any (·.1)=false:=by rfl) :
  PE X (.Call (.Name x p) (e::es) [] pos) (QgK sp dvs E t):=by
 intro pins s σ H Q I h
 refine wpAny_Call_Name_kw (KF I hg hm ?_ hdb)
 refine PySem.W.callWith_K (h₀:=X.base) I.ok.mod.kin hk (thn (ha pos pins s σ H _ I h) fun us s1 ⟨vs,H1,I1,r,q⟩=>⟨I1.kIn,?_⟩) he hpl
 exact vV F hr hb hd hx I1 r q
theorem Qdc {pl:Sem Bool} (he:PE X o ta) (c:Cls X.K C) (hm:vh X.K C m f) (F:qX X.prog X.w X.K X.mg X.base CX k f fd ps sp) (hr:Room k X.A) (hb:Binds X.K fd ps ds) (hd:Vals dvs ds) (hx:YN CX X E) (ha:PA X (e::es) t)
  (hst:starEach (e::es) X.env=(false,eval e X.env)::starEach es X.env:=by rfl) (hpl:(backTo pos (starEach es X.env)).any (·.1)=false:=by rfl)
  (ht:eval (.Call (.Attribute o m apos) (e::es) [] pos) X.env=(do
   let ov <- eval o X.env
   standAt apos.atName
   let (f,first) <- holding [ov] (getMethod ov m pl)
   callWith pos f first (backTo pos (starEach (e::es) X.env)) (backToKw pos (keywordEach [] X.env))):=by rfl) :
  PE X (.Call (.Attribute o m apos) (e::es) [] pos) (Qcj C m sp dvs E ta t):=by
 intro pins s σ H Q I h
 refine PySem.W.methodCall_KW (pl:=pl) (thn (he pins s σ H _ I h) fun u s1 ⟨x,H1,I1,rx,a,dx,fs,ex,ea,l,q⟩=>?_) ht
 subst ex
 obtain rfl:u=Value.ref a:=rx
 refine ju I1 ea c hm l ?_
 refine PySem.W.callWith_K (first:=[.ref a]) (h₀:=X.base) I.ok.mod.kin hm.kp (thn (ha pos pins s1 σ H1 _ I1 q) fun us s2 ⟨vs,H2,I2,r,q2⟩=>⟨I2.kIn,?_⟩) hst hpl
 exact vV (us:=.ref a::us) (vs:=.ref a::vs) F hr hb hd hx I2 (.cons rfl r) q2
theorem QbI {pl:Sem Bool} (he:PE X o ta) (c:Cls X.K C) (hm:vh X.K C m f) (F:qX X.prog X.w X.K X.mg X.base CX k f fd ps sp) (hr:Room k X.A) (hb:Binds X.K fd ps ds) (hd:Vals dvs ds) (hx:YN CX X E)
  (ht:eval (.Call (.Attribute o m apos) [] [] pos) X.env=(do
   let ov <- eval o X.env
   standAt apos.atName
   let (f,first) <- holding [ov] (getMethod ov m pl)
   callWith pos f first (backTo pos (starEach [] X.env)) (backToKw pos (keywordEach [] X.env))):=by rfl) :
  PE X (.Call (.Attribute o m apos) [] [] pos) (Qcj C m sp dvs E ta QgO):=by
 intro pins s σ H Q I h
 refine PySem.W.methodCall_KW (pl:=pl) (thn (he pins s σ H _ I h) fun u s1 ⟨x,H1,I1,rx,a,dx,fs,ex,ea,l,q⟩=>?_) ht
 subst ex
 obtain rfl:u=Value.ref a:=rx
 refine ju I1 ea c hm l ?_
 exact PySem.W.callWith_K0 (first:=[.ref a]) I1.kIn hm.kp (vV (us:=[.ref a]) (vs:=[.ref a]) F hr hb hd hx I1 (.cons rfl .nil) q)
structure Mk (K:PySem.W.Frag) (C f:Addr):Prop where
 makes:PySem.W.makesIn K C=true
 init:PySem.W.findIn K (.ref C) "__init__" = some (some (.ref f))
 fn:PySem.W.isFn K (.ref f)=true
 kp:PySem.W.keepIn K (.ref C)=true
end
section
variable {X:Cx} {CX:CXT} {k:Nat} {f C:Addr} {fd:FuncData} {ps ks:List Str} {sp:Sp} {E:XK} {x m:Str} {p pos apos kpos:Pos} {e o:Expr} {es:List Expr} {kws:List Keyword} {te ta:TE} {t tk:TA} {nm:Option Str}
variable {g:List Value->List Value->List Value} {gV:List V->List V->List V}
end
structure Qt (N P:List Str) (sc:Scope):Prop where
 kind:sc.kind=.function
 co:sc.isCoroutine=false
 gen:sc.isGenerator=false
 nd:N.Nodup
 pre:N.take P.length=P
 par:∀ x∈P,sc.names.lookup x=some .local∨sc.names.lookup x=some .cell
 nofree:∀ y∈sc.names,y.2≠.free
theorem Uv {kindOf:Str->Option NameKind} {x:Str}:∀ {binds:List (Str×Value)} {m:Str->Option Value},(∀ v,(x,v)∉binds)->bindL kindOf binds m x=m x
  | [],_,_=>rfl
  | (n,v)::r,m,h=>by
    unfold bindL
    rw [Uv fun w hw=>h w (List.mem_cons_of_mem _ hw)]
    split
    . have:x≠n:=by rintro rfl;exact h v List.mem_cons_self
      simp [this]
    . rfl
theorem Ut {kindOf:Str->Option NameKind} {x:Str}:∀ {binds:List (Str×Value)} {m:Str->Option Value},(∀ v,(x,v)∉binds)->bindC kindOf binds m x=m x
  | [],_,_=>rfl
  | (n,v)::r,m,h=>by
    unfold bindC
    rw [Ut fun w hw=>h w (List.mem_cons_of_mem _ hw)]
    split
    . rfl
    . have:x≠n:=by rintro rfl;exact h v List.mem_cons_self
      simp [this]
theorem Uu {kindOf:Str->Option NameKind} {x:Str} {v:Value}:∀ {P:List Str} {vs:List Value} {i:Nat} {m:Str->Option Value},P.Nodup->P[i]?=some x->vs[i]?=some v->kindOf x=some .local ->
    bindL kindOf (P.zip vs) m x=some v
  | [],_,_,_,_,h,_,_=>by simp at h
  | _::_,[],_,_,_,_,h,_=>by simp at h
  | p::P,w::vs,0,m,nd,h1,h2,hk=>by
    simp at h1 h2;subst h1;subst h2
    show bindL kindOf ((p,w)::P.zip vs) m p=_
    unfold bindL
    rw [Uv fun v hv=>(List.nodup_cons.mp nd).1 (List.of_mem_zip hv).1,if_pos hk]
    simp
  | p::P,w::vs,i+1,m,nd,h1,h2,hk=>by
    show bindL kindOf ((p,w)::P.zip vs) m x=_
    unfold bindL
    exact Uu (i:=i) (List.nodup_cons.mp nd).2 (by simpa using h1) (by simpa using h2) hk
theorem Us {kindOf:Str->Option NameKind} {x:Str} {v:Value}:∀ {P:List Str} {vs:List Value} {i:Nat} {m:Str->Option Value},P.Nodup->P[i]?=some x->vs[i]?=some v->kindOf x≠some .local ->
    bindC kindOf (P.zip vs) m x=some v
  | [],_,_,_,_,h,_,_=>by simp at h
  | _::_,[],_,_,_,_,h,_=>by simp at h
  | p::P,w::vs,0,m,nd,h1,h2,hk=>by
    simp at h1 h2;subst h1;subst h2
    show bindC kindOf ((p,w)::P.zip vs) m p=_
    unfold bindC
    rw [Ut fun v hv=>(List.nodup_cons.mp nd).1 (List.of_mem_zip hv).1,if_neg hk]
    simp
  | p::P,w::vs,i+1,m,nd,h1,h2,hk=>by
    show bindC kindOf ((p,w)::P.zip vs) m x=_
    unfold bindC
    exact Us (i:=i) (List.nodup_cons.mp nd).2 (by simpa using h1) (by simpa using h2) hk
def start (N:List Str) (vs:List V):St:=vs.map some++List.replicate (N.length - vs.length) none
def yO (CX:CXT) (P:Program) (w:World) (K:PySem.W.Frag) (mg:Str->Option Value) (base:Heap) (N:List Str) (qual:Str) (scope:Scope) (f:Addr) (cd:Value) (A:Around) (outer:List Env) (s:Shared) (H:Hp) (E:XK):Cx where
 prog:=P
 w:=w
 K:=K
 mg:=mg
 base:=base
 A:=A.deeper (envOfC qual scope s.heap.objs.size f cd)
 N:=N
 s₀:=s
 H₀:=H
 env:=envOfC qual scope s.heap.objs.size f cd
 outer:=outer
 stack:=envOfC qual scope s.heap.objs.size f cd::outer
 ex:=[]
 calm:=true
 fn:=fun _=>true
 pn:=[]
 xe:=fun e s'=>wpAny (model P w) (A.deeper (envOfC qual scope s.heap.objs.size f cd)) (leaving (envOfC qual scope s.heap.objs.size f cd) e) (fun _ s''=>CX outer H s E e s'') (fun e' s''=>CX outer H s E e' s'') s'
theorem Ga {sc:Scope} {n:Nat} {x:Str} (h:sc.names.lookup x=some .cell):∃ c,(cellsFrom n sc.names []).lookup x=some c:=by
 have q:=PySem.W.cellsFrom_some sc.names n [] (.inl h)
 exact Option.isSome_iff_exists.mp q
theorem kO {CX:CXT} {P:Program} {w:World} {K:PySem.W.Frag} {mg:Str->Option Value} {base:Heap} {N ps:List Str} {qual:Str} {scope:Scope} {f:Addr} {cd:Value} {A:Around} {outer:List Env} {s s1:Shared} {H:Hp} {E:XK} {us:List Value} {vs:List V}
  (S:Qt N ps scope) (hd:A.handled=none) (e0:Env0 P w K mg base A outer s H) (hl:vs.length=ps.length) (r:Vals vs us)
  (x:InCallC s s.heap.objs.size (bindL (envOfC qual scope s.heap.objs.size f cd).kindOf (ps.zip us) fun _=>none) (cellsFrom (s.heap.objs.size+1) scope.names []) (bindC (envOfC qual scope s.heap.objs.size f cd).kindOf (ps.zip us) fun _=>none) s1) :
  Inv (yO CX P w K mg base N qual scope f cd A outer s H E) [] (start N vs) H s1:=by
 have hpl:ps.length<=N.length:=by have:=congrArg List.length S.pre;rw [List.length_take] at this;omega
 obtain ⟨h1,tk,rfl,hk⟩:=x.done
 have noA:∀ b:Addr,b∉(yO CX P w K mg base N qual scope f cd A outer s H E).ex:=fun b z=>absurd (show b∈([]:List Addr) from z) (by simp)
 refine ⟨⟨e0.mod,S.kind,rfl,rfl,Nat.le_refl _,fun y z c h1 h2=>?_,fun y hy=>?_,fun y c _ h=>?_,fun _=>hd,Around.frames_deeper e0.frames,.inr ⟨rfl,rfl⟩,fun b z=>absurd z (noA b),e0.bs,e0.bsz,fun b _ _=>noA b,fun b z=>absurd z (noA b),e0.funs,e0.frf⟩,
  rfl,e0.bare,Un.kept hk,⟨_,x.toInCall.ns,fun i y v h1 h2 h3=>?_⟩,fun y c h=>⟨_,x.cell y c h⟩,e0.hok.fresh (Nat.le_refl _),fun y c h=>?_,fun p hp=>absurd (show p∈([]:List (Addr×Obj)) from hp) (by simp),e0.hok.kept hk,?_⟩
 ·exact name_of_addr x.apart (PySem.mem_of_lookup h1) (PySem.mem_of_lookup h2)
 ·have hy:scope.names.lookup y=some .cell∨scope.names.lookup y=some .free:=hy
  rcases hy with hy | hy
  ·exact Ga hy
  ·exact absurd rfl (S.nofree _ (PySem.mem_of_lookup hy))
 ·exact Nat.le_of_lt (x.above y c (PySem.mem_of_lookup h))
 ·have hi:i < vs.length:=by
   unfold start at h2
   by_cases hi:i < vs.length
   ·exact hi
   ·rw [List.getElem?_append_right (by simpa using hi)] at h2
    rw [List.getElem?_replicate] at h2
    split at h2<;>cases h2
  have ha:vs[i]?=some v:=by
   unfold start at h2
   rw [List.getElem?_append_left (by simpa using hi),List.getElem?_map] at h2
   cases e:vs[i]? with
   | none=>rw [e] at h2;cases h2
   | some a=>rw [e] at h2;cases h2;rfl
  obtain ⟨u,hu,rv⟩:=r.get ha
  have hp:ps[i]?=some y:=by
   rw [<- S.pre,List.getElem?_take_of_lt (by omega)];exact h1
  have ndP:ps.Nodup:=by rw [<- S.pre];exact S.nd.sublist (List.take_sublist _ _)
  refine ⟨u,rv,?_⟩
  rcases S.par y (List.mem_of_getElem? hp) with k | k
  ·exact .inl ⟨k,Uu ndP hp hu k⟩
  ·obtain ⟨c,e⟩:=Ga (n:=s.heap.objs.size+1) k
   refine .inr ⟨.inl k,c,e,?_⟩
   have q:=x.cell y c e
   rw [Us ndP hp hu (by show scope.names.lookup y≠_;rw [k];decide)] at q
   exact q
 ·exact e0.hok.fresh (Nat.le_of_lt (x.above y c (PySem.mem_of_lookup h)))
 ·unfold start
  show _=N.length
  rw [List.length_append,List.length_map,List.length_replicate]
  omega
theorem Qgc {CX:CXT} {P:Program} {w:World} {K:PySem.W.Frag} {mg:Str->Option Value} {base:Heap} {k:Nat} {f:Addr} {name qual:Str} {params:Arguments} {body:List Stmt} {scope:Scope} {dV kV doc pm cdv ct oc:Value} {an od:Option Addr}
    {osl:Array (Option Value)} {N ps:List Str} {sp:Sp} (lk:K.lookup f=some ⟨oc,od,.func (PySem.W.fnOf name qual params body scope dV kV doc pm an cdv ct),osl⟩) (hcd:PySem.W.codeIn K cdv qual=true) (S:Qt N ps scope)
    (len:∀ vs H Q E,sp vs H Q E->vs.length=ps.length)
    (hbody:∀ (A:Around) (outer:List Env) (s:Shared) (H:Hp) (vs:List V) (Q:VK) (E:XK),Room k (A.deeper (envOfC qual scope s.heap.objs.size f cdv))->sp vs H Q E ->
      ∃ t,PSs (yO CX P w K mg base N qual scope f cdv A outer s H E) body t/\t { nx:=fun _ H'=>Q .non H',rt:=Q } (start N vs) H) :
    qX P w K mg base CX (k+1) f (PySem.W.fnOf name qual params body scope dV kV doc pm an cdv ct) ps sp:=by
  refine ⟨len,fun A outer s H args us vs Q E hr e0 hb r hsp=>?_⟩
  have hl:=len _ _ _ _ hsp
  have KX:K.In s.heap:=e0.mod.kin.keeps fun b o e=>(e0.bs b o e).1
  have lim:s.heap.NoLimit:=e0.mod.nolimit.keeps fun b o e=>(e0.bs b o e).1
  have hkind:∀ y∈ps.zip us,scope.names.lookup y.1=some .local∨(scope.names.lookup y.1=some .cell/\((cellsFrom (s.heap.objs.size+1) scope.names []).lookup y.1).isSome=true):=fun ⟨n,v⟩ hy=>by
    rcases S.par n (List.of_mem_zip hy).1 with q | q
    . exact .inl q
    . exact .inr ⟨q,PySem.W.cellsFrom_some _ _ _ (.inl q)⟩
  refine codeAny_call_function hr.depth (KX _ _ lk) rfl S.co S.gen rfl (PySem.W.codeRec_of KX hcd) (hb _ _ _ _ ?_)
  refine wpAny_newFunctionEnv_cells S.kind hkind fun env he s1 x=>?_
  subst he
  refine ⟨lim.keeps x.toInCall.keep,codeAny_func ?_⟩
  obtain ⟨t,ht,hq⟩:=hbody A outer s H vs Q E (hr.deeper _) hsp
  have I:Inv (yO CX P w K mg base N qual scope f cdv A outer s H E) [] (start N vs) H s1:=kO S hr.hd e0 hl r x
  refine wpAny_mono (ht [] s1 (start N vs) H _ I hq) (fun fl s' hs=>?_) fun e s' hs=>hs
  have fin:∀ {σ':St} {H':Hp} {v:V} {u:Value},Inv (yO CX P w K mg base N qual scope f cdv A outer s H E) [] σ' H' s'->RelV v u->Q v H'->CE outer P w H s Q u s' :=
    fun {σ' H' v u} J rv q=>⟨v,H',J.os,J.bare,J.base,J.hok,rv,q⟩
  cases fl with
  | ret u =>
    obtain ⟨v,σ',H',J,rv,q⟩:=hs
    exact fin J rv q
  | next =>
    obtain ⟨σ',H',J,q⟩:=hs
    exact fin (v:=V.non) (u:=Value.none) J rfl q
  | brk =>
    obtain ⟨_,_,_,q⟩:=hs
    exact False.elim q
  | cont =>
    obtain ⟨_,_,_,q⟩:=hs
    exact False.elim q
end L2
namespace L2
open PySem PySem.Spec PyProof.Rows
section
variable {X:Cx} {x:Str} {p pos:Pos} {e:Expr} {es:List Expr} {t:TA} {id T:String} {r:List V->Hp->VK->Prop}
def tCB (r:List V->Hp->VK->Prop) (t:TA):TE:=fun σ H Q=>t σ H fun vs H1=>r vs H1 Q
theorem Vw (hc:Xs X (.builtin id) r) (hg:Gl X x) (hm:X.mg x=none) (hv:bootBuiltins x=some (.builtin id)) (ha:PA X (e::es) t) (hn:x ≠ "__name__" := by decide) (hdb:(x==("__debug__" : Str))=false:=by decide)
  (he:starEach (e::es) X.env=(false,eval e X.env)::starEach es X.env:=by rfl) (hpl:(backTo pos (starEach es X.env)).any (·.1)=false:=by rfl):PE X (.Call (.Name x p) (e::es) [] pos) (tCB r t):=by
 intro pins s σ H Q I h
 refine wpAny_Call_Name_kw (xY I hg hm hv ?_ hn hdb)
 exact PyProof.Rows.callWith_builtin1 (thn (ha pos pins s σ H _ I h) fun us s1 ⟨vs,H1,I1,r1,q1⟩=>hc pins s1 σ H1 vs us Q I1 r1 q1) he hpl
theorem Qaf (hc:Xs X (.type T) r) (hg:Gl X x) (hm:X.mg x=none) (hv:bootBuiltins x=some (.type T)) (ha:PA X (e::es) t) (hn:x ≠ "__name__" := by decide) (hdb:(x==("__debug__" : Str))=false:=by decide)
  (he:starEach (e::es) X.env=(false,eval e X.env)::starEach es X.env:=by rfl) (hpl:(backTo pos (starEach es X.env)).any (·.1)=false:=by rfl):PE X (.Call (.Name x p) (e::es) [] pos) (tCB r t):=by
 intro pins s σ H Q I h
 refine wpAny_Call_Name_kw (xY I hg hm hv ?_ hn hdb)
 exact PyProof.Rows.callWith_type1 (thn (ha pos pins s σ H _ I h) fun us s1 ⟨vs,H1,I1,r1,q1⟩=>hc pins s1 σ H1 vs us Q I1 r1 q1) he hpl
end
end L2
namespace HT
open PySem PyProof.Rows
section
open PySem.SeqAt
open PySem.AutoSeq1 (wpAny_loadPart')
open PySem.MeetsSeq PySem.MeetsSeq2 PySem.MeetsSeq3
end
section
variable {prog:Program} {w:World} {A:Around} {E:Value->Shared->Prop} {s:Shared}
theorem cat_tup {t b:Addr} {vs ws:List Value} {Q:Value->Shared->Prop} (ht:IsTup s.heap t vs.toArray) (hb:IsTup s.heap b ws.toArray) (hv:vs≠[])
  (h1:ws=[]->Q (.ref t) s) (h2:ws≠[]->Q (.ref s.heap.objs.size) { s with heap:=s.heap.push { cls:=.type "tuple", data:=.seq (vs++ws).toArray } })
  (hsz:vs.length+ws.length<=sizeLine):wpAny (model prog w) A (binaryOp .Add (.ref t) (.ref b)) Q E s:=by
 obtain ⟨⟨cls,dd,data,sl⟩,ho,hc,n,hd⟩:=id ht
 obtain ⟨⟨cls2,dd2,data2,sl2⟩,ho2,hc2,n2,hd2⟩:=id hb
 simp only at hc hd hc2 hd2
 subst hc hd hc2 hd2
 have e:vs.toArray++ws.toArray=(vs++ws).toArray:=by simp
 by_cases hw:ws=[]
 ·exact concat_meets ⟨_,ho,rfl⟩ ⟨_,ho2,rfl⟩ noFill_tuple_add seq_tuple_add PySem.F.slot_tuple_add PySem.F.entry_tuple_add (PySem.F.args_tuple_add_2 _ _)
   (tuple_addW1 t b vs.toArray ws.toArray n n2 dd dd2 sl sl2 (by simpa using hv) (by simp [hw])) ⟨ho,ho2,h1 hw⟩
 ·refine concat_meets ⟨_,ho,rfl⟩ ⟨_,ho2,rfl⟩ noFill_tuple_add seq_tuple_add PySem.F.slot_tuple_add PySem.F.entry_tuple_add (PySem.F.args_tuple_add_2 _ _)
   (tuple_addW2 t b vs.toArray ws.toArray n n2 dd dd2 sl sl2 (by simpa using hv) (by simpa using hw) (by rw [List.size_toArray,List.size_toArray];exact hsz)) ⟨ho,ho2,?_⟩
  rw [e]
  exact h2 hw
def sIx (n d:Nat):Option Int->Nat
 | none=>d
 | some v=>if v < 0 then (v+(n:Int)).toNat else min v.toNat n
theorem sIx_nat (n d k:Nat):sIx n d (some (k:Int))=min k n:=by
 show (if (k:Int) < 0 then ((k:Int)+(n:Int)).toNat else min (k:Int).toNat n)=min k n
 rw [if_neg (by omega),Int.toNat_natCast]
theorem Qfv (n d:Nat) (hd:d<=n) (o:Option Int):sIx n d o<=n:=by
  cases o with
  | none=>exact hd
  | some v =>
    show (if v < 0 then (v+(n:Int)).toNat else min v.toNat n)<=n
    by_cases hv:v < 0
    . rw [if_pos hv];omega
    . rw [if_neg hv];exact Nat.min_le_right _ _
theorem uB (v:Int) (n d:Nat):(if v < 0 then max (v+(n:Int)) 0 else min v (n:Int))=((sIx n d (some v):Nat):Int):=by
 show (if v < 0 then max (v+(n:Int)) 0 else min v (n:Int))=(((if v < 0 then (v+(n:Int)).toNat else min v.toNat n):Nat):Int)
 by_cases hv:v < 0
 ·simp only [if_pos hv];omega
 ·simp only [if_neg hv];omega
theorem vi (lo hi:Option Int) (n:Nat):Builtin.Slice.sliceAdjust lo hi 1 (n:Int)=(((sIx n 0 lo:Nat):Int),((sIx n n hi:Nat):Int)):=by
 have h1:¬ ((1:Int) < 0):=by omega
 unfold Builtin.Slice.sliceAdjust
 simp only [h1,if_false]
 refine Prod.ext ?_ ?_
 ·cases lo with
  | none=>rfl
  | some v=>exact uB v n 0
 ·cases hi with
  | none=>rfl
  | some v=>exact uB v n n
theorem vS (i j:Nat):Builtin.Slice.slicePlaces (i:Int) (j:Int) 1=j - i:=by
 unfold Builtin.Slice.slicePlaces
 have h1:(1:Int) > 0:=by omega
 simp only [h1,if_true,Int.ediv_one]
 split<;>omega
theorem VT {v:Value} {o:Option Int} {Q:Option Int->Shared->Prop} (p:IsPart v o) (h:Q o s):wpAny (model prog w) A (Builtin.Slice.slicePartIndex v) Q E s:=by
 cases p with
 | none=>exact slicePart_none h
 | int i t=>exact slicePart_int h
theorem sliceApplied_gen {sl:Addr} {vl vu:Value} {lo hi:Option Int} {n:Nat} {Q:Int×Int×Nat->Shared->Prop} (hs:s.heap.IsSliceOf sl vl vu .none) (pl:IsPart vl lo) (pu:IsPart vu hi)
  (h:Q (((sIx n 0 lo:Nat):Int),1,sIx n n hi - sIx n 0 lo) s):wpAny (model prog w) A (Builtin.Slice.sliceApplied (.ref sl) (pure (n:Int))) Q E s:=by
 obtain ⟨os,hos,hcs,hds⟩:=id hs
 unfold Builtin.Slice.sliceApplied Builtin.Slice.sliceFields
 refine wpAny_bind (wpAny_bind (wpAny_field hos hds (x:=vl) rfl (wpAny_bind (wpAny_field hos hds (x:=vu) rfl (wpAny_bind (wpAny_field hos hds (x:=.none) rfl (wpAny_pure ?_)))))))
 refine wpAny_bind (slicePart_none ?_)
 show wpAny _ _ (if ((1:Int)==0)=true then _ else _) _ _ s
 rw [if_neg (by decide)]
 refine wpAny_bind (VT pl (wpAny_bind (VT pu (wpAny_bind (wpAny_pure ?_)))))
 show wpAny _ _ (match Builtin.Slice.sliceAdjust lo hi 1 (n:Int) with | (lo,hi)=>pure (lo,(1:Int),Builtin.Slice.slicePlaces lo hi 1)) _ _ s
 rw [vi lo hi n]
 show wpAny _ _ (pure (((sIx n 0 lo:Nat):Int),(1:Int),Builtin.Slice.slicePlaces ((sIx n 0 lo:Nat):Int) ((sIx n n hi:Nat):Int) 1)) _ _ s
 rw [vS]
 exact wpAny_pure h
theorem QbO (xs:Array Value) (i k:Nat):((List.range k).filterMap fun (m:Nat)=>xs[((i:Int)+(m:Int) * 1).toNat]?).toArray=((xs.toList.drop i).take k).toArray:=by
 have e:(fun (m:Nat)=>xs[((i:Int)+(m:Int) * 1).toNat]?)=fun m=>xs[i+m]?:=by
  funext m
  have:((i:Int)+(m:Int) * 1).toNat=i+m:=by omega
  rw [this]
 rw [e]
 have:=pick_run xs i k
 rw [List.filterMap_map] at this
 have e2:((fun x=>xs[x]?)∘fun x=>i+x)=fun m=>xs[i+m]?:=rfl
 rw [e2] at this
 rw [this]
theorem getItem_tuple_cut {t sl:Addr} {items:Array Value} {vl vu:Value} {lo hi:Option Int} {Q:Value->Shared->Prop} (ht:IsTup s.heap t items) (hs:s.heap.IsSliceOf sl vl vu .none) (pl:IsPart vl lo) (pu:IsPart vu hi)
  (hw:¬ (sIx items.size 0 lo=0/\sIx items.size items.size hi=items.size))
  (h:Q (.ref s.heap.objs.size) { s with heap:=s.heap.push { cls:=.type "tuple", data:=.seq ((items.toList.drop (sIx items.size 0 lo)).take (sIx items.size items.size hi - sIx items.size 0 lo)).toArray } })
  (hsz:items.size<=sizeLine):wpAny (model prog w) A (getItem (.ref t) (.ref sl)) Q E s:=by
 have htake:sizeOk (.seq ((items.toList.drop (sIx items.size 0 lo)).take (sIx items.size items.size hi - sIx items.size 0 lo)).toArray):=by
  show ((items.toList.drop (sIx items.size 0 lo)).take (sIx items.size items.size hi - sIx items.size 0 lo)).toArray.size<=sizeLine
  rw [List.size_toArray,List.length_take,List.length_drop,Array.length_toList]
  omega
 have hj:sIx items.size items.size hi<=items.size:=Qfv _ _ (Nat.le_refl _) hi
 obtain ⟨os,hos,hcs,hds⟩:=id hs
 have hTs:s.TypeIs (.ref sl) "slice" := ⟨os,hos,hcs⟩
 unfold getItem
 try with_reducible refine wpAny_holding ?_
 first | refine wpAny_bind (wpAny_pure ?_) | skip
 refine wpAny_bind (wpAny_sequenceKey ht.typeIs (by decide) ?_)
 refine wpAny_bind (wpAny_callSpecial?_slot (name:=Str.ofString "__getitem__") ht.typeIs PyProof.Rows.slot_tuple_getitem
  (wpAny_call_entry PyProof.Rows.slot_tuple_getitem ht.typeIs entry_tuple_getitem ?_ (args_tuple_getitem _ _)))
 show wpAny _ _ (Builtin.Tuple.tupleItemsOf (.ref t) >>= _) _ _ s
 refine wpAny_bind (tupleItemsOf_ ht ?_)
 refine wpAny_bind (wpAny_typeOf hTs ?_)
 rw [if_pos (by decide)]
 refine wpAny_bind (sliceApplied_gen hs pl pu ?_)
 have hno:¬ ((((sIx items.size 0 lo:Nat):Int)==0&&(1:Int)==1&&(sIx items.size items.size hi - sIx items.size 0 lo)==items.size)=true):=by
  intro q
  rw [Bool.and_eq_true,Bool.and_eq_true] at q
  have q1:((sIx items.size 0 lo:Nat):Int)=0:=eq_of_beq q.1.1
  have q2:sIx items.size items.size hi - sIx items.size 0 lo=items.size:=eq_of_beq q.2
  exact hw ⟨by omega,by omega⟩
 show wpAny _ _ (if (((sIx items.size 0 lo:Nat):Int)==0&&(1:Int)==1&&(sIx items.size items.size hi - sIx items.size 0 lo)==items.size)=true then _ else _) _ _ s
 rw [if_neg hno,QbO]
 first
  | exact wpAny_bind (m:=Builtin.Tuple.tupleExact _) (wpAny_newObj_type (wpAny_pure ⟨_,rfl,wpAny_pure h⟩) htake)
  | exact wpAny_bind (m:=Builtin.Tuple.tupleExact _) (wpAny_newObj_type (wpAny_bind (wpAny_pure (wpAny_pure ⟨_,rfl,wpAny_pure h⟩))) htake)
  | exact wpAny_bind (wpAny_bind (m:=Builtin.Tuple.tupleExact _) (wpAny_newObj_type (wpAny_pure (wpAny_pure ⟨_,rfl,wpAny_pure h⟩)) htake))
  | exact wpAny_bind (wpAny_bind (m:=Builtin.Tuple.tupleExact _) (wpAny_newObj_type (wpAny_pure ⟨_,rfl,wpAny_pure h⟩) htake))
end
end HT
namespace L2
open PySem PySem.Spec PyProof.Rows
abbrev TO:=St->Hp->(Option Int->Hp->Prop)->Prop
def PO (X:Cx) (e:Option Expr) (t:TO):Prop :=
  ∀ (pins : List (Addr × Obj)) (s : Shared) (σ : St) (H : Hp) (Q : Option Int -> Hp -> Prop), Inv X pins σ H s -> t σ H Q ->
    wpAny (model X.prog X.w) X.A (evalPart e X.env) (fun u s'=>∃ o H',Inv X pins σ H' s'/\IsPart u o/\Q o H') X.xe s
def QdL:TO:=fun _ H Q=>Q none H
def QgQ (t:TE):TO:=fun σ H Q=>t σ H fun x H1=>∃ i,x=.int i/\Q (some i) H1
section
variable {X:Cx} {e:Expr} {te:TE} {lo hi:Option Expr} {tl th:TO} {pos p2:Pos}
theorem Qdk:PO X none QdL:=by
 intro pins s σ H Q I h
 rw [evalPart_none]
 exact wpAny_pure ⟨none,H,I,.none,h⟩
theorem Qdl (h:PE X e te):PO X (some e) (QgQ te):=by
 intro pins s σ H Q I hw
 rw [evalPart_some]
 refine thn (h pins s σ H _ I hw) fun u s1 ⟨x,H1,I1,r1,q1⟩=>?_
 obtain ⟨i,rfl,q⟩:=q1
 obtain ⟨t,rfl⟩:=r1
 exact ⟨some i,H1,I1,.int i t,q⟩
def SlR (X:Cx) (r:V->Option Int->Option Int->Hp->VK->Prop):Prop :=
  ∀ (pins : List (Addr × Obj)) (s : Shared) (σ : St) (H : Hp) (x : V) (v vl vu : Value) (lo hi : Option Int) (sl : Addr) (Q : VK), Inv X pins σ H s -> RelV x v -> s.heap.IsSliceOf sl vl vu .none -> IsPart vl lo -> IsPart vu hi -> r x lo hi H Q ->
    ∃ T id,typeLookup (.type T) "__getitem__" = pure (some (.builtin id))/\s.TypeIs v T/\wpAny (model X.prog X.w) X.A (getItem v (.ref sl)) (EP X pins σ Q) X.xe s
def tSl (r:V->Option Int->Option Int->Hp->VK->Prop) (te:TE) (tl th:TO):TE:=fun σ H Q=>te σ H fun x H1=>tl σ H1 fun l H2=>th σ H2 fun u H3=>r x l u H3 Q
theorem QbJ {r:V->Option Int->Option Int->Hp->VK->Prop} (hr:SlR X r) (he:PE X e te) (hl:PO X lo tl) (hu:PO X hi th):PE X (.Subscript e (.Slice lo hi none p2) pos) (tSl r te tl th):=by
 intro pins s σ H Q I h
 refine Subscript_ (thn (he pins s σ H _ I h) fun v s1 ⟨x,H1,I1,r1,q1⟩=>?_)
 refine wpAny_Slice (thn (hl pins s1 σ H1 _ I1 q1) fun vl s2 ⟨l,H2,I2,pl,q2⟩=>thn (hu pins s2 σ H2 _ I2 q2) fun vu s3 ⟨u,H3,I3,pu,q3⟩=>?_)
 rw [evalPart_none]
 refine wpAny_pure ?_
 have I4:Inv X pins σ H3 { s3 with heap:=s3.heap.push { cls:=.type "slice", data:=.fields #[vl,vu,.none] } }:=I3.kept (t':=s3.toks) fun b ob q=>Heap.get?_push_of_some _ q
 obtain ⟨T,id,hT,ht,hg⟩:=hr pins { s3 with heap:=s3.heap.push { cls:=.type "slice", data:=.fields #[vl,vu,.none] } } σ H3 x v vl vu l u s3.heap.objs.size Q I4 r1 (Heap.IsSliceOf.new ..) pl pu q3
 show wpAny (model X.prog X.w) X.A (subscriptTail e (.Slice lo hi none p2) v (.ref s3.heap.objs.size)) (EP X pins σ Q) X.xe { s3 with heap:=s3.heap.push { cls:=.type "slice", data:=.fields #[vl,vu,.none] } }
 exact tail_any (ops:=[.ref s3.heap.objs.size,v]) ht hT hg (by with_unfolding_all rfl)
def Gd (xs:List V) (lo hi:Option Int):List V:=(xs.drop (HT.sIx xs.length 0 lo)).take (HT.sIx xs.length xs.length hi - HT.sIx xs.length 0 lo)
theorem yj (xs:List V) (lo hi:Option Int):(Gd xs lo hi).length<=xs.length:=by
 unfold Gd
 rw [List.length_take,List.length_drop]
 omega
def Qhi (K:PySem.W.Frag):V->Option Int->Option Int->Hp->VK->Prop:=fun x lo hi H Q=>∃ a xs,x=.ref a/\SqT K H a xs /\
 ¬ (HT.sIx xs.length 0 lo=0/\HT.sIx xs.length xs.length hi=xs.length)/\∀ p,H p=none->Q (.ref p) (upd H p (.tup (Gd xs lo hi)))
theorem Qfw:SlR X (Qhi X.K):=by
 intro pins s σ H x v vl vu lo hi sl Q I rx hs pl pu h
 obtain ⟨a,xs,rfl,hx,hw,q⟩:=h
 cases rx
 obtain ⟨its,r,ht,hz⟩:=I.tuple hx
 have hlen:its.toArray.size=xs.length:=by rw [List.size_toArray];exact r.length.symm
 refine ⟨"tuple", _,PyProof.Rows.slot_tuple_getitem.lookup,ht.typeIs,?_⟩
 refine HT.getItem_tuple_cut ht hs pl pu (by rw [hlen];exact hw) ?_ (by rw [hlen];exact hz)
 rw [hlen]
 refine ⟨.ref s.heap.objs.size,_,I.laid (t':=s.toks) (o:=.tup (Gd xs lo hi)) (fun b ob q=>Heap.get?_push_of_some _ q) (Nat.le_refl _) ?_,rfl,q _ (I.hok.fresh (Nat.le_refl _))⟩
 exact ⟨Nat.le_trans (yj xs lo hi) hz,_,(r.drop (HT.sIx xs.length 0 lo)).take (HT.sIx xs.length xs.length hi - HT.sIx xs.length 0 lo),IsTup.new _ _⟩
def QgC (K:PySem.W.Frag):R2:=fun x y H Q=>∃ a b xs ys,x=.ref a/\y=.ref b/\SqT K H a xs/\SqT K H b ys/\xs≠[]/\xs.length+ys.length<=sizeLine /\
 (ys=[]->Q (.ref a) H)/\(ys≠[]->∀ p,H p=none->Q (.ref p) (upd H p (.tup (xs++ys))))
theorem Vals.nil_iff {xs:List V} {us:List Value} (r:Vals xs us):us=[]↔xs=[]:=by
 cases r with
 | nil=>simp
 | cons _ _=>simp
theorem Qc3:OpR X (binaryOp .Add) (QgC X.K):=by
 intro pins s σ H x y v u Q I rx ry h
 obtain ⟨a,b,xs,ys,rfl,rfl,ha,hb,hx,hz,q1,q2⟩:=h
 cases rx
 cases ry
 obtain ⟨its,r1,p1,_⟩:=I.tuple ha
 obtain ⟨its2,r2,p2,_⟩:=I.tuple hb
 refine HT.cat_tup p1 p2 (fun z=>hx (r1.nil_iff.mp z)) (fun z=>⟨.ref a,H,I,rfl,q1 (r2.nil_iff.mp z)⟩) (fun z=>?_) (by rw [<- r1.length,<- r2.length];exact hz)
 refine ⟨.ref s.heap.objs.size,_,I.laid (t':=s.toks) (o:=.tup (xs++ys)) (fun b ob q=>Heap.get?_push_of_some _ q) (Nat.le_refl _) ?_,rfl,q2 (fun w=>z (r2.nil_iff.mpr w)) _ (I.hok.fresh (Nat.le_refl _))⟩
 exact ⟨by rw [List.length_append];exact hz,_,r1.append r2,IsTup.new _ _⟩
end
end L2
namespace L2
open PySem PySem.Spec PyProof.Rows
def ixN (n:Nat) (i:Int):Option Nat:=if 0<=i then (if i < n then some i.toNat else none) else if -(n:Int)<=i then some (i+n).toNat else none
def atI {α:Type} (xs:List α) (i:Int):Option α:=(ixN xs.length i).bind fun j=>xs[j]?
theorem uV {n:Nat} {i:Int} {j:Nat} (h:ixN n i=some j):seqIndex? i n=some j/\j < n /\ -(n:Int)<=i/\i < n:=by
 unfold ixN at h
 by_cases h0:0<=i
 ·rw [if_pos h0] at h
  by_cases h1:i < n
  ·rw [if_pos h1] at h
   have e:i.toNat=j:=Option.some.inj h
   exact ⟨by rw [seqIndex_of h0 h1,e],by omega,by omega,h1⟩
  ·rw [if_neg h1] at h;cases h
 ·rw [if_neg h0] at h
  by_cases h1:-(n:Int)<=i
  ·rw [if_pos h1] at h
   have e:(i+n).toNat=j:=Option.some.inj h
   exact ⟨by rw [seqIndex_neg (by omega) h1,e],by omega,h1,by omega⟩
  ·rw [if_neg h1] at h;cases h
theorem Ki {α:Type} {xs:List α} {i:Int} {v:α} (h:atI xs i=some v):∃ j,seqIndex? i xs.length=some j/\xs[j]?=some v/\j < xs.length /\ -(xs.length:Int)<=i/\i < xs.length:=by
  unfold atI at h
  cases e:ixN xs.length i with
  | none=>rw [e] at h;cases h
  | some j =>
    rw [e] at h
    obtain ⟨h1,h2,h3,h4⟩:=uV e
    exact ⟨j,h1,h,h2,h3,h4⟩
theorem qt {α:Type} {xs:List α} {j:Nat} {v:α} (h:xs[j]?=some v):atI xs (j:Int)=some v:=by
 have hj:j < xs.length:=(List.getElem?_eq_some_iff.mp h).1
 have e:ixN xs.length (j:Int)=some j:=by
  unfold ixN
  rw [if_pos (by omega),if_pos (by omega)];simp
 unfold atI;rw [e];exact h
theorem QaA {α:Type} (xs:List α) (v:α):atI (xs++[v]) (-1)=some v:=by
 have hl:(xs++[v]).length=xs.length+1:=by simp
 have e:ixN (xs++[v]).length (-1)=some xs.length:=by
  unfold ixN
  rw [hl,if_neg (by decide),if_pos (by omega)]
  congr 1
  omega
 unfold atI
 rw [e]
 show (xs++[v])[xs.length]?=some v
 simp
def Kg (b:Expr):Prop:=∀ o i,subscripted b false o i=operate [o,i] (getItem o i)
def IxR (X:Cx) (r:R2):Prop :=
  ∀ (value slice : Expr) (pins : List (Addr × Obj)) (s : Shared) (σ : St) (H : Hp) (x y : V) (v u : Value) (Q : VK), Inv X pins σ H s -> RelV x v -> RelV y u -> r x y H Q ->
    subscripted slice false v u=operate [v,u] (getItem v u)->wpAny (model X.prog X.w) X.A (subscriptTail value slice v u) (EP X pins σ Q) X.xe s
def MtR (X:Cx) (id:String) (r:V->List V->Hp->VK->Prop):Prop :=
  ∀ (pins : List (Addr × Obj)) (s : Shared) (σ : St) (H : Hp) (x : V) (xs : List V) (v : Value) (us : List Value) (Q : VK), Inv X pins σ H s -> RelV x v -> Vals xs us -> r x xs H Q ->
    wpAny (model X.prog X.w) X.A (call (.builtin id) (v::us)) (EP X pins σ Q) X.xe s
section
variable {X:Cx} {a b:Expr} {ta tb:TE} {pos:Pos}
theorem Qec {r:R2} (hr:IxR X r) (ha:PE X a ta) (hb:PE X b tb) (hs:Kg b):PE X (.Subscript a b pos) (tOp r ta tb):=by
 intro pins s σ H Q I h
 exact Subscript_ (Qem ha hb I h fun v u s2 x y H2 I2 rx ry q=>hr a b pins s2 σ H2 x y v u Q I2 rx ry q (hs _ _))
def Qhf (K:PySem.W.Frag):R2:=fun x y H Q=>∃ p xs i v,x=.ref p/\y=.int i/\SqL K H p xs/\atI xs i=some v/\Q v H
def Qhg (K:PySem.W.Frag):R2:=fun x y H Q=>∃ p xs i v,x=.ref p/\y=.int i/\SqT K H p xs/\atI xs i=some v/\Q v H
theorem uW:IxR X (Qhf X.K):=by
 intro value slice pins s σ H x y v u Q I rx ry h hs
 obtain ⟨p,xs,i,z,rfl,rfl,hq,he,q⟩:=h
 cases rx
 obtain ⟨t,rfl⟩:=ry
 obtain ⟨its,r,pl,hz⟩:=I.list hq
 obtain ⟨j,h1,h2,h3,h4,h5⟩:=Ki he
 obtain ⟨w,ew,rw'⟩:=r.get h2
 have hl:=r.length
 have hn:=Vn
 have fin:EP X pins σ Q w s:=⟨z,H,I,rw',q⟩
 by_cases h0:0<=i
 ·have hj:i.toNat=j:=by
   rw [seqIndex_of h0 h5] at h1
   exact Option.some.inj h1
  exact item_listR pl.isList h0 (by omega) (by rw [hj];simpa using ew) fin hs
 ·have hj:(i+(its.toArray.size:Int)).toNat=j:=by
   rw [seqIndex_neg (by omega) h4] at h1
   rw [List.size_toArray,<- hl]
   exact Option.some.inj h1
  exact subscriptTail_builtinR (x:=w) pl.isList.typeIs slot_list_getitem.lookup
   (wpAny_getItem_list_neg (Q:=fun r s'=>r=w/\EP X pins σ Q r s') pl.isList (by omega) (by rw [List.size_toArray]<;>omega) (by omega) (by rw [hj];simpa using ew) ⟨rfl,fin⟩) hs
theorem QeD:IxR X (Qhg X.K):=by
 intro value slice pins s σ H x y v u Q I rx ry h hs
 obtain ⟨p,xs,i,z,rfl,rfl,hq,he,q⟩:=h
 cases rx
 obtain ⟨t,rfl⟩:=ry
 obtain ⟨its,r,pl,hz⟩:=I.tuple hq
 obtain ⟨j,h1,h2,h3,h4,h5⟩:=Ki he
 obtain ⟨w,ew,rw'⟩:=r.get h2
 have hl:=r.length
 have hn:=Vn
 have fin:EP X pins σ Q w s:=⟨z,H,I,rw',q⟩
 exact subscriptTail_builtinR (x:=w) pl.typeIs slot_tuple_getitem.lookup
  (getItem_tuple (j:=j) (Q:=fun r s'=>r=w/\EP X pins σ Q r s') pl (by omega) (by omega) (by rw [List.size_toArray,<- hl];exact h1) (by simpa using ew) ⟨rfl,fin⟩) hs
theorem vO (its:List Value) (n j:Nat) (u:Value):Obj.mapSeq (·.setIfInBounds j u) { cls:=.type "list", data:=.seq its.toArray n }={ cls:=.type "list", data:=.seq (its.set j u).toArray n }:=by
 simp [Obj.mapSeq]
theorem Inv.lst {pins:List (Addr×Obj)} {σ:St} {H:Hp} {s:Shared} {p:Addr} {xs:List V} (I:Inv X pins σ H s) (h:H p=some (.lst xs)) :
  ∃ (its:List Value) (n:Nat),Vals xs its/\s.heap.get? p=some { cls:=.type "list", data:=.seq its.toArray n }/\xs.length<=sizeLine:=by
 obtain ⟨z,its,n,r,e⟩:=I.hok p _ h
 exact ⟨its,n,r,e,z⟩
theorem Inv.lstUpd {pins:List (Addr×Obj)} {σ:St} {H:Hp} {s:Shared} {p:Addr} {xs ys:List V} {its its':List Value} {n n':Nat} {f:Obj->Obj} (I:Inv X pins σ H s) (h:H p=some (.lst xs))
  (ho:s.heap.get? p=some { cls:=.type "list", data:=.seq its.toArray n }) (hf:f { cls:=.type "list", data:=.seq its.toArray n }={ cls:=.type "list", data:=.seq its'.toArray n' }) (r:Vals ys its') (hz:ys.length<=sizeLine) (t:Nat) :
  Inv X pins σ (upd H p (.lst ys)) { s with heap:=s.heap.update p f,toks:=t }:=by
 have e:(s.heap.update p f).get? p=some { cls:=.type "list", data:=.seq its'.toArray n' }:=by
  rw [Heap.get?_update_self f ho (by rw [hf]<;>rfl),hf]
 refine I.write (x:=p) (e:=p) (by rw [h];trivial) (.inl rfl) (fun b u hb q=>(Heap.get?_update_other _ _ (Ne.symm hb)).trans q) ⟨_,e⟩ ?_
 exact ⟨hz,its',n',r,e⟩
def QgF:V->V->V->Hp->(Hp->Prop)->Prop:=fun o i v H Q=>∃ p xs k j,o=.ref p/\i=.int k/\H p=some (.lst xs)/\ixN xs.length k=some j/\Q (upd H p (.lst (xs.set j v)))
theorem Qb6:Qaw X QgF:=by
 intro pins s σ H o i v ov iv u Q I ro ri rv h
 obtain ⟨p,xs,k,j,rfl,rfl,hp,hj,q⟩:=h
 cases ro
 obtain ⟨t,rfl⟩:=ri
 obtain ⟨its,n,r,ho,hz⟩:=I.lst hp
 obtain ⟨h1,h2,h3,h4⟩:=uV hj
 have hl:=r.length
 have hn:=Vn
 have I':Inv X pins σ (upd H p (.lst (xs.set j v))) { s with heap:=s.heap.update p (Obj.mapSeq (·.setIfInBounds j u)) } :=
  I.lstUpd hp ho (vO its n j u) (r.set rv j) (by rw [List.length_set];exact hz) s.toks
 by_cases h0:0<=k
 ·have hk:k.toNat=j:=by
   rw [seqIndex_of h0 h4] at h1
   exact Option.some.inj h1
  exact PySem.W.ki_setAt ho h0 (by omega) (by rw [List.size_toArray,<- hl];exact h4) (by rw [hk];exact ⟨_,I',q⟩)
 ·have hk:(k+(its.toArray.size:Int)).toNat=j:=by
   rw [seqIndex_neg (by omega) h3] at h1
   rw [List.size_toArray,<- hl]
   exact Option.some.inj h1
  exact PySem.W.ki_setBack ho (by omega) (by rw [List.size_toArray,<- hl];exact h3) (by omega) (by rw [hk];exact ⟨_,I',q⟩)
theorem KU (lo hi:Option Int) (n:Nat):(sliceBounds lo hi none n).1=((HT.sIx n 0 lo:Nat):Int)/\(sliceBounds lo hi none n).2.1=((HT.sIx n n hi:Nat):Int)/\(sliceBounds lo hi none n).2.2=1:=by
  refine ⟨?_,?_,rfl⟩
  . cases lo with
    | none=>simp [sliceBounds,HT.sIx]
    | some i =>
      simp only [sliceBounds,HT.sIx,Option.getD_none,show (1:Int) > 0 by decide,if_true]
      by_cases h:i < 0
      . simp only [h,if_true]<;>omega
      . simp only [h,if_false]<;>omega
  . cases hi with
    | none=>simp [sliceBounds,HT.sIx]
    | some i =>
      simp only [sliceBounds,HT.sIx,Option.getD_none,show (1:Int) > 0 by decide,if_true]
      by_cases h:i < 0
      . simp only [h,if_true]<;>omega
      . simp only [h,if_false]<;>omega
theorem Uo (its:List Value) (lo hi:Option Int):slicePick its.toArray lo hi none=((its.drop (HT.sIx its.length 0 lo)).take (HT.sIx its.length its.length hi - HT.sIx its.length 0 lo)).toArray:=by
 obtain ⟨h1,h2,h3⟩:=KU lo hi its.toArray.size
 unfold slicePick
 rw [h1,h2,h3]
 simp only [sliceRange_one,pick_run,List.size_toArray]<;>rfl
def Qhh (K:PySem.W.Frag):V->Option Int->Option Int->Hp->VK->Prop:=fun x lo hi H Q=>∃ a xs,x=.ref a/\SqL K H a xs/\∀ p,H p=none->Q (.ref p) (upd H p (.lst (Gd xs lo hi)))
theorem QdH:SlR X (Qhh X.K):=by
 intro pins s σ H x v vl vu lo hi sl Q I rx hs pl pu h
 obtain ⟨a,xs,rfl,hx,q⟩:=h
 cases rx
 obtain ⟨its,r,ht,hz⟩:=I.list hx
 have hlen:=r.length
 refine ⟨"list", _,slot_list_getitem.lookup,ht.isList.typeIs,?_⟩
 refine wpAny_getItem_list_slice ht.isList hs pl pu .none (by simp) ?_ (by rw [List.size_toArray]<;>omega)
 rw [Uo,<- hlen]
 refine ⟨.ref s.heap.objs.size,_,I.laid (t':=s.toks) (o:=.lst (Gd xs lo hi)) (fun b ob q=>Heap.get?_push_of_some _ q) (Nat.le_refl _) ?_,rfl,q _ (I.hok.fresh (Nat.le_refl _))⟩
 exact ⟨Nat.le_trans (yj xs lo hi) hz,_,0,(r.drop (HT.sIx xs.length 0 lo)).take (HT.sIx xs.length xs.length hi - HT.sIx xs.length 0 lo),Heap.get?_push_size _ rfl⟩
theorem qw:Xs X (.builtin "len") (fun xs H Q=>∃ p ys,xs=[.ref p]/\(SqL X.K H p ys∨SqT X.K H p ys)/\Q (.int ys.length) H):=by
 intro pins s σ H xs us Q I r h
 obtain ⟨p,ys,rfl,hq,q⟩:=h
 obtain ⟨u,rfl,rx⟩:=G9 r
 cases rx
 have hn:=Vn
 rcases hq with hq | hq
 ·obtain ⟨its,r',pl,hz⟩:=I.list hq
  have hlen:=r'.length
  exact Calls.call_len_list pl.isList (by simp only [List.size_toArray]<;>omega) ⟨.int ys.length,H,I.tok _,⟨s.toks+1,by rw [List.size_toArray,hlen]⟩,q⟩
 ·obtain ⟨its,r',pl,hz⟩:=I.tuple hq
  have hlen:=r'.length
  exact len_tuple pl (by simp only [List.size_toArray]<;>omega) ⟨.int ys.length,H,I.tok _,⟨s.toks+1,by rw [List.size_toArray,hlen]⟩,q⟩
theorem YQ:Xs X (.type "tuple") (fun xs H Q=>∃ p ys,xs=[.ref p]/\((SqL X.K H p ys/\∀ l,H l=none->Q (.ref l) (upd H l (.tup ys)))∨(SqT X.K H p ys/\Q (.ref p) H))):=by
 intro pins s σ H xs us Q I r h
 obtain ⟨p,ys,rfl,h⟩:=h
 obtain ⟨u,rfl,rx⟩:=G9 r
 cases rx
 rcases h with ⟨hq,q⟩ | ⟨hq,q⟩
 ·obtain ⟨its,r',pl,hz⟩:=I.list hq
  have hlen:=r'.length
  refine call_tuple_list pl.isList (fun h' kp=>?_) (by simp only [List.size_toArray]<;>omega)
  have I1:Inv X pins σ H { s with heap:=h' }:=I.kept (t':=s.toks) kp
  have I2:Inv X pins σ (upd H h'.objs.size (.tup ys)) { s with heap:=h'.push { cls:=.type "tuple", data:=.seq its.toArray } } :=
   I1.laid (t':=s.toks) (fun b o e=>Heap.get?_push_of_some _ e) (Nat.le_refl _) (show ObjOk X.prog X.w _ _ _ (.tup ys) from ⟨hz,its,r',IsTup.new _ _⟩)
  exact ⟨.ref h'.objs.size,_,I2,rfl,q _ (I1.hok.fresh (Nat.le_refl _))⟩
 ·obtain ⟨its,r',pl,hz⟩:=I.tuple hq
  exact call_tuple_same pl ⟨.ref p,H,I,rfl,q⟩
def tyV (K:PySem.W.Frag) (T:String) (x:V) (H:Hp):Prop:=match x with
 | .str _=>T = "str"
 | .int _=>T = "int"
 | .ref p=>(T = "list" /\ ∃ xs,SqL K H p xs)∨(T = "tuple" /\ ∃ o,K.lookup p=some o/\o.cls=.type "tuple" /\ o.dict=none) ∨
   (T = "dict" /\ ((∃ kvs,H p=some (.dK kvs))∨∃ kvs,H p=some (.dT kvs)))∨(T = "set" /\ ∃ S n,H p=some (.set S n))
 | _=>False
theorem QfI {pins:List (Addr×Obj)} {σ:St} {H:Hp} {s:Shared} {T:String} {x:V} {v:Value} (I:Inv X pins σ H s) (r:RelV x v) (ty:tyV X.K T x H) :
    s.TypeIs v T/\∀ a,v=.ref a->∃ ob,s.heap.get? a=some ob/\ob.dict=none:=by
  cases x with
  | str z =>
    obtain ⟨t,rfl⟩:=r
    cases (show T = "str" from ty)
    exact ⟨typeIs_str s z t,fun _ e=>nomatch e⟩
  | int i =>
    obtain ⟨t,rfl⟩:=r
    cases (show T = "int" from ty)
    exact ⟨typeIs_int s i t,fun _ e=>nomatch e⟩
  | ref p =>
    cases r
    rcases ty with ⟨rfl,xs,hq⟩ | ⟨rfl,o,hk,hc,hd⟩ | ⟨rfl,hk⟩ | ⟨rfl,S,n,hk⟩
    . obtain ⟨its,_,pl,_⟩:=I.list hq
      refine ⟨pl.isList.typeIs,fun a e=>?_⟩
      cases e
      obtain ⟨o,n,e,c,hd,_⟩:=pl
      exact ⟨o,e,hd⟩
    . refine ⟨⟨o,I.kIn p o hk,hc⟩,fun a e=>?_⟩
      cases e
      exact ⟨o,I.kIn _ o hk,hd⟩
    . have z:∃ o,s.heap.get? p=some o/\o.ExactDict:=by
        rcases hk with ⟨kvs,hk⟩ | ⟨kvs,hk⟩
        . obtain ⟨_,_,_,_,o,_,_,e,ex,_⟩:=I.hok p _ hk
          exact ⟨o,e,ex⟩
        . obtain ⟨_,_,_,_,o,_,_,e,ex,_⟩:=I.hok p _ hk
          exact ⟨o,e,ex⟩
      obtain ⟨o,e,ex⟩:=z
      refine ⟨⟨o,e,ex.1⟩,fun a e2=>?_⟩
      cases e2
      exact ⟨o,e,ex.2.1⟩
    . obtain ⟨o,_,_,_,e,ex,_⟩:=I.hok p _ hk
      refine ⟨⟨o,e,ex.1⟩,fun a e2=>?_⟩
      cases e2
      exact ⟨o,e,ex.2.1⟩
  | _=>exact False.elim ty
def tBM (K:PySem.W.Frag) (T:String) (r:V->List V->Hp->VK->Prop) (to:TE) (t:TA):TE:=fun σ H Q=>to σ H fun x H1=>tyV K T x H1/\t σ H1 fun xs H2=>r x xs H2 Q
variable {o e:Expr} {es:List Expr} {to:TE} {t:TA} {name:Str} {apos cpos:Pos} {T id:String} {r:V->List V->Hp->VK->Prop}
theorem Qgx (pa:PlainAttrs T) (slot:Slot T name id) (hty:typeOf (.builtin id)=pure (.type "method_descriptor")) (hm:MtR X id r) (ho:PE X o to) (ha:PA X (e::es) t)
  (hbase:attributeBase o name X.env (eval o X.env)=eval o X.env:=by rfl)
  (hfew:((backTo cpos (starEach (e::es) X.env)).all (fun x=>!x.1)&&(backToKw cpos (keywordEach [] X.env)).all (fun x=>x.1.isSome)
   && decide ((e::es).length+([]:List Keyword).length+(if ([]:List Keyword).isEmpty then 0 else 1) < 30))=true:=by rfl)
  (hline:(apos.endLine==cpos.line)=true:=by rfl) (hs:starEach (e::es) X.env=(false,eval e X.env)::starEach es X.env:=by rfl) (hplain:(backTo cpos (starEach es X.env)).any (·.1)=false:=by rfl) :
  PE X (.Call (.Attribute o name apos) (e::es) [] cpos) (tBM X.K T r to t):=by
 intro pins s σ H Q I h
 refine wpAny_Call_method_late hbase hfew hline rfl (thn (ho pins s σ H _ I h) fun v s1 ⟨x,H1,I1,r1,ty,q1⟩=>?_)
 obtain ⟨h1,h2⟩:=QfI I1 r1 ty
 refine ⟨T,id,pa,slot,hty,h1,h2,?_⟩
 have hA:=ha cpos pins s1 σ H1 _ I1 q1
 rw [hs] at hA ⊢
 refine Calls.callWith_builtin (by show (false||(backTo cpos (starEach es X.env)).any (·.1))=false;rw [hplain]<;>rfl) (Calls.evalArgs_plain ?_)
 exact thn hA fun us s2 ⟨vs,H2,I2,r2,q2⟩=>hm pins s2 σ H2 x vs v us Q I2 r1 r2 q2
/- xs.append(e),list.index on a module's tuple .. are MtR facts of 06m -/
end
end L2
namespace L2
open PySem PySem.Spec PyProof.Rows
def MtM (X:Cx) (id:String) (r:V->List V->Hp->VK->Prop):Prop :=
  ∀ (pins : List (Addr × Obj)) (s : Shared) (σ : St) (H : Hp) (x : V) (xs : List V) (v : Value) (us : List Value) (Q : VK), Inv X pins σ H s -> RelV x v -> Vals xs us -> r x xs H Q ->
    wpAny (model X.prog X.w) X.A (call (.builtin id) (v::us)) (EP X pins σ Q) X.xe s
theorem Vals.one:∀ {x:V} {us:List Value},Vals [x] us->∃ u,us=[u]/\RelV x u
 | _,_,.cons r .nil=>⟨_,rfl,r⟩
section
variable {X:Cx} {pins:List (Addr×Obj)} {σ:St} {H:Hp} {s:Shared} {l b:Addr} {xs ys zs:List V}
theorem Inv.lset {its its':List Value} {n:Nat} {f:Array Value->Array Value} {t':Nat} (I:Inv X pins σ H s) (hH:H l=some (.lst xs))
  (e:s.heap.get? l=some { cls:=.type "list", data:=.seq its.toArray n }) (hf:f its.toArray=its'.toArray) (hv:Vals ys its') (hz:ys.length<=sizeLine) :
  Inv X pins σ (upd H l (.lst ys)) { s with heap:=s.heap.update l (Obj.mapSeq f),toks:=t' }:=by
 have q:=PySem.IsL.update e f
 rw [hf] at q
 refine I.write (x:=l) (e:=l) (by rw [hH];exact trivial) (.inl rfl) (fun b' u hb hu=>(Heap.get?_update_other s.heap (Obj.mapSeq f) (Ne.symm hb)).trans hu) ⟨_,q⟩ ?_
 exact ⟨hz,its',_,hv,q⟩
theorem Inv.lnew {its:List Value} {t':Nat} (I:Inv X pins σ H s) (hv:Vals ys its) (hz:ys.length<=sizeLine) :
  Inv X pins σ (upd H s.heap.objs.size (.lst ys)) { s with heap:=s.heap.push { cls:=.type "list", data:=.seq its.toArray },toks:=t' } :=
 I.laid (fun _ _ q=>Heap.get?_push_of_some _ q) (Nat.le_refl _) ⟨hz,its,0,hv,Heap.get?_push_size _ rfl⟩
theorem Inv.fresh (I:Inv X pins σ H s):H s.heap.objs.size=none:=I.hok.fresh (Nat.le_refl _)
theorem Inv.lstM (I:Inv X pins σ H s) (hH:H l=some (.lst xs)):xs.length<=sizeLine/\∃ (its:List Value) (n:Nat),Vals xs its/\xs.length=its.length/\s.heap.get? l=some { cls:=.type "list", data:=.seq its.toArray n }:=by
 obtain ⟨z,its,n,r,e⟩:=I.hok l _ hH
 exact ⟨z,its,n,r,r.length,e⟩
theorem Qby {n:Nat} (h:n<=sizeLine):Builtin.List.listTooLong n=false:=by
 unfold Builtin.List.listTooLong
 exact decide_eq_false (by omega)
end
section
variable {X:Cx}
def Qdx:V->List V->Hp->VK->Prop:=fun x vs H Q=>∃ l xs y,x=.ref l/\vs=[y]/\H l=some (.lst xs)/\xs.length < sizeLine/\Q .non (upd H l (.lst (xs++[y])))
theorem UN:MtM X "list.append" Qdx:=by
 intro pins s σ H x vs v us Q I rx rv h
 obtain ⟨l,xs,y,rfl,rfl,hH,hz,q⟩:=h
 cases rx
 obtain ⟨u,rfl,ru⟩:=rv.one
 obtain ⟨z,its,n,r,hl,e⟩:=I.lstM hH
 refine call_meets F.slot_list_append ⟨_,e,rfl⟩ F.entry_list_append (F.args_list_append_2 _ _) (PySem.list_append l its.toArray n u (by rw [List.size_toArray];omega)) ⟨e,?_⟩
 refine ⟨.non,_,I.lset (its':=its++[u]) hH e (by simp) (r.append (.cons ru .nil)) ?_,rfl,q⟩
 rw [List.length_append,List.length_singleton]
 omega
def Qdy:V->List V->Hp->VK->Prop:=fun x vs H Q=>∃ l b xs zs,x=.ref l/\vs=[.ref b]/\H l=some (.lst xs)/\H b=some (.lst zs)/\xs.length+zs.length<=sizeLine/\Q .non (upd H l (.lst (xs++zs)))
theorem kY:MtM X "list.extend" Qdy:=by
 intro pins s σ H x vs v us Q I rx rv h
 obtain ⟨l,b,xs,zs,rfl,rfl,hH,hB,hz,q⟩:=h
 cases rx
 obtain ⟨u,rfl,ru⟩:=rv.one
 cases ru
 obtain ⟨z,its,n,r,hl,e⟩:=I.lstM hH
 obtain ⟨z2,its2,n2,r2,hl2,e2⟩:=I.lstM hB
 have hsz:its.toArray.size+its2.toArray.size<=sizeLine:=by rw [List.size_toArray,List.size_toArray];omega
 have hlong:¬ (!its.toArray.isEmpty&&Builtin.List.listTooLong (its.toArray.size+its2.toArray.size))=true:=by
  rw [Qby hsz,Bool.and_false]
  exact Bool.false_ne_true
 refine call_meets F.slot_list_extend ⟨_,e,rfl⟩ F.entry_list_extend (F.args_list_extend_2 _ _)
  (AutoSeq1.list_extend_list_list_0 l its.toArray n b its2.toArray n2 hlong (by rw [List.size_toArray];omega) (by omega)) ⟨e,e2,?_⟩
 refine ⟨.non,_,I.lset (its':=its++its2) hH e (by simp) (r.append r2) ?_,rfl,q⟩
 rw [List.length_append]
 omega
end
section
variable {prog:Program} {w:World} {A:Around} {E:Value->Shared->Prop} {s:Shared}
end
section
variable {X:Cx}
end
end L2
namespace Att
open PySem PySem.W PySem.Calls PyProof.Rows
theorem yR {P:Params} {h:Heap}:∀ (ns:List Int) (vs:List Value),WellAll P h vs (ns.map WData.int)->IntsAre vs ns:=by
  intro ns
  induction ns with
  | nil =>
    intro vs w
    rw [List.map_nil] at w
    cases w
    exact .nil
  | cons n ns ih =>
    intro vs w
    rw [List.map_cons] at w
    cases w with
    | cons a b =>
      cases a
      exact .cons _ _ (ih _ b)
theorem script_of {l:OpenLaw} {n:Nat} (hn:l.most=some n) {P:Params} {h:Heap} {args:List WData} {vals:List Value}
    (hpre:l.row.toRowW.claim.pre args=true) (hwl:WellAll P h vals args) :
    ∃ a vs ns,vals=[Value.ref a]/\args=[WData.list (ns.map WData.int)]/\h.get? a=some { cls:=.type "list", data:=.seq vs.toArray }/\IntsAre vs ns/\ns.length<=n:=by
  have hsh:WShape.hasAll [] args [.list .int]=true:=(pre_splitW hpre).1
  have hc:l.pre.holds [] { args:=args }=true:=(pre_splitW hpre).2
  obtain ⟨d,r,rfl,h1,h2⟩:=hasAllW_cons hsh
  obtain rfl:=hasAllW_nil h2
  obtain ⟨xs,rfl,h3⟩:=hasW_list h1
  obtain ⟨ns,rfl⟩:=items_int h3
  have hlen:ns.length<=n:=by
    unfold OpenLaw.pre at hc
    have h4:(WTm.not (.lt (.lit (.int (n:Int))) (.len (.arg 0)))).holds [] { args:=[.list (ns.map .int)] }=true:=by
      have h4:=(holds_andW hc).1
      rw [hn] at h4
      exact h4
    have h5:=condW_of h4 (w_not (w_lt w_lit (w_len_list (w_arg rfl))))
    rw [List.length_map] at h5
    refine Nat.le_of_not_lt fun q=>?_
    have q':(n:Int) < ((ns.length:Nat):Int):=by omega
    first
      | (rw [decide_eq_true q'] at h5;exact absurd h5 (by decide))
      | (simp at h5;omega)
  cases hwl with
  | cons w1 w2 =>
    cases w2
    cases w1 with
    | list ho hall=>exact ⟨_,_,ns,rfl,rfl,ho,yR ns _ hall,hlen⟩
theorem post_true (l:OpenLaw) (args:List WData):l.row.toRowW.claim.post args (.bool true) args=true :=
 postW_of (r:=l.row.toRowW) (X:=(true==true))
  (show WShape.has [] (.bool true) .bool=true by first | rfl | decide | simp [WShape.has,WShape.arms,WShape.armsAll])
  (show (WTm.eq .res (.lit (.bool true))).value [] { args:=args,res:=some (.bool true),after:=args }=some (.bool (true==true)) from w_eq_bool (w_res rfl) w_lit) rfl
section
variable {prog:Program} {w:World} {A:Around} {E:Value->Shared->Prop} {s:Shared} {K:Frag}
def Qg9 (h:Heap) (L d:Addr):List (Addr×Obj):=(List.range h.objs.size).filterMap fun a=>if a=L∨a=d then none else (h.get? a).map fun o=>(a,o)
end
end Att
namespace L2
open PySem PySem.Spec PyProof.Rows
theorem zU:∀ {vs:List Value} {ns:List Int},IntsAre vs ns->Vals (ns.map V.int) vs
 | _,_,.nil=>.nil
 | _,_,.cons n t h=>.cons ⟨t,rfl⟩ (zU h)
def Qek (H:Hp):Prop:=∀ b,H b=none∨∃ o xs,H b=some (.frz o (.lst xs))
theorem Qbg {P:Program} {w:World} {K:PySem.W.Frag} {mg mb:Str->Option Value} {CX:CXT} {k:Nat} {fa a:Addr} {fd:FuncData} {x:Str} {sp:Sp} {s₁:Shared} {vs:List Value} {ns:List Int}
    (KX:K.In s₁.heap) (hns:s₁.heap.Ns mainGlobals mg) (hb:s₁.heap.Ns builtinsNs mb) (hbb:∀ x:Str,x ≠ "__name__" -> mb x=bootBuiltins x) (hlim:s₁.heap.NoLimit) (hg:s₁.gens = #[])
    (ha:s₁.heap.get? a=some { cls:=.type "list", data:=.seq vs.toArray }) (hi:IntsAre vs ns) (hl:ns.length<=sizeLine) (hr:Room k callerA)
    (F:∀ base:Heap,K.In base->base.Ns mainGlobals mg->qX P w K mg base CX k fa fd [x] sp) (hbind:∀ (s:Shared) (u:Value),BindsTo s fd ⟨[u],[]⟩ [(x,u)])
    (hsp:∀ H:Hp,Qek H->SqL K H a (ns.map V.int)->sp [.ref a] H (fun v _=>v=.bl true) fun _ _ _=>False)
    (hCX:∀ H e s',CX [] H s₁ (fun _ _ _=>False) e s'->False) :
    codeAny (model P w) callerA (.call (.ref fa) ⟨[.ref a],[]⟩) (fun r s'=>r=.ok (.ret (.bool true))/\OldK s₁.heap s'.heap/\s'.os=s₁.os/\AllBare s'.gens) s₁:=by
  have rv:=zU hi
  have lenV:=hi.length
  have core:∀ H:Hp,Qek H->SqL K H a (ns.map V.int)->HOk P w H s₁.heap->(∀ b,H b≠none->b=a)->(H a≠none->K.lookup a=none) ->
      codeAny (model P w) callerA (.call (.ref fa) ⟨[.ref a],[]⟩) (fun r s'=>r=.ok (.ret (.bool true))/\OldK s₁.heap s'.heap/\s'.os=s₁.os/\AllBare s'.gens) s₁:=by
    intro H hO hS hok hA hK
    have base_of:∀ {b:Addr} {o:Obj},s₁.heap.get? b=some o->H b=none->(Kw s₁.heap H).get? b=some o:=fun e n=>Qa8 e n
    have noA:∀ {b:Addr} {o:Obj} {es:Array DictEntry} {ep:Nat},s₁.heap.get? b=some o->o.data=.dict es ep->H b=none:=fun {b o es ep} e d=>by
      cases q:H b with
      | none=>rfl
      | some u =>
        have e':b=a:=hA b (by rw [q];simp)
        subst e'
        rw [ha] at e;cases e
        have d':Data.seq vs.toArray _=Data.dict es ep:=d
        cases d'
    have nsK:∀ {b:Addr} {m:Str->Option Value},s₁.heap.Ns b m->(Kw s₁.heap H).Ns b m:=fun {b m} ⟨o,es,ep,e,d,r⟩=>⟨o,es,ep,base_of e (noA e d),d,r⟩
    have hKb:K.In (Kw s₁.heap H):=fun b o e=>base_of (KX b o e) (by
      cases q:H b with
      | none=>rfl
      | some u =>
        have e':b=a:=hA b (by rw [q];simp)
        subst e'
        rw [hK (by rw [q];simp)] at e;cases e)
    have hM:Mod K mg (Kw s₁.heap H):=⟨hKb,nsK hns,⟨mb,nsK hb,hbb⟩,let ⟨mc,h1,h2⟩:=hlim;⟨mc,nsK h1,h2⟩⟩
    have e0:Env0 P w K mg (Kw s₁.heap H) callerA [] s₁ H:=⟨rfl,hM,fun b o e=>Qc1 e,Nat.le_of_eq (kM _ _),trivial,fun b hb=>absurd (show b∈([]:List Addr) from hb) (by simp),hok,.of_eq hg⟩
    refine codeAny_mono ((F _ hKb (nsK hns)).run callerA [] s₁ H ⟨[.ref a],[]⟩ [.ref a] [.ref a] _ _ hr e0 (hbind s₁ (.ref a)) (.cons rfl .nil) (hsp H hO hS)) fun r s' h=>?_
    cases r with
    | error e=>exact (hCX H e s' h).elim
    | ok fl =>
      cases fl with
      | next=>exact False.elim h
      | brk=>exact False.elim h
      | cont=>exact False.elim h
      | ret u =>
        obtain ⟨v,H',os,bare,un,hok',r',q⟩:=h
        have q':v=.bl true:=q
        subst q'
        obtain rfl:u=Value.bool true:=r'
        refine ⟨rfl,OldK.of_keep fun b o e=>?_,os,bare⟩
        cases q:H b with
        | none=>exact un.keep b o e q (by intro z;exact absurd (show b∈([]:List Addr) from z) (by simp)) (by simp)
        | some u =>
          rcases hO b with z | ⟨ob,xs,z⟩
          . rw [q] at z;cases z
          . have z2:=un.frzs b ob _ z
            obtain ⟨e1,_⟩:=hok b _ z
            obtain ⟨e2,_⟩:=hok' b _ z2
            rw [e] at e1;cases e1
            exact e2
  cases hk:K.lookup a with
  | some o =>
    have e:=KX a o hk
    rw [ha] at e
    cases e
    refine core (fun _=>none) (fun _=>.inl rfl) (.inr ⟨_,vs.toArray,_,hk,rfl,rfl,rfl,by rw [List.size_toArray,lenV];exact hl,by simpa using rv⟩) (fun b u z=>by have z':(none:Option HO)=some u:=z;cases z') (fun b z=>absurd rfl z) fun z=>absurd rfl z
  | none =>
    refine core (fun b=>if b=a then some (.frz { cls:=.type "list", data:=.seq vs.toArray } (.lst (ns.map V.int))) else none) (fun b=>?_) (.inl (.inr ⟨{ cls:=.type "list", data:=.seq vs.toArray },if_pos rfl⟩)) (fun b u z=>?_) (fun b z=>?_) fun _=>hk
    . by_cases hb:b=a
      . exact .inr ⟨_,_,if_pos hb⟩
      . exact .inl (if_neg hb)
    . by_cases hb:b=a
      . have z':=(if_pos hb).symm.trans z
        cases z'
        subst hb
        exact ⟨ha,by rw [List.length_map];exact hl,vs,_,rv,ha⟩
      . have z':=(if_neg hb).symm.trans z
        cases z'
    . by_cases hb:b=a
      . exact hb
      . exact absurd (if_neg hb) z
end L2
namespace L2
open PySem PySem.Spec PyProof.Rows
end L2
/- THE LAST THEOREM (shape; LID, My.* are yours):
   My.Adr: a structure of the addresses that your layer names (classes,functions);My.Txt K t: a structure (Prop) of the equations over K;
   My.txt_mk:{K} {implicit addresses ..} (e1:nsIn K mainGlobals "law" = some (some (.ref f))) (e2:K.lookup f=some ⟨oc,od,.func (fnOf "law" "law" params body scope dV kV doc pm an cdv ct),sl⟩) (e3:codeIn K cdv "law" = true) ..:∃ t,My.Txt K t
set_option maxRecDepth 100000 in
set_option maxHeartbeats 0 in
theorem PySem.Challenge.cw_LID_holds : PySem.Challenge.rw_LID.Holds := by
 w_on;o_law;k_head;(case hw=>w_witness2)
 k_fill
 refine L2.walk_of (l:=PySem.Challenge.rw_LID) (n:=63) (k:=40) (x := "script") (CX:=fun w=>..) (sp:=fun _=>My.sp_law) rfl (by decide) rfl ⟨rfl,by decide,by decide⟩ (fun w h Y=>PySem.W.kIn_of Y) ?F ?S ?C
 case F =>
  intro w mg fa h KX G hmg
  have T:∃ t,My.Txt (L2.KOf KX) t:=by
   dsimp only [L2.KOf]                          -- K must stand as «<heap const> w.params» for k_is
   refine' My.txt_mk ?e1 ?e2 ?e3 ..
   (case e1=>PySem.W.k_is)                    -- in the order: a name->its address->its object->its parts
   (case e2=>PySem.W.k_is)
   ..
  obtain ⟨t,T⟩:=T
  have e0:=hmg.symm.trans (PySem.W.mg_of KX G T.law)
  cases e0                                       -- fa is the law's own address
  exact ⟨_,fun s u=>.of_eq rfl,fun base kb nb=>My.law_fn T kb nb⟩     -- if «.of_eq rfl» comes too early: refine' ⟨_,?b,fun base kb nb=>My.law_fn T kb nb⟩;exact fun s u=>.of_eq rfl
 case S=>exact fun w H a ns hl hO hS=>..
 case C=>exact ..
(the tactic k_is has no namespace: write k_is) -/
namespace L2
open PySem PySem.Spec PyProof.Rows
def Q9 (s:Stmt) (j:Nat):Stmt:=match s with
 | .ClassDef _ _ _ body _ _ _ _ _ _ _=>body.getD j (.Pass ⟨0,0,0,0⟩)
 | _=>.Pass ⟨0,0,0,0⟩
def JI (s:Stmt):Arguments:=match s with
 | .FunctionDef _ a _ _ _ _ _ _ _ _=>a
 | _=>{ posonlyargs:=[],args:=[],vararg:=none,kwonlyargs:=[],kw_defaults:=[],kwarg:=none,defaults:=[] }
def ZH (s:Stmt):List Stmt:=match s with
 | .FunctionDef _ _ b _ _ _ _ _ _ _=>b
 | _=>[]
def Qo (s:Stmt):Scope:=match s with
 | .FunctionDef _ _ _ _ _ _ sc _ _ _=>sc
 | _=>{ kind:=.function,names:=[],isGenerator:=false,isCoroutine:=false }
abbrev CX0:CXT:=fun _ _ _ _ _ _=>False
abbrev E0:XK:=fun _ _ _=>False
theorem Qz {X:Cx}:YN CX0 X E0:=fun _ _ _ _ _ _ _ h=>h.elim
structure Fun (K:PySem.W.Frag) (x qual:Str) (st:Stmt) (f:Addr) (fd:FuncData):Prop where
 ex:∃ (oc:Value) (od:Option Addr) (kV doc pm:Value) (an:Option Addr) (cdv ct:Value) (osl:Array (Option Value)),
  fd=PySem.W.fnOf x qual (JI st) (ZH st) (Qo st) .none kV doc pm an cdv ct/\K.lookup f=some ⟨oc,od,.func fd,osl⟩/\PySem.W.codeIn K cdv qual=true
 kp:PySem.W.keepIn K (.ref f)=true
section
variable {P:Program} {w:World} {K:PySem.W.Frag} {mg:Str->Option Value} {base:Heap}
theorem Fun.ok {x qual:Str} {st:Stmt} {f:Addr} {fd:FuncData} {N ps:List Str} {k:Nat} {sp:Sp} (F:Fun K x qual st f fd) (S:Qt N ps (Qo st)) (len:∀ vs H Q E,sp vs H Q E->vs.length=ps.length)
  (hbody:∀ (cdv:Value) (A:Around) (outer:List Env) (s:Shared) (H:Hp) (vs:List V) (Q:VK) (E:XK),Room k (A.deeper (envOfC qual (Qo st) s.heap.objs.size f cdv))->sp vs H Q E ->
   ∃ t,PSs (yO CX0 P w K mg base N qual (Qo st) f cdv A outer s H E).nox (ZH st) t/\t { nx:=fun _ H'=>Q .non H',rt:=Q } (start N vs) H):qX P w K mg base CX0 (k+1) f fd ps sp:=by
 obtain ⟨oc,od,kV,doc,pm,an,cdv,ct,osl,rfl,lk,hcd⟩:=F.ex
 refine Qgc lk hcd S len fun A outer s H vs Q E hr hsp=>?_
 obtain ⟨t,h,q⟩:=hbody cdv A outer s H vs Q E hr hsp
 exact ⟨t,h.nox,q⟩
theorem Fun.binds {x qual:Str} {st:Stmt} {f:Addr} {fd:FuncData} {ps:List Str} (F:Fun K x qual st f fd)
  (h:∀ (kV doc pm:Value) (an:Option Addr) (cdv ct:Value) (us:List Value),us.length=ps.length->bindArgs (PySem.W.fnOf x qual (JI st) (ZH st) (Qo st) .none kV doc pm an cdv ct) ⟨us,[]⟩=pure (ps.zip us)):Binds K fd ps []:=by
 obtain ⟨oc,od,kV,doc,pm,an,cdv,ct,osl,rfl,lk,hcd⟩:=F.ex
 exact .all (h kV doc pm an cdv ct)
theorem Kt {x qual:Str} {st:Stmt} {f:Addr} {oc:Value} {od an:Option Addr} {osl:Array (Option Value)} {kV doc pm cdv ct:Value} (l:K.lookup f=some ⟨oc,od,.func (PySem.W.fnOf x qual (JI st) (ZH st) (Qo st) .none kV doc pm an cdv ct),osl⟩)
  (c:PySem.W.codeIn K cdv qual=true) (k:PySem.W.keepIn K (.ref f)=true):Fun K x qual st f (PySem.W.fnOf x qual (JI st) (ZH st) (Qo st) .none kV doc pm an cdv ct):=⟨⟨oc,od,kV,doc,pm,an,cdv,ct,osl,rfl,l,c⟩,k⟩
end
theorem Q4 {A:Around} {k:Nat} (hr:Room k A):A.units+1 < cLine:=Nat.lt_of_le_of_lt (Nat.add_le_add_left (by decide:1<=64) _) hr.units
section
variable {X:Cx}
end
theorem Gy {A B:Prop} (h:B):if false=true then A else B:=by
 rw [if_neg Bool.false_ne_true]
 exact h
theorem Gz {A B:Prop} (h:A):if true=true then A else B:=by
 rw [if_pos rfl]
 exact h
end L2
set_option maxHeartbeats 4000000
namespace L2
open PySem PySem.Spec PyProof.Rows
section
variable {κ:Type} [DecidableEq κ]
def qU (kvs:List (κ×V)) (k:κ):Option V:=(kvs.find? fun kv=>decide (kv.1=k)).map (·.2)
def xg (kvs:List (κ×V)) (k:κ) (v:V):List (κ×V) :=
 if (kvs.any fun kv=>decide (kv.1=k))=true then kvs.map (fun kv=>if kv.1=k then (kv.1,v) else kv) else kvs++[(k,v)]
theorem VY {p:κ×V} {r:List (κ×V)} {k:κ} (e:p.1=k):qU (p::r) k=some p.2:=by simp [qU,List.find?_cons,e]
theorem VX {p:κ×V} {r:List (κ×V)} {k:κ} (e:¬ p.1=k):qU (p::r) k=qU r k:=by simp [qU,List.find?_cons,e]
theorem G8 (k:κ):∀ kvs:List (κ×V),(kvs.any fun kv=>decide (kv.1=k))=(qU kvs k).isSome
  | []=>rfl
  | p::r=>by
    rw [List.any_cons]
    by_cases e:p.1=k
    . simp only [VY e,decide_eq_true e,Bool.true_or,Option.isSome_some]
    . rw [VX e,decide_eq_false e,Bool.false_or];exact G8 k r
theorem yp (kvs:List (κ×V)) (k:κ) (v:V):(xg kvs k v).length<=kvs.length+1:=by
 unfold xg
 split
 ·rw [List.length_map];omega
 ·rw [List.length_append,List.length_cons,List.length_nil];omega
theorem RelO.isSome_eq {o:Option V} {u:Option Value} (r:RelO o u):o.isSome=u.isSome:=by
  cases o with
  | none=>cases u with
    | none=>rfl
    | some _=>exact (show False from r).elim
  | some _=>cases u with
    | none=>exact (show False from r).elim
    | some _=>rfl
theorem RelO.getD {o:Option V} {u:Option Value} {d:V} {d':Value} (r:RelO o u) (rd:RelV d d'):RelV (o.getD d) (u.getD d'):=by
  cases o with
  | none=>cases u with
    | none=>exact rd
    | some _=>exact (show False from r).elim
  | some _=>cases u with
    | none=>exact (show False from r).elim
    | some _=>exact r
theorem KV.val {kvs:List (κ×V)} {vs:List (κ×Value)} (r:KV kvs vs) (k:κ):RelO (qU kvs k) (valueAt vs k):=by
  unfold KV at r
  induction r with
  | nil=>exact True.intro
  | @cons p q ps qs h t ih =>
    obtain ⟨h1,h2⟩:=h
    by_cases e:p.1=k
    . have e':q.1=k:=h1.symm.trans e
      have b:valueAt (q::qs) k=some q.2:=by simp [valueAt,List.find?_cons,e']
      rw [VY e,b];exact h2
    . have e':¬ q.1=k:=fun z=>e (h1.trans z)
      have b:valueAt (q::qs) k=valueAt qs k:=by simp [valueAt,List.find?_cons,e']
      rw [VX e,b];exact ih
theorem KV.any {kvs:List (κ×V)} {vs:List (κ×Value)} (r:KV kvs vs) (k:κ):(kvs.any fun kv=>decide (kv.1=k))=vs.any fun kv=>decide (kv.1=k):=by
 unfold KV at r
 induction r with
 | nil=>rfl
 | cons h t ih=>rw [List.any_cons,List.any_cons,ih,h.1]
theorem KV.repl {kvs:List (κ×V)} {vs:List (κ×Value)} (r:KV kvs vs) (k:κ) {y:V} {u:Value} (ry:RelV y u) :
    KV (kvs.map fun kv=>if kv.1=k then (kv.1,y) else kv) (vs.map fun kv=>if kv.1=k then (kv.1,u) else kv):=by
  unfold KV at r ⊢
  induction r with
  | nil=>exact .nil
  | @cons p q ps qs h t ih =>
    rw [List.map_cons,List.map_cons]
    refine .cons ?_ ih
    obtain ⟨h1,h2⟩:=h
    by_cases e:p.1=k
    . rw [if_pos e,if_pos (h1.symm.trans e)];exact ⟨h1,ry⟩
    . rw [if_neg e,if_neg (fun z=>e (h1.trans z))];exact ⟨h1,h2⟩
theorem KV.put {kvs:List (κ×V)} {vs:List (κ×Value)} (r:KV kvs vs) (k:κ) {y:V} {u:Value} (ry:RelV y u):KV (xg kvs k y) (stored vs k u):=by
 unfold xg stored
 rw [r.any k]
 by_cases e:(vs.any fun kv=>decide (kv.1=k))=true
 ·rw [if_pos e,if_pos e];exact r.repl k ry
 ·rw [if_neg e,if_neg e];exact Paired.snoc r ⟨rfl,ry⟩
theorem KV.length {kvs:List (κ×V)} {vs:List (κ×Value)} (r:KV kvs vs):kvs.length=vs.length:=Paired.length r
end
theorem GA {P:Program} {w:World} {k:Key} {u:Value} (r:RelV (kV k) u):(Z9 P w).is k u=true:=by
 cases k with
 | inl i=>obtain ⟨t,e⟩:=(show ∃ t,u=Value.int i t from r);subst e;exact GD P w i t
 | inr x=>obtain ⟨t,e⟩:=(show ∃ t,u=Value.str x t from r);subst e;exact GE P w x t
theorem UH {P:Program} {w:World}:∀ {ks:List Key} {us:List Value},Vals (ks.map kV) us->ItemsAre (Z9 P w) ks us
  | [],_,r=>by rw [List.map_nil] at r;cases r;exact .nil
  | k::ks,_,r=>by
    rw [List.map_cons] at r
    cases r with
    | cons h t=>exact .cons (GA h) (UH t)
abbrev KT (H:Hp):List (List Key×V)->List (List Key×Addr×Value)->Prop:=Paired fun p q=>p.1=q.1/\H q.2.1=some (.tup (p.1.map kV))/\RelV p.2 q.2.2
theorem KT.val {H:Hp} {kvs:List (List Key×V)} {xs:List (List Key×Addr×Value)} (r:KT H kvs xs) (k:List Key):RelO (qU kvs k) ((atKey xs k).map (·.2)):=by
  induction r with
  | nil=>exact True.intro
  | @cons p q ps qs h t ih =>
    obtain ⟨h1,_,h2⟩:=h
    by_cases e:p.1=k
    . have e':q.1=k:=h1.symm.trans e
      have b:atKey (q::qs) k=some q.2:=by simp [atKey,List.find?_cons,e']
      rw [VY e,b];exact h2
    . have e':¬ q.1=k:=fun z=>e (h1.trans z)
      have b:atKey (q::qs) k=atKey qs k:=by simp [atKey,List.find?_cons,e']
      rw [VX e,b];exact ih
theorem KT.repl {H:Hp} {kvs:List (List Key×V)} {xs:List (List Key×Addr×Value)} (r:KT H kvs xs) (k:List Key) {y:V} {u:Value} (ry:RelV y u) :
    KT H (kvs.map fun kv=>if kv.1=k then (kv.1,y) else kv) (xs.map (putAt k u)):=by
  induction r with
  | nil=>exact .nil
  | @cons p q ps qs h t ih =>
    rw [List.map_cons,List.map_cons]
    refine .cons ?_ ih
    obtain ⟨h1,h2,h3⟩:=h
    unfold putAt
    by_cases e:p.1=k
    . rw [if_pos e,if_pos (h1.symm.trans e)];exact ⟨h1,h2,ry⟩
    . rw [if_neg e,if_neg (fun z=>e (h1.trans z))];exact ⟨h1,h2,h3⟩
theorem KT.put {H:Hp} {kvs:List (List Key×V)} {xs:List (List Key×Addr×Value)} (r:KT H kvs xs) (k:List Key) {b:Addr} {y:V} {u:Value} (hb:H b=some (.tup (k.map kV))) (ry:RelV y u) :
  KT H (xg kvs k y) (storedH xs k b u):=by
 have e:(kvs.any fun kv=>decide (kv.1=k))=(atKey xs k).isSome:=by
  rw [G8,(r.val k).isSome_eq,Option.isSome_map]
 unfold xg storedH
 rw [e]
 by_cases q:(atKey xs k).isSome=true
 ·rw [if_pos q,if_pos q];exact r.repl k ry
 ·rw [if_neg q,if_neg q];exact Paired.snoc r ⟨rfl,hb,ry⟩
theorem KT.keeps {H H':Hp} {kvs:List (List Key×V)} {xs:List (List Key×Addr×Value)} (r:KT H kvs xs) (ht:∀ b ys,H b=some (.tup ys)->H' b=some (.tup ys)):KT H' kvs xs :=
 Paired.mapP r fun _ _ z=>⟨z.1,ht _ _ z.2.1,z.2.2⟩
section
variable {P:Program} {w:World} {H:Hp} {h:Heap} {a:Addr}
theorem Qed {u:HO} (ok:HOk P w H h) (e:Rd H a u):ObjOk P w H h a u:=e.ok ok
theorem Uy {kvs:List (Key×V)} (ok:HOk P w H h) (e:Rd H a (.dK kvs)):kvs.length<=sizeLine/\(a==sysModules)=false/\∃ vs,KV kvs vs/\h.DictOf (Z9 P w) a vs :=
 show ObjOk P w H h a (.dK kvs) from Qed ok e
theorem Qf8 {kvs:List (Key×V)} (ok:HOk P w H h) (e:H a=some (.dK kvs)):kvs.length<=sizeLine/\(a==sysModules)=false/\∃ vs,KV kvs vs/\h.DictOf (Z9 P w) a vs:=Uy ok (.inl e)
theorem Vl {ks:List Key} (ok:HOk P w H h) (e:H a=some (.tup (ks.map kV))):(tupleKind (Z9 P w)).is h ks a:=by
 obtain ⟨_,its,r,o,h1,h2,n,h3⟩:=(show ObjOk P w H h a (.tup (ks.map kV)) from ok a _ e)
 exact ⟨o,its.toArray,n,h1,h2,h3,by simpa using UH r⟩
theorem Gh {kvs:List (List Key×V)} (ok:HOk P w H h) (e:Rd H a (.dT kvs)):kvs.length<=sizeLine/\(a==sysModules)=false /\
    ∃ xs,KT H kvs xs/\h.DictOfH (tupleKind (Z9 P w)) a xs:=by
  obtain ⟨z,y,xs,r,o,es,ep,h1,h2,h3,h4,h5⟩:=(show ObjOk P w H h a (.dT kvs) from Qed ok e)
  refine ⟨z,y,xs,r,o,es,ep,h1,h2,h3,h4,fun x hx=>?_,h5⟩
  have all:∀ {l:List (List Key×V)} {m:List (List Key×Addr×Value)},KT H l m->∀ x∈m,(tupleKind (Z9 P w)).is h x.1 x.2.1:=by
    intro l m q
    induction q with
    | nil=>intro x hx;exact nomatch hx
    | @cons p q ps qs hq t ih =>
      intro x hx
      rcases List.mem_cons.mp hx with e | hx
      . subst e
        exact Vl ok (by rw [<- hq.1];exact hq.2.1)
      . exact ih x hx
  exact all r x hx
theorem Xh {kvs:List (List Key×V)} (ok:HOk P w H h) (e:H a=some (.dT kvs)):kvs.length<=sizeLine/\(a==sysModules)=false /\
  ∃ xs,KT H kvs xs/\h.DictOfH (tupleKind (Z9 P w)) a xs:=Gh ok (.inl e)
end
def DGet (H:Hp) (a:Addr) (y:V) (r:Option V):Prop :=
 (∃ kvs k,Rd H a (.dK kvs)/\y=kV k/\r=qU kvs k)∨∃ kvs k b,Rd H a (.dT kvs)/\y=.ref b/\H b=some (.tup (k.map kV))/\r=qU kvs k
def DPut (H:Hp) (a:Addr) (y v:V) (H':Hp):Prop :=
 (∃ kvs k,H a=some (.dK kvs)/\y=kV k/\kvs.length < sizeLine/\H'=upd H a (.dK (xg kvs k v))) ∨
 ∃ kvs k b,H a=some (.dT kvs)/\y=.ref b/\H b=some (.tup (k.map kV))/\kvs.length < sizeLine/\H'=upd H a (.dT (xg kvs k v))
theorem DGet.k {H:Hp} {a:Addr} {kvs:List (Key×V)} {k:Key} (e:H a=some (.dK kvs)):DGet H a (kV k) (qU kvs k):=.inl ⟨kvs,k,.inl e,rfl,rfl⟩
theorem DPut.k {H:Hp} {a:Addr} {kvs:List (Key×V)} {k:Key} {v:V} (e:H a=some (.dK kvs)) (hl:kvs.length < sizeLine):DPut H a (kV k) v (upd H a (.dK (xg kvs k v))):=.inl ⟨kvs,k,e,rfl,hl,rfl⟩
section
variable {X:Cx} {pins:List (Addr×Obj)} {σ:St} {H:Hp} {s:Shared} {a:Addr} {y v:V} {u r:Value} {o:Option V} {A:Around} {E:Value->Shared->Prop}
theorem Inv.big (I:Inv X pins σ H s):sysModules < s.heap.objs.size:=by
 have h:mainGlobals < s.heap.objs.size:=(I.mod.glob.keeps I.bk).lt
 exact Nat.lt_trans (by decide) h
theorem kD {Q:Value->Shared->Prop} (hu:A.units+1 < cLine) (I:Inv X pins σ H s) (g:DGet H a y (some v)) (ry:RelV y u) (h:∀ w' s',Inv X pins σ H s'->RelV v w'->Q w' s') :
  wpAny (model X.prog X.w) A (getItem (.ref a) u) Q E s:=by
 rcases g with ⟨kvs,k,e,ey,l⟩ | ⟨kvs,k,b,e,ey,eb,l⟩
 ·subst ey
  obtain ⟨z,hd,vs,rel,dd⟩:=Uy I.hok e
  obtain ⟨w',hw,rw'⟩:=RelO.some_of (v:=v) (o:=valueAt vs k) (by rw [l];exact rel.val k)
  exact wpAny_getItem_of (GA ry) dd.mapOf hw (h w' _ (I.tok _) rw')
 ·subst ey
  cases (show u=Value.ref b from ry)
  obtain ⟨z,hd,xs,rel,dd⟩:=Gh I.hok e
  obtain ⟨w',hw,rw'⟩:=RelO.some_of (v:=v) (o:=(atKey xs k).map (·.2)) (by rw [l];exact rel.val k)
  obtain ⟨p,hp,hp2⟩:=Option.map_eq_some_iff.mp hw
  refine wpAny_getItem_heap (tupleKind_room_in1 hu) (Vl I.hok eb) dd hp ?_
  rw [hp2]
  exact h w' _ (I.tok _) rw'
theorem uC {h':Heap} {t':Nat} {ob:HO} (I:Inv X pins σ H s) (mu:Mut (H a)) (hs:Heap.SameBut a s.heap h') (he:∃ q,h'.get? a=some q) (new:ObjOk X.prog X.w (upd H a ob) h' a ob) :
  Inv X pins σ (upd H a ob) { s with heap:=h',toks:=t' } :=
 I.write (x:=a) (e:=a) mu (.inl rfl) (fun b q hb z=>(hs.2 b hb).trans z) he new
theorem Qex {P:Program} {w:World} {H':Hp} {h':Heap} {kvs:List (Key×V)} {vs:List (Key×Value)} (z:kvs.length<=sizeLine) (hd:(a==sysModules)=false) (rel:KV kvs vs) (dd:h'.DictOf (Z9 P w) a vs) :
  ObjOk P w H' h' a (.dK kvs):=⟨z,hd,vs,rel,dd⟩
theorem kE {H':Hp} {Q:Unit->Shared->Prop} (hu:A.units+1 < cLine) (I:Inv X pins σ H s) (g:DPut H a y v H') (ry:RelV y u) (rv:RelV v r) (h:∀ s',Inv X pins σ H' s'->Q () s') :
  wpAny (model X.prog X.w) A (setItem (.ref a) u r) Q E s:=by
 rcases g with ⟨kvs,k,e,ey,l,eH⟩ | ⟨kvs,k,b,e,ey,eb,l,eH⟩
 ·subst ey eH
  obtain ⟨z,hd,vs,rel,dd⟩:=Qf8 I.hok e
  have hz:vs.length<=sizeLine:=by rw [<- rel.length];exact z
  have hl:(xg kvs k v).length<=sizeLine:=by have:=yp kvs k v;omega
  refine wpAny_setItem_pairs (hsz:=hz) (GA ry) dd fun h' dd' hs=>h _ ?_
  have he:∃ q,h'.get? a=some q:=let ⟨q,_,_,hq,_⟩:=dd';⟨q,hq⟩
  exact uC I (by rw [e];exact True.intro) hs he (Qex hl hd (rel.put k rv) dd')
 ·subst ey eH
  cases (show u=Value.ref b from ry)
  obtain ⟨z,hd,xs,rel,dd⟩:=Xh I.hok e
  have hz:xs.length<=sizeLine:=by rw [<- Paired.length rel];exact z
  have hl:(xg kvs k v).length<=sizeLine:=by have:=yp kvs k v;omega
  refine wpAny_setItem_heap (hsz:=hz) (tupleKind_room_in1 hu) (Vl I.hok eb) dd fun h' dd' hs=>h _ ?_
  obtain ⟨q,es,ep,hq,h2,h3,h4,_,h5⟩:=dd'
  refine uC I (by rw [e];exact True.intro) hs ⟨q,hq⟩ ⟨hl,hd,_,(rel.put k eb rv).keeps fun c ys ec=>?_,q,es,ep,hq,h2,h3,h4,h5⟩
  rw [Q0 (Qgm ec e (fun z=>nomatch z))]
  exact ec
end
section
variable {X:Cx} {pins:List (Addr×Obj)} {σ:St} {H:Hp} {s:Shared} {a:Addr} {kvs:List (Key×V)} {k:Key} {u:Value} {A:Around} {E:Value->Shared->Prop}
theorem Qf7 {Q:Value->Shared->Prop} (I:Inv X pins σ H s) (e:Rd H a (.dK kvs)) (h:∀ t s',Inv X pins σ H s'->Q (.int kvs.length t) s'):wpAny (model X.prog X.w) A (call (.builtin "len") [.ref a]) Q E s:=by
 obtain ⟨z,hd,vs,rel,dd⟩:=Uy I.hok e
 refine call_len_dict hd dd (by rw [<- rel.length];rw [sizeLine_eq] at z;omega) ?_
 rw [<- rel.length]
 exact h _ _ (I.tok _)
end
theorem Gf {X:Cx} {pins:List (Addr×Obj)} {σ:St} {H:Hp} {s:Shared} {a:Addr} {y:V} {o:Option V} (I:Inv X pins σ H s) (g:DGet H a y o):s.TypeIs (.ref a) "dict" := by
 rcases g with ⟨kvs,k,e,_,_⟩ | ⟨kvs,k,b,e,_,_,_⟩
 ·obtain ⟨_,_,vs,_,dd⟩:=Uy I.hok e
  exact dd.typeIs
 ·obtain ⟨_,_,xs,_,dd⟩:=Gh I.hok e
  exact dd.typeIs
section
variable {X:Cx} {o i e value:Expr} {pos pos' tpos:Pos} {td ty tv:TE}
end
theorem QaN {P:Program} {w:World} {H:Hp} (h:Heap) (hb:sysModules < h.objs.size):ObjOk P w H (h.push { cls:=.type "dict", data:=.dict #[] }) h.objs.size (.dK []) :=
 ⟨Nat.zero_le _,beq_eq_false_iff_ne.mpr (Ne.symm (Nat.ne_of_lt hb)),[],.nil,Heap.DictOf.new h⟩
section
variable {X:Cx} {pos:Pos}
end
structure M1 (X:Cx) (o:Expr) (m:Str) (apos:Pos) (e:Expr) (cpos:Pos):Prop where
 base:attributeBase o m X.env (eval o X.env)=eval o X.env
 few:((backTo cpos (starEach [e] X.env)).all (fun x=>!x.1)&&(backToKw cpos (keywordEach [] X.env)).all (fun x=>x.1.isSome)
  && decide (([e]:List Expr).length+([]:List Keyword).length+(if ([]:List Keyword).isEmpty then 0 else 1) < 30))=true
 line:(apos.endLine==cpos.line)=true
 trees:backTo cpos (starEach [e] X.env)=[(false,eval e X.env)]
structure M2 (X:Cx) (o:Expr) (m:Str) (apos:Pos) (e f:Expr) (cpos:Pos):Prop where
 base:attributeBase o m X.env (eval o X.env)=eval o X.env
 few:((backTo cpos (starEach [e,f] X.env)).all (fun x=>!x.1)&&(backToKw cpos (keywordEach [] X.env)).all (fun x=>x.1.isSome)
  && decide (([e,f]:List Expr).length+([]:List Keyword).length+(if ([]:List Keyword).isEmpty then 0 else 1) < 30))=true
 line:(apos.endLine==cpos.line)=true
 trees:backTo cpos (starEach [e,f] X.env)=[(false,eval e X.env),(false,eval f X.env)]
section
variable {X:Cx} {pins:List (Addr×Obj)} {σ:St} {H:Hp} {s:Shared} {a:Addr} {y d:V} {u r:Value} {o:Option V} {A:Around} {E:Value->Shared->Prop}
theorem Qer {Q:Value->Shared->Prop} (hu:A.units+1 < cLine) (I:Inv X pins σ H s) (g:DGet H a y o) (ry:RelV y u) (h:∀ w' s',Inv X pins σ H s'->RelV (o.getD .non) w'->Q w' s') :
  wpAny (model X.prog X.w) A (call (.builtin "dict.get") [.ref a,u]) Q E s:=by
 rcases g with ⟨kvs,k,e,ey,l⟩ | ⟨kvs,k,b,e,ey,eb,l⟩
 ·subst ey
  obtain ⟨z,hd,vs,rel,dd⟩:=Uy I.hok e
  refine call_meetsIn PySem.F.slot_dict_get dd.typeIs PySem.F.entry_dict_get (PySem.F.args_dict_get_2 _ _) (meets_dict_get (Z9 X.prog X.w) a (GA ry) hd) ⟨_,dd.mapOf,h _ _ (I.tok _) ?_⟩
  rw [l]
  exact (rel.val k).getD rfl
 ·subst ey
  cases (show u=Value.ref b from ry)
  obtain ⟨z,hd,xs,rel,dd⟩:=Gh I.hok e
  refine call_meetsIn PySem.F.slot_dict_get dd.typeIs PySem.F.entry_dict_get (PySem.F.args_dict_get_2 _ _) (meetsH_dict_get (tupleKind (Z9 X.prog X.w)) a b hd) ⟨tupleKind_room_in1 hu,k,xs,Vl I.hok eb,dd,h _ _ (I.tok _) ?_⟩
  rw [l]
  exact (rel.val k).getD rfl
theorem Qes {Q:Value->Shared->Prop} (hu:A.units+1 < cLine) (I:Inv X pins σ H s) (g:DGet H a y o) (ry:RelV y u) (rd:RelV d r) (h:∀ w' s',Inv X pins σ H s'->RelV (o.getD d) w'->Q w' s') :
  wpAny (model X.prog X.w) A (call (.builtin "dict.get") [.ref a,u,r]) Q E s:=by
 rcases g with ⟨kvs,k,e,ey,l⟩ | ⟨kvs,k,b,e,ey,eb,l⟩
 ·subst ey
  obtain ⟨z,hd,vs,rel,dd⟩:=Uy I.hok e
  refine call_meetsIn PySem.F.slot_dict_get dd.typeIs PySem.F.entry_dict_get (PySem.F.args_dict_get_3 _ _ _) (meets_dict_get_default (Z9 X.prog X.w) a (GA ry) hd r) ⟨_,dd.mapOf,h _ _ (I.tok _) ?_⟩
  rw [l]
  exact (rel.val k).getD rd
 ·subst ey
  cases (show u=Value.ref b from ry)
  obtain ⟨z,hd,xs,rel,dd⟩:=Gh I.hok e
  refine call_meetsIn PySem.F.slot_dict_get dd.typeIs PySem.F.entry_dict_get (PySem.F.args_dict_get_3 _ _ _) (meetsH_dict_get_default (tupleKind (Z9 X.prog X.w)) a b hd r) ⟨tupleKind_room_in1 hu,k,xs,Vl I.hok eb,dd,h _ _ (I.tok _) ?_⟩
  rw [l]
  exact (rel.val k).getD rd
end
section
variable {X:Cx} {o e f:Expr} {apos cpos:Pos} {td ty tx:TE}
end
section
variable {X:Cx} {pins:List (Addr×Obj)} {σ:St} {H:Hp} {s:Shared} {a:Addr} {kvs:List (Key×V)} {A:Around} {E:Value->Shared->Prop}
end
section
variable {X:Cx} {pins:List (Addr×Obj)} {σ:St} {H:Hp} {s:Shared} {a:Addr} {y:V} {u:Value} {A:Around} {E:Value->Shared->Prop}
end
section
variable {X:Cx}
theorem kr:Xs X (.builtin "len") (fun xs H Q=>∃ a kvs,xs=[V.ref a]/\H a=some (.dK kvs)/\Q (.int kvs.length) H):=by
 intro pins s σ H xs us Q I r h
 obtain ⟨a,kvs,rfl,ha,q⟩:=h
 obtain ⟨u,rfl,ru⟩:=G9 r
 cases ru
 exact Qf7 I (.inl ha) fun t s' I'=>⟨.int kvs.length,H,I',⟨t,rfl⟩,q⟩
end
section
variable {κ:Type} [DecidableEq κ]
end
end L2
namespace D
open PySem PySem.Spec PyProof.Rows L2
abbrev St:=L2.St
inductive DV where
 | non | bl (b:Bool) | int (i:Int) | str (x:Str) | tup (xs:List DV) | lst (xs:List DV) | ref (i:Nat)
inductive OV where
 | lst (xs:List DV)
 | dic (kvs:List (Key×DV))
 | ins (c:Str) (fs:List (Str×DV))
abbrev Hs:=List OV
abbrev M:=StateT Hs Option
mutual
def RepV (K:PySem.W.Frag) (ρ:List Addr) (B:Addr->Prop) (H:Hp):DV->V->Prop
 | .non,v=>v=.non
 | .bl b,v=>v=.bl b
 | .int i,v=>v=.int i
 | .str x,v=>v=.str x
 | .tup ds,v=>∃ a xs,v=.ref a/\¬ B a/\SqT K H a xs/\RepL K ρ B H ds xs
 | .lst ds,v=>∃ a xs,v=.ref a/\¬ B a/\SqL K H a xs/\RepL K ρ B H ds xs
 | .ref i,v=>∃ a,v=.ref a/\ρ[i]?=some a
def RepL (K:PySem.W.Frag) (ρ:List Addr) (B:Addr->Prop) (H:Hp):List DV->List V->Prop
 | [],xs=>xs=[]
 | d::ds,xs=>∃ x r,xs=x::r/\RepV K ρ B H d x/\RepL K ρ B H ds r
end
def ORep (K:PySem.W.Frag) (ρ:List Addr) (B:Addr->Prop) (H:Hp) (a:Addr):OV->Prop
 | .lst ds=>∃ xs,H a=some (.lst xs)/\RepL K ρ B H ds xs
 | .dic kvs=>∃ xs:List (Key×V),H a=some (.dK xs)/\xs.map (·.1)=kvs.map (·.1)/\RepL K ρ B H (kvs.map (·.2)) (xs.map (·.2))
 | .ins c fs=>∃ (C dx:Addr) (xs:List (Str×V)),PySem.W.nsIn K mainGlobals c=some (some (.ref C))/\H a=some (.ins C dx xs)/\xs.map (·.1)=fs.map (·.1)/\RepL K ρ B H (fs.map (·.2)) (xs.map (·.2))
structure Gr (K:PySem.W.Frag) (ρ:List Addr) (B:Addr->Prop) (H:Hp) (ρ':List Addr) (B':Addr->Prop) (H':Hp):Prop where
 pre:ρ <+: ρ'
 ban:∀ a,B a->B' a
 new:∀ a,B' a->B a∨(H a=none/\K.lookup a=none)
 rnew:∀ a∈ρ',a∈ρ∨H a=none
 keep:∀ a o,a∉ρ->H a=some o->H' a=some o
 trk:∀ a,H' a=none->H a=none
structure WOk (K:PySem.W.Frag) (ρ:List Addr) (B:Addr->Prop) (hp:Hs) (H:Hp):Prop where
 len:ρ.length=hp.length
 nd:ρ.Nodup
 obj:∀ (i:Nat) (a:Addr) (o:OV),ρ[i]?=some a->hp[i]?=some o->ORep K ρ B H a o
 rb:∀ a∈ρ,B a
 bt:∀ a,B a->H a≠none
 bk:∀ a,B a->K.lookup a=none
section
variable {K:PySem.W.Frag} {ρ ρ' ρ'':List Addr} {B B' B'':Addr->Prop} {H H' H'':Hp}
theorem Gr.refl:Gr K ρ B H ρ B H:=⟨List.prefix_rfl,fun _ h=>h,fun _ h=>.inl h,fun _ h=>.inl h,fun _ _ _ h=>h,fun _ h=>h⟩
theorem Gr.trans (a:Gr K ρ B H ρ' B' H') (b:Gr K ρ' B' H' ρ'' B'' H''):Gr K ρ B H ρ'' B'' H'' where
 pre:=a.pre.trans b.pre
 ban:=fun x h=>b.ban x (a.ban x h)
 new:=fun x h=>(b.new x h).elim (a.new x) fun z=>.inr ⟨a.trk x z.1,z.2⟩
 rnew:=fun x h=>(b.rnew x h).elim (a.rnew x) fun z=>.inr (a.trk x z)
 keep:=fun x o hn h=>b.keep x o (fun z=>(a.rnew x z).elim hn (fun z=>by rw [h] at z;cases z)) (a.keep x o hn h)
 trk:=fun x h=>a.trk x (b.trk x h)
structure Gs (K:PySem.W.Frag) (ρ:List Addr) (B:Addr->Prop) (H:Hp) (ρ':List Addr) (B':Addr->Prop) (H':Hp):Prop where
 pre:ρ <+: ρ'
 new:∀ a,B' a->B a∨(H a=none/\K.lookup a=none)
 keep:∀ a o,¬ B a->H a=some o->H' a=some o
 trk:∀ a,H' a=none->H a=none
theorem Gr.gs (rb:∀ a∈ρ,B a) (g:Gr K ρ B H ρ' B' H'):Gs K ρ B H ρ' B' H':=⟨g.pre,g.new,fun a o nb h=>g.keep a o (fun z=>nb (rb a z)) h,g.trk⟩
theorem Gs.refl:Gs K ρ B H ρ B H:=⟨List.prefix_rfl,fun _ h=>.inl h,fun _ _ _ h=>h,fun _ h=>h⟩
theorem Gs.trans (a:Gs K ρ B H ρ' B' H') (b:Gs K ρ' B' H' ρ'' B'' H''):Gs K ρ B H ρ'' B'' H'' where
 pre:=a.pre.trans b.pre
 new:=fun x h=>(b.new x h).elim (a.new x) fun z=>.inr ⟨a.trk x z.1,z.2⟩
 keep:=fun x o nb h=>b.keep x o (fun z=>(a.new x z).elim nb fun q=>by rw [h] at q;cases q.1) (a.keep x o nb h)
 trk:=fun x h=>a.trk x (b.trk x h)
theorem SqT.trk {a:Addr} {xs:List V} (h:SqT K H a xs):H a≠none∨∃ o,K.lookup a=some o:=by
 rcases h with (h | ⟨o,h⟩) | ⟨o,_,_,h,_⟩
 ·exact .inl (by rw [h];simp)
 ·exact .inl (by rw [h];simp)
 ·exact .inr ⟨o,h⟩
theorem SqL.trk {a:Addr} {xs:List V} (h:SqL K H a xs):H a≠none∨∃ o,K.lookup a=some o:=by
 rcases h with (h | ⟨o,h⟩) | ⟨o,_,_,h,_⟩
 ·exact .inl (by rw [h];simp)
 ·exact .inl (by rw [h];simp)
 ·exact .inr ⟨o,h⟩
theorem Gs.ok {a:Addr} (g:Gs K ρ B H ρ' B' H') (hb:¬ B a) (t:H a≠none∨∃ o,K.lookup a=some o):¬ B' a:=fun z =>
 (g.new a z).elim hb fun ⟨n,k⟩=>t.elim (fun q=>q n) fun ⟨o,q⟩=>by rw [k] at q;cases q
theorem Gs.sqT {a:Addr} {xs:List V} (g:Gs K ρ B H ρ' B' H') (hr:¬ B a) (h:SqT K H a xs):SqT K H' a xs:=by
 rcases h with (h | ⟨o,h⟩) | h
 ·exact .inl (.inl (g.keep _ _ hr h))
 ·exact .inl (.inr ⟨o,g.keep _ _ hr h⟩)
 ·exact .inr h
theorem Gs.sqL {a:Addr} {xs:List V} (g:Gs K ρ B H ρ' B' H') (hr:¬ B a) (h:SqL K H a xs):SqL K H' a xs:=by
 rcases h with (h | ⟨o,h⟩) | h
 ·exact .inl (.inl (g.keep _ _ hr h))
 ·exact .inl (.inr ⟨o,g.keep _ _ hr h⟩)
 ·exact .inr h
theorem gm {i:Nat} {a:Addr} (p:ρ <+: ρ') (h:ρ[i]?=some a):ρ'[i]?=some a:=by
 obtain ⟨t,rfl⟩:=p
 rw [List.getElem?_append_left (List.getElem?_eq_some_iff.mp h).1];exact h
mutual
theorem RepV.gs (g:Gs K ρ B H ρ' B' H'):∀ (d:DV) (v:V),RepV K ρ B H d v->RepV K ρ' B' H' d v
  | .non,_,h=>by unfold RepV at h ⊢;exact h
  | .bl _,_,h=>by unfold RepV at h ⊢;exact h
  | .int _,_,h=>by unfold RepV at h ⊢;exact h
  | .str _,_,h=>by unfold RepV at h ⊢;exact h
  | .ref _,_,h=>by
    unfold RepV at h ⊢
    obtain ⟨a,e,h⟩:=h
    exact ⟨a,e,gm g.pre h⟩
  | .tup ds,_,h=>by
    unfold RepV at h ⊢
    obtain ⟨a,xs,e,nb,sq,rl⟩:=h
    exact ⟨a,xs,e,g.ok nb (SqT.trk sq),g.sqT nb sq,RepL.gs g ds xs rl⟩
  | .lst ds,_,h=>by
    unfold RepV at h ⊢
    obtain ⟨a,xs,e,nb,sq,rl⟩:=h
    exact ⟨a,xs,e,g.ok nb (SqL.trk sq),g.sqL nb sq,RepL.gs g ds xs rl⟩
theorem RepL.gs (g:Gs K ρ B H ρ' B' H'):∀ (ds:List DV) (xs:List V),RepL K ρ B H ds xs->RepL K ρ' B' H' ds xs
  | [],_,h=>by unfold RepL at h ⊢;exact h
  | d::ds,_,h=>by
    unfold RepL at h ⊢
    obtain ⟨x,r,e,h1,h2⟩:=h
    exact ⟨x,r,e,RepV.gs g d x h1,RepL.gs g ds r h2⟩
end
theorem RepV.grow (rb:∀ a∈ρ,B a) (g:Gr K ρ B H ρ' B' H') (d:DV) (v:V) (h:RepV K ρ B H d v):RepV K ρ' B' H' d v:=RepV.gs (g.gs rb) d v h
theorem RepL.grow (rb:∀ a∈ρ,B a) (g:Gr K ρ B H ρ' B' H') (ds:List DV) (xs:List V) (h:RepL K ρ B H ds xs):RepL K ρ' B' H' ds xs:=RepL.gs (g.gs rb) ds xs h
theorem RepL.length:∀ {ds:List DV} {xs:List V},RepL K ρ B H ds xs->ds.length=xs.length
  | [],_,h=>by unfold RepL at h;subst h;rfl
  | d::ds,_,h=>by
    unfold RepL at h
    obtain ⟨x,r,rfl,_,h2⟩:=h
    simp [RepL.length h2]
theorem RepL.get:∀ {ds:List DV} {xs:List V} {i:Nat} {d:DV},RepL K ρ B H ds xs->ds[i]?=some d->∃ x,xs[i]?=some x/\RepV K ρ B H d x
  | [],_,_,_,_,e=>by simp at e
  | d::ds,_,0,_,h,e=>by
    unfold RepL at h
    obtain ⟨x,r,rfl,h1,_⟩:=h
    simp at e;subst e
    exact ⟨x,rfl,h1⟩
  | d::ds,_,i+1,_,h,e=>by
    unfold RepL at h
    obtain ⟨x,r,rfl,_,h2⟩:=h
    obtain ⟨y,h3,h4⟩:=RepL.get h2 (by simpa using e)
    exact ⟨y,by simpa using h3,h4⟩
theorem RepL.nil:RepL K ρ B H [] []:=by unfold RepL;rfl
theorem RepL.cons {d:DV} {x:V} {ds:List DV} {xs:List V} (h:RepV K ρ B H d x) (t:RepL K ρ B H ds xs):RepL K ρ B H (d::ds) (x::xs):=by
 unfold RepL;exact ⟨x,xs,rfl,h,t⟩
theorem RepL.append:∀ {ds es:List DV} {xs ys:List V},RepL K ρ B H ds xs->RepL K ρ B H es ys->RepL K ρ B H (ds++es) (xs++ys)
  | [],_,_,_,h,t=>by unfold RepL at h;subst h;exact t
  | d::ds,_,_,_,h,t=>by
    unfold RepL at h
    obtain ⟨x,r,rfl,h1,h2⟩:=h
    exact RepL.cons h1 (RepL.append h2 t)
theorem RepL.one {d:DV} {x:V} (h:RepV K ρ B H d x):RepL K ρ B H [d] [x]:=RepL.cons h RepL.nil
theorem RepL.take:∀ (n:Nat) {ds:List DV} {xs:List V},RepL K ρ B H ds xs->RepL K ρ B H (ds.take n) (xs.take n)
  | 0,_,_,_=>by simp;exact RepL.nil
  | _+1,[],_,h=>by unfold RepL at h;subst h;simp;exact RepL.nil
  | n+1,d::ds,_,h=>by
    unfold RepL at h
    obtain ⟨x,r,rfl,h1,h2⟩:=h
    exact RepL.cons h1 (RepL.take n h2)
theorem RepL.drop:∀ (n:Nat) {ds:List DV} {xs:List V},RepL K ρ B H ds xs->RepL K ρ B H (ds.drop n) (xs.drop n)
  | 0,_,_,h=>h
  | _+1,[],_,h=>by unfold RepL at h;subst h;simp;exact RepL.nil
  | n+1,d::ds,_,h=>by
    unfold RepL at h
    obtain ⟨x,r,rfl,h1,h2⟩:=h
    exact RepL.drop n h2
theorem Gr.laid {p:Addr} {o:HO} (h:H p=none):Gr K ρ B H ρ B (upd H p o) where
 pre:=List.prefix_rfl
 ban:=fun _ h=>h
 new:=fun _ h=>.inl h
 rnew:=fun _ h=>.inl h
 keep:=fun a u _ q=>by rw [Q0 (ZC q h)];exact q
 trk:=fun a q=>by
  by_cases e:a=p
  ·subst e;rw [Zj] at q;cases q
  ·rw [Q0 e] at q;exact q
theorem ORep.gs {a:Addr} {o:OV} (g:Gs K ρ B H ρ' B' H') (hk:H' a=H a) (h:ORep K ρ B H a o):ORep K ρ' B' H' a o:=by
  cases o with
  | lst ds =>
    obtain ⟨xs,e,rl⟩:=h
    exact ⟨xs,hk.trans e,RepL.gs g _ _ rl⟩
  | dic kvs =>
    obtain ⟨xs,e,ek,rl⟩:=h
    exact ⟨xs,hk.trans e,ek,RepL.gs g _ _ rl⟩
  | ins c fs =>
    obtain ⟨C,dx,xs,nc,e,ek,rl⟩:=h
    exact ⟨C,dx,xs,nc,hk.trans e,ek,RepL.gs g _ _ rl⟩
theorem WOk.laid {hp:Hs} {p:Addr} {o:HO} (W:WOk K ρ B hp H) (h:H p=none):WOk K ρ B hp (upd H p o) where
 len:=W.len
 nd:=W.nd
 obj:=fun i a u e q=>ORep.gs ((Gr.laid h).gs W.rb) (by
  have hb:=W.bt a (W.rb a (List.mem_of_getElem? e))
  exact Q0 (fun z=>hb (z▸h))) (W.obj i a u e q)
 rb:=W.rb
 bt:=fun a z q=>W.bt a z ((Gr.laid (K:=K) (ρ:=ρ) (B:=B) h).trk a q)
 bk:=W.bk
end
inductive Sl where
 | un | val (d:DV) | acc (ds:List DV)
abbrev En:=List Sl
structure Ent where
 ρ:List Addr
 B:Addr->Prop
 H:Hp
structure SOk (K:PySem.W.Frag) (Z:Ent) (env:En) (σ:St) (ρ:List Addr) (B:Addr->Prop) (hp:Hs) (H:Hp):Prop where
 gr:Gr K Z.ρ Z.B Z.H ρ B H
 zb:∀ a,Z.B a->Z.H a≠none
 wo:WOk K ρ B hp H
 slot:∀ (i:Nat) (d:DV),env[i]?=some (.val d)->∃ v,σ[i]?=some (some v)/\RepV K ρ B H d v
 accs:∀ (i:Nat) (ds:List DV),env[i]?=some (.acc ds)->∃ a xs,σ[i]?=some (some (.ref a))/\H a=some (.lst xs)/\Z.H a=none/\B a/\a∉ρ/\RepL K ρ B H ds xs
 adis:∀ (i j:Nat) (ds es:List DV) (a:Addr),env[i]?=some (.acc ds)->env[j]?=some (.acc es)->σ[i]?=some (some (.ref a))->σ[j]?=some (some (.ref a))->i=j
 len:σ.length=env.length
theorem SOk.grow {K:PySem.W.Frag} {Z:Ent} {env:En} {σ:St} {ρ ρ':List Addr} {B B':Addr->Prop} {hp hp':Hs} {H H':Hp} (S:SOk K Z env σ ρ B hp H) (g:Gr K ρ B H ρ' B' H') (W:WOk K ρ' B' hp' H'):SOk K Z env σ ρ' B' hp' H' where
 gr:=S.gr.trans g
 zb:=S.zb
 wo:=W
 slot:=fun i d e=>let ⟨v,h1,h2⟩:=S.slot i d e;⟨v,h1,RepV.grow S.wo.rb g d v h2⟩
 accs:=fun i ds e=>by
  obtain ⟨a,xs,h1,h2,h3,h4,h5,h6⟩:=S.accs i ds e
  refine ⟨a,xs,h1,g.keep a _ h5 h2,h3,g.ban a h4,fun z=>?_,RepL.grow S.wo.rb g ds xs h6⟩
  rcases g.rnew a z with q | q
  ·exact h5 q
  ·rw [h2] at q;cases q
 adis:=S.adis
 len:=S.len
abbrev DEx:=En->M DV
abbrev DTx:=En->M Bool
abbrev DAx:=En->M (List DV)
inductive Fl where
 | nx | rt (d:DV) | bk | ct
abbrev DSx:=En->M (Fl×En)
def Fol (K:PySem.W.Frag) (ρ:List Addr) (B:Addr->Prop) (H:Hp) (d:DV) (hp':Hs) (Q:VK):Prop :=
 ∀ v ρ' B' H',Gr K ρ B H ρ' B' H'->WOk K ρ' B' hp' H'->RepV K ρ' B' H' d v->Q v H'
def QfU (K:PySem.W.Frag) (ρ:List Addr) (B:Addr->Prop) (H:Hp) (hp':Hs) (Q:Hp->Prop):Prop :=
 ∀ ρ' B' H',Gr K ρ B H ρ' B' H'->WOk K ρ' B' hp' H'->Q H'
def Qg0 (K:PySem.W.Frag) (ρ:List Addr) (B:Addr->Prop) (H:Hp) (ds:List DV) (hp':Hs) (Q:List V->Hp->Prop):Prop :=
 ∀ vs ρ' B' H',Gr K ρ B H ρ' B' H'->WOk K ρ' B' hp' H'->RepL K ρ' B' H' ds vs->Q vs H'
def tD (K:PySem.W.Frag) (f:DEx):TE:=fun σ H Q=>∃ Z env ρ B hp d hp',SOk K Z env σ ρ B hp H/\f env hp=some (d,hp')/\Fol K ρ B H d hp' Q
def tDT (K:PySem.W.Frag) (f:DTx):TT:=fun σ H Q=>∃ Z env ρ B hp d hp',SOk K Z env σ ρ B hp H/\f env hp=some (d,hp')/\QfU K ρ B H hp' (Q d)
def tDA (K:PySem.W.Frag) (f:DAx):TA:=fun σ H Q=>∃ Z env ρ B hp ds hp',SOk K Z env σ ρ B hp H/\f env hp=some (ds,hp')/\Qg0 K ρ B H ds hp' Q
def DE (X:Cx) (e:Expr) (f:DEx):Prop:=PE X e (tD X.K f)
def DT (X:Cx) (e:Expr) (f:DTx):Prop:=PT X e (tDT X.K f)
def DW (X:Cx) (e:Expr) (f:DTx):Prop:=PW X e (tDT X.K f)
def DA (X:Cx) (es:List Expr) (f:DAx):Prop:=PA X es (tDA X.K f)
def FolS (K:PySem.W.Frag) (Z:Ent) (ρ:List Addr) (B:Addr->Prop) (H:Hp) (fl:Fl) (env':En) (hp':Hs) (D:Ke):Prop :=
  ∀ σ' ρ' B' H', Gs K ρ B H ρ' B' H' -> SOk K Z env' σ' ρ' B' hp' H' -> match fl with
    | .nx=>D.nx σ' H'
    | .bk=>D.bk σ' H'
    | .ct=>D.ct σ' H'
    | .rt d=>∀ v,RepV K ρ' B' H' d v->D.rt v H'
def tDS (K:PySem.W.Frag) (f:DSx):TS:=fun D σ H=>∃ Z env ρ B hp fl env' hp',SOk K Z env σ ρ B hp H/\f env hp=some ((fl,env'),hp')/\FolS K Z ρ B H fl env' hp' D
def DS (X:Cx) (st:Stmt) (f:DSx):Prop:=PS X st (tDS X.K f)
def DSs (X:Cx) (st:List Stmt) (f:DSx):Prop:=PSs X st (tDS X.K f)
section
variable {X:Cx}
theorem _root_.L2.PE.imp {e:Expr} {t t':TE} (h:PE X e t) (i:∀ σ H Q,t' σ H Q->t σ H Q):PE X e t':=fun pins s σ H Q I q=>h pins s σ H Q I (i σ H Q q)
theorem _root_.L2.PT.imp {e:Expr} {t t':TT} (h:PT X e t) (i:∀ σ H Q,t' σ H Q->t σ H Q):PT X e t':=fun pins s σ H Q I q=>h pins s σ H Q I (i σ H Q q)
theorem _root_.L2.PW.imp {e:Expr} {t t':TT} (h:PW X e t) (i:∀ σ H Q,t' σ H Q->t σ H Q):PW X e t':=fun wh pins s σ H Q I q=>h wh pins s σ H Q I (i σ H Q q)
theorem _root_.L2.PA.imp {es:List Expr} {t t':TA} (h:PA X es t) (i:∀ σ H Q,t' σ H Q->t σ H Q):PA X es t':=fun pos pins s σ H Q I q=>h pos pins s σ H Q I (i σ H Q q)
theorem _root_.L2.PS.imp {st:Stmt} {t t':TS} (h:PS X st t) (i:∀ Dn σ H,t' Dn σ H->t Dn σ H):PS X st t':=fun pins s σ H Dn I q=>h pins s σ H Dn I (i Dn σ H q)
theorem _root_.L2.PSs.imp {st:List Stmt} {t t':TS} (h:PSs X st t) (i:∀ Dn σ H,t' Dn σ H->t Dn σ H):PSs X st t':=fun pins s σ H Dn I q=>h pins s σ H Dn I (i Dn σ H q)
def ur (K:PySem.W.Frag) (H:Hp):Prop:=∀ a o,H a=some o->K.lookup a=none
theorem Inv.kfree {pins:List (Addr×Obj)} {σ:St} {H:Hp} {s:Shared} (I:Inv X pins σ H s):ur X.K H:=fun a o e=>by
  cases q:X.K.lookup a with
  | none=>rfl
  | some ob =>
    have:=(I.bs a ob (I.ok.mod.kin a ob q)).2
    rw [e] at this;cases this
theorem _root_.L2.PE.kf {e:Expr} {t:TE} (h:PE X e t):PE X e (fun σ H Q=>t σ H fun v H'=>ur X.K H'->Q v H'):=fun pins s σ H Q I q =>
 thn (h pins s σ H _ I q) fun u s' ⟨v,H',I',r,z⟩=>⟨v,H',I',r,z (Inv.kfree I')⟩
theorem Qf {α β:Type} {f:M α} {g:α->M β} {hp hp':Hs} {y:β} (h:(f >>= g) hp=some (y,hp')):∃ x hp1,f hp=some (x,hp1)/\g x hp1=some (y,hp'):=by
 change (f hp).bind (fun p=>g p.1 p.2)=some (y,hp') at h
 cases q:f hp with
 | none=>rw [q] at h;cases h
 | some p=>rw [q] at h;exact ⟨p.1,p.2,rfl,h⟩
theorem Qj {α:Type} {x y:α} {hp hp':Hs} (h:(pure x:M α) hp=some (y,hp')):x=y/\hp=hp':=by
 change some (x,hp)=some (y,hp') at h
 cases h;exact ⟨rfl,rfl⟩
theorem tD.run {K:PySem.W.Frag} {f:DEx} {Z:Ent} {env:En} {σ:St} {ρ:List Addr} {B:Addr->Prop} {hp hp1:Hs} {H:Hp} {d:DV} {Q:VK} (S:SOk K Z env σ ρ B hp H) (e:f env hp=some (d,hp1))
  (k:∀ v ρ' B' H',Gr K ρ B H ρ' B' H'->SOk K Z env σ ρ' B' hp1 H'->RepV K ρ' B' H' d v->Q v H'):tD K f σ H Q :=
 ⟨Z,env,ρ,B,hp,d,hp1,S,e,fun v ρ' B' H' g W r=>k v ρ' B' H' g (S.grow g W) r⟩
def Qb (i:Nat):DEx:=fun env=>match env[i]? with
 | some (.val d)=>pure d
 | _=>failure
def eC (d:DV):DEx:=fun _=>pure d
theorem kH {i:Nat} {env:En} {hp hp':Hs} {d:DV} (h:Qb i env hp=some (d,hp')):env[i]?=some (.val d)/\hp=hp':=by
  unfold Qb at h
  cases q:env[i]? with
  | none=>rw [q] at h;cases h
  | some z =>
    rw [q] at h
    cases z with
    | val x=>obtain ⟨rfl,rfl⟩:=Qj h;exact ⟨rfl,rfl⟩
    | un=>cases h
    | acc _=>cases h
theorem Qa (i:Nat) {x:Str} {pos:Pos} (hN:X.N[i]?=some x:=by rfl) (hv:Vis X.env.scope x:=by first | exact Or.inl rfl | exact Or.inr (Or.inl rfl) | exact Or.inr (Or.inr rfl)) (hd:(x==("__debug__" : Str))=false:=by decide)
  (hcd:(x==("__classdict__" : Str))=false:=by decide):DE X (.Name x pos) (Qb i) :=
 (Qfb hN hv hd hcd).imp fun σ H Q ⟨Z,env,ρ,B,hp,d,hp',S,e,k⟩=>by
  obtain ⟨e1,rfl⟩:=kH e
  obtain ⟨v,h1,h2⟩:=S.slot i d e1
  exact ⟨v,h1,k v ρ B H Gr.refl S.wo h2⟩
theorem qZ {e:Expr} {d:DV} {v:V} (h:PE X e (tC v)) (r:∀ K ρ B H,RepV K ρ B H d v):DE X e (eC d) :=
 h.imp fun σ H Q ⟨Z,env,ρ,B,hp,d',hp',S,e,k⟩=>by
  obtain ⟨rfl,rfl⟩:=Qj e
  exact k v ρ B H Gr.refl S.wo (r _ _ _ _)
theorem Qq {i:Int} {j pos}:DE X (.Constant (.int i) j pos) (eC (.int i)):=qZ Qe5 fun _ _ _ _=>by unfold RepV;rfl
theorem Xu {b:Bool} {j pos}:DE X (.Constant (.bool b) j pos) (eC (.bl b)):=qZ Qgw fun _ _ _ _=>by unfold RepV;rfl
theorem ZB {j pos}:DE X (.Constant .none j pos) (eC .non):=qZ Qe6 fun _ _ _ _=>by unfold RepV;rfl
theorem Jb {x:Str} {j pos}:DE X (.Constant (.str x) j pos) (eC (.str x)):=qZ Qe9 fun _ _ _ _=>by unfold RepV;rfl
theorem Q8 {x:Str} {i:Int} {t:Tok} {pos:Pos} (hg:Gl X x) (hm:X.mg x=some (.int i t)) (hd:(x==("__debug__" : Str))=false:=by decide):DE X (.Name x pos) (eC (.int i)) :=
 qZ (gj (v:=.int i) hg hm ⟨t,rfl⟩ hd) fun _ _ _ _=>by unfold RepV;rfl
def tP2 (K:PySem.W.Frag) (g:DV->DV->M DV):R2:=fun x y H Q=>∃ ρ B hp dx dy d hp',WOk K ρ B hp H/\RepV K ρ B H dx x/\RepV K ρ B H dy y/\g dx dy hp=some (d,hp')/\Fol K ρ B H d hp' Q
def P2 (X:Cx) (f:Value->Value->Sem Value) (g:DV->DV->M DV):Prop:=OpR X f (tP2 X.K g)
def Ql (g:DV->DV->M DV) (a b:DEx):DEx:=fun env=>do let x <- a env;let y <- b env;g x y
variable {a b c:Expr} {fa fb fc:DEx} {pos:Pos}
theorem zd {K:PySem.W.Frag} {g:DV->DV->M DV} {σ:St} {H:Hp} {Q:VK} (h:tD K (Ql g fa fb) σ H Q):tOp (tP2 K g) (tD K fa) (tD K fb) σ H Q:=by
 obtain ⟨Z,env,ρ,B,hp,d,hp',S,e,k⟩:=h
 obtain ⟨x,hp1,e1,e2⟩:=Qf e
 obtain ⟨y,hp2,e3,e4⟩:=Qf e2
 refine tD.run S e1 fun v ρ1 B1 H1 g1 S1 r1=>tD.run S1 e3 fun u ρ2 B2 H2 g2 S2 r2=>?_
 exact ⟨ρ2,B2,hp2,x,y,d,hp',S2.wo,RepV.grow S1.wo.rb g2 _ _ r1,r2,e4,fun w ρ' B' H' g W r=>k w ρ' B' H' (g1.trans (g2.trans g)) W r⟩
theorem QA {op:Operator} {g:DV->DV->M DV} (ho:P2 X (binaryOp op) g) (ha:DE X a fa) (hb:DE X b fb):DE X (.BinOp a op b pos) (Ql g fa fb) :=
 (Qgy ho ha hb).imp fun _ _ _ h=>zd h
theorem Xf {op:CmpOp} {g:DV->DV->M DV} (ho:P2 X (compareOp op) g) (ha:DE X a fa) (hb:DE X b fb) (hm:behindInMarks op b=false):DE X (.Compare a [op] [b] pos) (Ql g fa fb) :=
 (Qda ho ha hb hm).imp fun _ _ _ h=>zd h
def asB:DV->M Bool
 | .bl b=>pure b
 | _=>failure
def eB (f:DEx):DTx:=fun env=>do asB (<- f env)
theorem YZ {d:DV} {c:Bool} {hp hp':Hs} (h:asB d hp=some (c,hp')):d=.bl c/\hp=hp':=by
 cases d with
 | bl b=>obtain ⟨rfl,rfl⟩:=Qj h;exact ⟨rfl,rfl⟩
 | _=>cases h
theorem RepV.blI {K:PySem.W.Frag} {ρ:List Addr} {B:Addr->Prop} {H:Hp} {b:Bool} {v:V} (h:RepV K ρ B H (.bl b) v):v=.bl b:=by unfold RepV at h;exact h
theorem RepV.intI {K:PySem.W.Frag} {ρ:List Addr} {B:Addr->Prop} {H:Hp} {b:Int} {v:V} (h:RepV K ρ B H (.int b) v):v=.int b:=by unfold RepV at h;exact h
theorem RepV.strI {K:PySem.W.Frag} {ρ:List Addr} {B:Addr->Prop} {H:Hp} {b:Str} {v:V} (h:RepV K ρ B H (.str b) v):v=.str b:=by unfold RepV at h;exact h
theorem RepV.nonI {K:PySem.W.Frag} {ρ:List Addr} {B:Addr->Prop} {H:Hp} {v:V} (h:RepV K ρ B H .non v):v=.non:=by unfold RepV at h;exact h
theorem RepV.tupI {K:PySem.W.Frag} {ρ:List Addr} {B:Addr->Prop} {H:Hp} {ds:List DV} {v:V} (h:RepV K ρ B H (.tup ds) v):∃ a xs,v=.ref a/\¬ B a/\SqT K H a xs/\RepL K ρ B H ds xs:=by unfold RepV at h;exact h
theorem RepV.lstI {K:PySem.W.Frag} {ρ:List Addr} {B:Addr->Prop} {H:Hp} {ds:List DV} {v:V} (h:RepV K ρ B H (.lst ds) v):∃ a xs,v=.ref a/\¬ B a/\SqL K H a xs/\RepL K ρ B H ds xs:=by unfold RepV at h;exact h
theorem RepV.refI {K:PySem.W.Frag} {ρ:List Addr} {B:Addr->Prop} {H:Hp} {i:Nat} {v:V} (h:RepV K ρ B H (.ref i) v):∃ a,v=.ref a/\ρ[i]?=some a:=by unfold RepV at h;exact h
section
variable {K:PySem.W.Frag} {ρ:List Addr} {B:Addr->Prop} {H:Hp}
theorem Jd {b:Bool}:RepV K ρ B H (.bl b) (.bl b):=by unfold RepV;rfl
theorem JM {b:Int}:RepV K ρ B H (.int b) (.int b):=by unfold RepV;rfl
theorem zS:RepV K ρ B H .non .non:=by unfold RepV;rfl
theorem zT {a:Addr} {ds:List DV} {xs:List V} (h1:¬ B a) (h2:SqT K H a xs) (h3:RepL K ρ B H ds xs):RepV K ρ B H (.tup ds) (.ref a):=by unfold RepV;exact ⟨a,xs,rfl,h1,h2,h3⟩
theorem KK {a:Addr} {ds:List DV} {xs:List V} (h1:¬ B a) (h2:SqL K H a xs) (h3:RepL K ρ B H ds xs):RepV K ρ B H (.lst ds) (.ref a):=by unfold RepV;exact ⟨a,xs,rfl,h1,h2,h3⟩
end
theorem Xh {e:Expr} {f:DEx} (h:DE X e f) (he:∀ whole,isTrue e X.env whole=(do let v <- whole;standAt e.pos;holding [v] (truthy v)):=by intro _;rfl):DT X e (eB f) :=
 (Qfr h he).imp fun σ H Q ⟨Z,env,ρ,B,hp,d,hp',S,e,k⟩=>by
  obtain ⟨x,hp1,e1,e2⟩:=Qf e
  obtain ⟨rfl,rfl⟩:=YZ e2
  exact tD.run S e1 fun v ρ1 B1 H1 g1 S1 r1=>⟨d,r1.blI,k ρ1 B1 H1 g1 S1.wo⟩
theorem Q2 {op:CmpOp} {g:DV->DV->M DV} (ho:P2 X (compareOp op) g) (ha:DE X a fa) (hb:DE X b fb) (hm:behindInMarks op b=false):DT X (.Compare a [op] [b] pos) (eB (Ql g fa fb)) :=
 (Qds ho ha hb hm).imp fun σ H Q ⟨Z,env,ρ,B,hp,d,hp',S,e,k⟩=>by
  obtain ⟨x,hp1,e1,e2⟩:=Qf e
  obtain ⟨rfl,rfl⟩:=YZ e2
  exact zd (tD.run S e1 fun v ρ1 B1 H1 g1 S1 r1=>⟨d,r1.blI,k ρ1 B1 H1 g1 S1.wo⟩)
def Yo (f g:DTx):DTx:=fun env=>do if <- f env then g env else pure false
def eOr (f g:DTx):DTx:=fun env=>do if <- f env then pure true else g env
def Jy (f:DTx):DTx:=fun env=>do let b <- f env;pure (!b)
def Jm (f g:DEx):DEx:=fun env=>do if <- asB (<- f env) then g env else pure (.bl false)
def xT (f g:DEx):DEx:=fun env=>do if <- asB (<- f env) then pure (.bl true) else g env
def Yp (f:DEx):DEx:=fun env=>do let b <- asB (<- f env);pure (.bl (!b))
def eIf (c:DTx) (f g:DEx):DEx:=fun env=>do if <- c env then f env else g env
theorem tDT.run {K:PySem.W.Frag} {f:DTx} {Z:Ent} {env:En} {σ:St} {ρ:List Addr} {B:Addr->Prop} {hp hp1:Hs} {H:Hp} {d:Bool} {Q:Bool->Hp->Prop} (S:SOk K Z env σ ρ B hp H) (e:f env hp=some (d,hp1))
  (k:∀ ρ' B' H',Gr K ρ B H ρ' B' H'->SOk K Z env σ ρ' B' hp1 H'->Q d H'):tDT K f σ H Q :=
 ⟨Z,env,ρ,B,hp,d,hp1,S,e,fun ρ' B' H' g W=>k ρ' B' H' g (S.grow g W)⟩
variable {ca cb:DTx} {rest:List Expr}
theorem uJ (h:DT X a ca):DW X (.BoolOp .And [a] pos) ca:=Qdw h
theorem xR (h:DT X a ca):DW X (.BoolOp .Or [a] pos) ca:=Qfu h
theorem QaR (ha:DT X a ca) (hb:DW X (.BoolOp .And (b::rest) pos) cb):DW X (.BoolOp .And (a::b::rest) pos) (Yo ca cb) :=
  (Qft ha hb).imp fun σ H Q ⟨Z,env,ρ,B,hp,d,hp',S,e,k⟩=>by
    obtain ⟨x,hp1,e1,e2⟩:=Qf e
    refine tDT.run S e1 fun ρ1 B1 H1 g1 S1=>?_
    cases x with
    | true=>exact Gz (tDT.run S1 e2 fun ρ2 B2 H2 g2 S2=>k ρ2 B2 H2 (g1.trans g2) S2.wo)
    | false =>
      obtain ⟨rfl,rfl⟩:=Qj e2
      exact Gy (k ρ1 B1 H1 g1 S1.wo)
theorem UA (ha:DT X a ca) (hb:DW X (.BoolOp .Or (b::rest) pos) cb):DW X (.BoolOp .Or (a::b::rest) pos) (eOr ca cb) :=
  (QgB ha hb).imp fun σ H Q ⟨Z,env,ρ,B,hp,d,hp',S,e,k⟩=>by
    obtain ⟨x,hp1,e1,e2⟩:=Qf e
    refine tDT.run S e1 fun ρ1 B1 H1 g1 S1=>?_
    cases x with
    | false=>exact Gy (tDT.run S1 e2 fun ρ2 B2 H2 g2 S2=>k ρ2 B2 H2 (g1.trans g2) S2.wo)
    | true =>
      obtain ⟨rfl,rfl⟩:=Qj e2
      exact Gz (k ρ1 B1 H1 g1 S1.wo)
theorem DW.pt {e:Expr} {f:DTx} (h:DW X e f):DT X e f:=h _
theorem XU (h:DT X a ca):DT X (.UnaryOp .Not a pos) (Jy ca) :=
 (Qfq h).imp fun σ H Q ⟨Z,env,ρ,B,hp,d,hp',S,e,k⟩=>by
  obtain ⟨x,hp1,e1,e2⟩:=Qf e
  obtain ⟨rfl,rfl⟩:=Qj e2
  exact tDT.run S e1 fun ρ1 B1 H1 g1 S1=>k ρ1 B1 H1 g1 S1.wo
theorem q8 {op:BoolOp} (h:DE X a fa):DE X (.BoolOp op [a] pos) fa:=Qe8 h
theorem qY (ha:DE X a fa) (hb:DE X (.BoolOp .And (b::rest) pos) fb):DE X (.BoolOp .And (a::b::rest) pos) (Jm fa fb) :=
  (Qe3 ha hb).imp fun σ H Q ⟨Z,env,ρ,B,hp,d,hp',S,e,k⟩=>by
    obtain ⟨x,hp1,e1,e2⟩:=Qf e
    obtain ⟨c,hp2,e3,e4⟩:=Qf e2
    obtain ⟨rfl,rfl⟩:=YZ e3
    refine tD.run S e1 fun v ρ1 B1 H1 g1 S1 r1=>⟨c,r1.blI,?_⟩
    cases c with
    | true=>exact Gz (tD.run S1 e4 fun v ρ2 B2 H2 g2 S2 r2=>k v ρ2 B2 H2 (g1.trans g2) S2.wo r2)
    | false =>
      obtain ⟨rfl,rfl⟩:=Qj e4
      exact Gy (k _ ρ1 B1 H1 g1 S1.wo Jd)
theorem Qet (ha:DE X a fa):DE X (.UnaryOp .Not a pos) (Yp fa) :=
 (Qe7 ha).imp fun σ H Q ⟨Z,env,ρ,B,hp,d,hp',S,e,k⟩=>by
  obtain ⟨x,hp1,e1,e2⟩:=Qf e
  obtain ⟨c,hp2,e3,e4⟩:=Qf e2
  obtain ⟨rfl,rfl⟩:=YZ e3
  obtain ⟨rfl,rfl⟩:=Qj e4
  exact tD.run S e1 fun v ρ1 B1 H1 g1 S1 r1=>⟨c,r1.blI,k _ ρ1 B1 H1 g1 S1.wo Jd⟩
theorem Qd1 (hc:DT X c ca) (ha:DE X a fa) (hb:DE X b fb):DE X (.IfExp c a b pos) (eIf ca fa fb) :=
 (QbG hc ha hb).imp fun σ H Q ⟨Z,env,ρ,B,hp,d,hp',S,e,k⟩=>by
  obtain ⟨x,hp1,e1,e2⟩:=Qf e
  refine tDT.run S e1 fun ρ1 B1 H1 g1 S1=>?_
  cases x with
  | true=>exact Gz (tD.run S1 e2 fun v ρ2 B2 H2 g2 S2 r2=>k v ρ2 B2 H2 (g1.trans g2) S2.wo r2)
  | false=>exact Gy (tD.run S1 e2 fun v ρ2 B2 H2 g2 S2 r2=>k v ρ2 B2 H2 (g1.trans g2) S2.wo r2)
def Qm:DAx:=fun _=>pure []
def Qc (f:DEx) (g:DAx):DAx:=fun env=>do let x <- f env;let xs <- g env;pure (x::xs)
theorem tDA.run {K:PySem.W.Frag} {f:DAx} {Z:Ent} {env:En} {σ:St} {ρ:List Addr} {B:Addr->Prop} {hp hp1:Hs} {H:Hp} {ds:List DV} {Q:List V->Hp->Prop} (S:SOk K Z env σ ρ B hp H) (e:f env hp=some (ds,hp1))
  (k:∀ vs ρ' B' H',Gr K ρ B H ρ' B' H'->SOk K Z env σ ρ' B' hp1 H'->RepL K ρ' B' H' ds vs->Q vs H'):tDA K f σ H Q :=
 ⟨Z,env,ρ,B,hp,ds,hp1,S,e,fun vs ρ' B' H' g W r=>k vs ρ' B' H' g (S.grow g W) r⟩
theorem Qn:DA X [] Qm:=pa_nil.imp fun σ H Q ⟨Z,env,ρ,B,hp,ds,hp',S,e,k⟩=>by
 obtain ⟨rfl,rfl⟩:=Qj e
 exact k [] ρ B H Gr.refl S.wo RepL.nil
theorem Qd {e:Expr} {es:List Expr} {f:DEx} {g:DAx} (ha:DE X e f) (hr:DA X es g) (hs:starEach (e::es) X.env=(false,eval e X.env)::starEach es X.env:=by rfl):DA X (e::es) (Qc f g) :=
 (X9 ha hr hs).imp fun σ H Q ⟨Z,env,ρ,B,hp,ds,hp',S,e,k⟩=>by
  obtain ⟨x,hp1,e1,e2⟩:=Qf e
  obtain ⟨xs,hp2,e3,e4⟩:=Qf e2
  obtain ⟨rfl,rfl⟩:=Qj e4
  exact tD.run S e1 fun v ρ1 B1 H1 g1 S1 r1=>tDA.run S1 e3 fun vs ρ2 B2 H2 g2 S2 r2=>k _ ρ2 B2 H2 (g1.trans g2) S2.wo (RepL.cons (RepV.grow S1.wo.rb g2 _ _ r1) r2)
def lim:Nat:=100000
theorem KG:lim<=sizeLine:=by decide
def Qw (c:Bool):M Unit:=if c then pure () else failure
theorem QH {c:Bool} {hp hp':Hs} {u:Unit} (h:Qw c hp=some (u,hp')):c=true/\hp=hp':=by
 cases c with
 | true=>obtain ⟨_,rfl⟩:=Qj (show (pure ():M Unit) hp=some (u,hp') from h);exact ⟨rfl,rfl⟩
 | false=>cases h
def qR (ds:List DV):Bool:=decide (ds.length<=lim)
theorem zE {ds:List DV} (h:qR ds=true):ds.length<=sizeLine:=Nat.le_trans (of_decide_eq_true h) KG
def Zu (f:DAx):DEx:=fun env=>do let xs <- f env;Qw (qR xs);pure (.tup xs)
def XA (f:DAx):DEx:=fun env=>do let xs <- f env;Qw (qR xs);pure (.lst xs)
theorem jW {K:PySem.W.Frag} {ρ:List Addr} {B:Addr->Prop} {H:Hp} {hp:Hs} {ds:List DV} {xs:List V} {Q:VK} (W:WOk K ρ B hp H) (r:RepL K ρ B H ds xs) (k:Fol K ρ B H (.tup ds) hp Q):∀ p,H p=none->Q (.ref p) (upd H p (.tup xs)):=fun p hp' =>
 k _ ρ B _ (Gr.laid hp') (W.laid hp') (zT (fun z=>W.bt p z hp') (SqT.of Zj) (RepL.grow W.rb (Gr.laid hp') _ _ r))
theorem Ks {K:PySem.W.Frag} {ρ:List Addr} {B:Addr->Prop} {H:Hp} {hp:Hs} {ds:List DV} {xs:List V} {Q:VK} (W:WOk K ρ B hp H) (r:RepL K ρ B H ds xs) (k:Fol K ρ B H (.lst ds) hp Q):∀ p,H p=none->Q (.ref p) (upd H p (.lst xs)):=fun p hp' =>
 k _ ρ B _ (Gr.laid hp') (W.laid hp') (KK (fun z=>W.bt p z hp') (SqL.of Zj) (RepL.grow W.rb (Gr.laid hp') _ _ r))
theorem Fol.after {K:PySem.W.Frag} {ρ ρ1:List Addr} {B B1:Addr->Prop} {H H1:Hp} {hp':Hs} {d:DV} {Q:VK} (g:Gr K ρ B H ρ1 B1 H1) (k:Fol K ρ B H d hp' Q):Fol K ρ1 B1 H1 d hp' Q:=fun v ρ' B' H' g' W r=>k v ρ' B' H' (g.trans g') W r
theorem Zg {es:List Expr} {f:DAx} {x1} (h:DA X es f):DE X (.Tuple es x1 pos) (Zu f) :=
 (Qfa h).imp fun σ H Q ⟨Z,env,ρ,B,hp,d,hp',S,e,k⟩=>by
  obtain ⟨xs,hp1,e1,e2⟩:=Qf e
  obtain ⟨_,hp2,e3,e4⟩:=Qf e2
  obtain ⟨hs,rfl⟩:=QH e3
  obtain ⟨rfl,rfl⟩:=Qj e4
  exact tDA.run S e1 fun vs ρ1 B1 H1 g1 S1 r1=>⟨by rw [<- r1.length];exact zE hs,jW S1.wo r1 (k.after g1)⟩
theorem xP {es:List Expr} {f:DAx} (h:DA X es f):DE X (.List es pos) (XA f) :=
 (QbH h).imp fun σ H Q ⟨Z,env,ρ,B,hp,d,hp',S,e,k⟩=>by
  obtain ⟨xs,hp1,e1,e2⟩:=Qf e
  obtain ⟨_,hp2,e3,e4⟩:=Qf e2
  obtain ⟨hs,rfl⟩:=QH e3
  obtain ⟨rfl,rfl⟩:=Qj e4
  exact tDA.run S e1 fun vs ρ1 B1 H1 g1 S1 r1=>⟨by rw [<- r1.length];exact zE hs,Ks S1.wo r1 (k.after g1)⟩
end
end D
namespace L2
open PySem PySem.Spec PyProof.Rows
def XT (X:Cx) (scope:Scope) (cl:List (Str×Addr)) (C:Addr) (N:List Str) (s₀:Shared) (H₀:Hp) (ex:List Addr):Cx where
 prog:=X.prog
 w:=X.w
 K:=X.K
 mg:=X.mg
 base:=X.base
 A:=X.A
 N:=N
 s₀:=s₀
 H₀:=H₀
 env:=compEnvC scope cl C X.env
 outer:=X.stack
 stack:=X.stack
 ex:=ex
 fn:=fun _=>false
 calm:=X.calm
 pn:=[]
 xe:=fun _ _=>False
def AllP {α:Type} (P:α->Prop):List α->Prop
 | []=>True
 | x::r=>P x/\AllP P r
theorem AllP.mem {α:Type} {P:α->Prop}:∀ {l:List α} {x:α},AllP P l->x∈l->P x
 | [],_,_,h=>nomatch h
 | y::r,x,⟨h1,h2⟩,h=>(List.mem_cons.mp h).elim (fun e=>e▸h1) fun e=>AllP.mem h2 e
def Caps (X:Cx) (scope:Scope) (cl:List (Str×Addr)):List Str->List Nat->Prop
  | [],[]=>True
  | y :: ys, i :: is => X.N[i]? = some y /\ (X.env.kindOf y = some .cell ∨ X.env.kindOf y = some .free) /\ (∃ c, cl.lookup y = some c) /\
      (relabel scope X.env).names.lookup y≠some .local/\Caps X scope cl ys is
  | _,_=>False
theorem Caps.get {X:Cx} {scope:Scope} {cl:List (Str×Addr)}:∀ {ys:List Str} {is:List Nat} {j:Nat} {y:Str},Caps X scope cl ys is->ys[j]?=some y ->
    ∃ i,is[j]?=some i/\X.N[i]?=some y/\(X.env.kindOf y=some .cell∨X.env.kindOf y=some .free)/\(∃ c,cl.lookup y=some c)/\(relabel scope X.env).names.lookup y≠some .local
  | [],_,_,_,_,h=>by simp at h
  | y::ys,[],_,_,h,_=>by simp [Caps] at h
  | y::ys,i::is,0,z,⟨h1,h2,h3,h4,_⟩,h=>by simp at h;subst h;exact ⟨i,rfl,h1,h2,h3,h4⟩
  | y::ys,i::is,j+1,z,⟨_,_,_,_,h5⟩,h=>by
    obtain ⟨k,a,b⟩:=Caps.get h5 (by simpa using h)
    exact ⟨k,by simpa using a,b⟩
theorem Caps.length {X:Cx} {scope:Scope} {cl:List (Str×Addr)}:∀ {ys:List Str} {is:List Nat},Caps X scope cl ys is->ys.length=is.length
 | [],[],_=>rfl
 | [],_::_,h=>by simp [Caps] at h
 | _::_,[],h=>by simp [Caps] at h
 | _::ys,_::is,⟨_,_,_,_,h⟩=>by simp [Caps.length h]
structure K2 (X:Cx) (x:Str) (scope:Scope) (cl:List (Str×Addr)) (caps:List Str) (idx:List Nat):Prop where
 clos:closureFor scope X.env=pure cl
 cell:∀ y∈scope.names,y.2≠.cell
 kind:scope.kind=.function
 names:∀ y∈scope.names,y.2=.local->scope.names.lookup y.1=some .local
 hx:scope.names.lookup x=some .local
 cls:AllP (fun p:Str×Addr=>X.env.cells.lookup p.1=some p.2) cl
 has:((relabel scope X.env).names.all fun p=>!(p.2==.cell||p.2==.free)||(cl.lookup p.1).isSome)=true
 cps:Caps X scope cl caps idx
 nd:(x::caps).Nodup
def cσ (idx:List Nat) (σ:St) (o:Option V):St:=o::idx.map fun i=>(σ[i]?).join
def PTs (X:Cx) (ifs:List Expr) (t:TT):Prop :=
  ∀ (pins : List (Addr × Obj)) (s : Shared) (σ : St) (H : Hp) (Q : Bool -> Hp -> Prop), Inv X pins σ H s -> t σ H Q ->
    wpAny (model X.prog X.w) X.A (forIn ifs true fun c r=>if r=true then do let ok <- isTrue c X.env (eval c X.env);pure (ForInStep.yield ok) else pure (ForInStep.yield r)) (TP X pins σ Q) X.xe s
theorem Qdt {X:Cx}:PTs X [] (fun _ H Q=>Q true H):=fun pins s σ H Q I h=>wpAny_tests_nil ⟨H,I,h⟩
theorem Qdu {X:Cx} {c:Expr} {t:TT} (h:PT X c t):PTs X [c] t:=fun pins s σ H Q I q=>wpAny_tests_one (h pins s σ H Q I q)
section
variable {prog:Program} {w:World} {A:Around} {R:Result->Shared->Prop} {s:Shared}
theorem Kn {elt target iter:Expr} {ifs:List Expr} {scope:Scope} {pos:Pos} {it acc:Value} {env:Env} (I:Nat->Shared->Prop)
    (turn:∀ n s,I n s->wpAny (model prog w) A (pyNext it) (fun r s₁=>match r with
      | none=>R (.ok .next) s₁
      | some v=>wpAny (model prog w) A (letOwnedTupleGo target it v) (fun _ s₁'=>wpAny (model prog w) A (assign target env v) (fun _ s₂ =>
          wpAny (model prog w) A (forIn ifs true fun c r=>if r=true then do let ok <- isTrue c env (eval c env);pure (ForInStep.yield ok) else pure (ForInStep.yield r)) (fun ok s₃ =>
            if ok=true then wpAny (model prog w) A (eval elt env) (fun x s₄ =>
              wpAny (model prog w) A (call (.builtin "list.append") [acc,x]) (fun _ s₅=>∃ m,m < n/\I m s₅) (fun _ _=>False) s₄) (fun _ _=>False) s₃
            else ∃ m,m < n/\I m s₃) (fun _ _=>False) s₂) (fun _ _=>False) s₁') (fun _ _=>False) s₁) (fun _ _=>False) s)
    (n:Nat) (h:I n s) :
    codeAny (model prog w) A (.compLoop (.ListComp elt [⟨target,iter,ifs,0⟩] scope pos) 0 it acc env) R s:=by
  refine codeAny_loop rfl I (fun n s hI=>?_) n h
  show wpAny _ A ((compTurn (.ListComp elt [⟨target,iter,ifs,0⟩] scope pos) 0 it acc env).onRaise (fun x=>do noteFrame x env;theTreesLotGoes x)) _ _ s
  refine wpAny_noted ?_
  rw [compTurn_list]
  refine wpAny_bind (wpAny_standAt (wpAny_bind (wpAny_mono (turn n s hI) (fun r s₁ h₁=>?_) fun _ _ h'=>h'.elim)))
  cases r with
  | none=>exact wpAny_pure h₁
  | some v =>
    refine wpAny_bind (wpAny_mono h₁ (fun _ s₁' h₁'=>?_) fun _ _ h'=>h'.elim)
    refine wpAny_bind (wpAny_mono h₁' (fun _ s₂ h₂=>wpAny_bind (wpAny_mono h₂ (fun ok s₃ h₃=>?_) fun _ _ h'=>h'.elim)) fun _ _ h'=>h'.elim)
    cases ok with
    | false=>exact wpAny_pure ⟨rfl,h₃⟩
    | true =>
      exact wpAny_bind (wpAny_bind (wpAny_mono h₃ (fun x s₄ h₄=>wpAny_bind (wpAny_mono h₄ (fun _ s₅ h₅=>wpAny_pure (wpAny_pure ⟨rfl,h₅⟩)) fun _ _ h'=>h'.elim)) fun _ _ h'=>h'.elim))
end
def gH (K:PySem.W.Frag) (wi:TI) (tt:TT) (te:TE) (idx:List Nat):TE:=fun σ H Q=>wi σ H fun J H1=>∀ D,H1 D=none->K.lookup D=none->∃ W:Nat->Nat->List V->Hp->Prop,(∃ m,W 0 m [] (upd H1 D (.lst []))) /\
  ∀ i m ys H, W i m ys H -> H D = some (.lst ys) /\ ((J.stop i H /\ Q (.ref D) H) ∨ (J.go i H /\ ∀ x H', J.yld i H x H' -> tt (cσ idx σ (some x)) H' fun b H2 =>
    if b=true then te (cσ idx σ (some x)) H2 fun y H3=>H3 D=some (.lst ys)/\ys.length < sizeLine/\∃ m',m' < m/\W (i+1) m' (ys++[y]) (upd H3 D (.lst (ys++[y])))
    else ∃ m',m' < m/\W (i+1) m' ys H2))
section
variable {X:Cx} {elt iter:Expr} {x:Str} {px:Pos} {ifs:List Expr} {scope:Scope} {cl:List (Str×Addr)} {pos:Pos} {caps:List Str} {idx:List Nat} {wi:TI} {tt:TT} {te:TE}
theorem Gb {E:Value->Shared->Prop} {use:Option (Value->Sem Unit)} {QQ:Value->Shared->Prop} {newpos:Pos} (S:K2 X x scope cl caps idx) (hc:X.calm=true) (hi:PI X (.Name x px) iter wi)
    (ht:∀ C s₀ H₀ ex,PTs (XT X scope cl C (x::caps) s₀ H₀ ex) ifs tt) (he:∀ C s₀ H₀ ex,PE (XT X scope cl C (x::caps) s₀ H₀ ex) elt te)
    {pins:List (Addr×Obj)} {s:Shared} {σ:St} {H:Hp} {Q:VK} (I:Inv X pins σ H s) (h:gH X.K wi tt te idx σ H Q)
    (hE:X.xe=E)
    (hend:∀ (D C:Addr) (H':Hp) (s':Shared) (m:Str->Option Value),Inv X pins σ H' s'->Q (.ref D) H'->s'.heap.Ns C m->H' C=none->C≠X.env.locals->X.s₀.heap.objs.size<=C->(∀ x c,X.env.cells.lookup x=some c->c≠C)->(∀ p∈X.pn++pins,p.1≠C) ->
      compPost (model X.prog X.w) X.A E use QQ (.ref D) C (.ok .next) s')
    (hs:∀ x,foldedSetIterable iter X.env x=pure x:=by intro _;rfl) :
    wpAny (model X.prog X.w) X.A (comprehension (.ListComp elt [⟨.Name x px,iter,ifs,0⟩] scope pos) scope X.env newpos (newList []) false (eval iter X.env) use) QQ E s:=by
  subst hE
  refine wpAny_comprehension_free (use:=use) rfl hs S.clos S.kind S.names (thn (hi pins s σ H _ I h) fun xv s1 h1=>thn h1 fun itv s2 h2=>?_)
  obtain ⟨it,fp,tn,J,H2,rfl,I2,T,st2,f2,hQ⟩:=h2
  refine wpAny_newObj_type (wpAny_newFunctionEnv S.cell (by intro y hy;simp at hy) (fun h₁ hns₁ hsb₁=>?_) S.kind)
  dsimp only at hns₁ hsb₁ ⊢
  generalize hH2:s2.heap.push { cls:=.type "list", dict:=none,data:=.seq ([]:List Value).toArray }=hp3 at hns₁ hsb₁ ⊢
  have hC:hp3.objs.size=s2.heap.objs.size+1:=by rw [<- hH2,Heap.size_push]
  have keep3:∀ b o,s2.heap.get? b=some o->hp3.get? b=some o:=fun b o e=>hH2▸Heap.get?_push_of_some _ e
  have hDf:H2 s2.heap.objs.size=none:=I2.hok.fresh (Nat.le_refl _)
  have I3:Inv X pins σ (upd H2 s2.heap.objs.size (.lst [])) { s2 with heap:=hp3 } :=
    I2.laid (t':=s2.toks) keep3 (Nat.le_refl _) ⟨Nat.zero_le _,[],_,.nil,hH2▸Heap.get?_push_size _ rfl⟩
  have hDk:X.K.lookup s2.heap.objs.size=none:=by
    cases q:X.K.lookup s2.heap.objs.size with
    | none=>rfl
    | some o=>exact absurd (Heap.lt_size (I2.kIn _ o q)) (Nat.lt_irrefl _)
  obtain ⟨W,⟨m0,w0⟩,turn⟩:=hQ _ hDf hDk
  generalize hDd:s2.heap.objs.size=D at *
  generalize hCc:hp3.objs.size=C at *
  have ltC:∀ b o,hp3.get? b=some o->b≠C:=fun b o e=>by rw [<- hCc];exact Nat.ne_of_lt (Heap.lt_size e)
  have keep4:∀ b o,hp3.get? b=some o->h₁.get? b=some o:=fun b o e=>hsb₁.extBut b o (ltC b o e) (Heap.get?_push_of_some _ e)
  have s3sz:({ s2 with heap:=hp3 }:Shared).heap.objs.size=C:=hCc
  have clE:∀ y c,cl.lookup y=some c->X.env.cells.lookup y=some c:=fun y c e=>S.cls.mem (PySem.mem_of_lookup e)
  have fpLt:∀ b∈fp,∃ o,s2.heap.get? b=some o:=fun b hb=>let ⟨o,e,_⟩:=T.obj _ _ st2 b hb;⟨o,e⟩
  have fpC:∀ b∈fp,b≠C:=fun b hb=>let ⟨o,e⟩:=fpLt b hb;ltC b o (keep3 b o e)
  have fpD:∀ b∈fp,b≠D:=fun b hb=>let ⟨o,e⟩:=fpLt b hb;by rw [<- hDd];exact Nat.ne_of_lt (Heap.lt_size e)
  have fr3:∀ b∈fp,(upd H2 D (.lst [])) b=none:=fun b hb=>by rw [Q0 (fpD b hb)];exact (f2 b hb).1
  have cellLt:∀ y c,X.env.cells.lookup y=some c->c≠C:=fun y c e=>let ⟨v,o,ho,_⟩:=I3.cell y c e;ltC c o ho
  have fpStk:∀ b∈fp,b∉frs X.stack:=fun b hb z=>(List.mem_cons.mp (I2.stkSub b z)).elim (f2 b hb).2.1 (f2 b hb).2.2.1
  let X':=XT X scope cl C (x::caps) { s2 with heap:=hp3 } (upd H2 D (.lst [])) fp
  have ok':X'.Ok:=by
    refine ⟨I3.ok.mod,by show (relabel scope X.env).kind=_;exact S.kind,I3.ok.glob,I3.ok.blt,by show hp3.objs.size<=C;rw [hCc];exact Nat.le_refl _,fun y z c h1 h2=>I3.ok.inj y z c (clE y c h1) (clE z c h2),fun y hy=>?_,
      fun y c z=>(by cases z),I3.ok.hd,I3.ok.frames,.inl rfl,fun b hb=>⟨fpC b hb,fun y c e=>(f2 b hb).2.2.2.2.1 y c (clE y c e)⟩,I3.bs,Nat.le_trans I3.ok.bsz I3.sz,
      fun b o e hb=>?_,fun b hb=>fpStk b hb,I3.stack,I3.stkFree⟩
    . have hy':(relabel scope X.env).names.lookup y=some .cell∨(relabel scope X.env).names.lookup y=some .free:=hy
      have q:=S.has
      rw [List.all_eq_true] at q
      have:(cl.lookup y).isSome=true:=by
        rcases hy' with z | z
        . have q:=q _ (PySem.mem_of_lookup z);simpa using q
        . have q:=q _ (PySem.mem_of_lookup z);simpa using q
      exact Option.isSome_iff_exists.mp this
    . have:=(f2 b hb).2.2.2.1
      have e3:=(I2.ok.bs b o e).1
      rcases this with z | z
      . exact I2.ok.noex b o e z
      . exact absurd (Nat.lt_of_lt_of_le (Heap.lt_size e3) z) (Nat.lt_irrefl _)
  have capsLen:=S.cps.length
  have I4:Inv X' [] (cσ idx σ none) (upd H2 D (.lst [])) { s2 with heap:=h₁,toks:=s2.toks+([]:List (Str×Value)).length }:=by
    refine ⟨ok',rfl,I3.bare,Un.kept keep4,⟨_,hns₁,fun i y v e1 e2 e3=>?_⟩,fun y c e=>?_,?_,fun y c e=>I3.freeC y c (clE y c e),fun p hp=>absurd (show p∈([]:List (Addr×Obj)) from hp) (by simp),I3.hok.kept keep4,?_⟩
    . cases i with
      | zero=>exact absurd e2 (by simp [cσ])
      | succ j =>
        obtain ⟨k,h1,h2,h3,⟨c,h4⟩,h5⟩:=S.cps.get (show caps[j]?=some y by have e1':(x::caps)[j+1]?=some y:=e1;simpa using e1')
        have e2':(σ[k]?).join=some v:=by simpa [cσ,h1] using e2
        have e2'':σ[k]?=some (some v):=by
          cases q:σ[k]? with
          | none=>rw [q] at e2';cases e2'
          | some z=>rw [q] at e2';exact congrArg some e2'
        obtain ⟨mL,hnL,hl⟩:=I3.loc
        have vis:Vis X.env.scope y:=by rcases h3 with z | z;exact .inr (.inl z);exact .inr (.inr z)
        obtain ⟨u,r,l⟩:=hl k y v h2 e2'' vis
        refine ⟨u,r,.inr ⟨?_,c,h4,?_⟩⟩
        . have e3':(relabel scope X.env).names.lookup y=some .local∨(relabel scope X.env).names.lookup y=some .cell∨(relabel scope X.env).names.lookup y=some .free:=e3
          rcases e3' with z | z | z
          . exact absurd z h5
          . exact .inl z
          . exact .inr z
        . rcases l with ⟨z,_⟩ | ⟨_,c',e,z⟩
          . rcases h3 with q | q <;> · rw [q] at z;cases z
          . rw [clE y c h4] at e;cases e
            obtain ⟨o,ho,hd⟩:=z
            exact ⟨o,keep4 _ _ ho,hd⟩
    . obtain ⟨v,o,ho,hd⟩:=I3.cell y c (clE y c e)
      exact ⟨v,o,keep4 _ _ ho,hd⟩
    . exact I3.hok.fresh (by show hp3.objs.size<=C;rw [hCc];exact Nat.le_refl _)
    . simp [cσ,X',XT,capsLen]
  have st4:tn 0 h₁:=T.keep _ _ _ st2 fun b _ o e=>keep4 b o (keep3 b o e)
  have fpX:∀ {H':Hp} {pins':List (Addr×Obj)},(∀ b∈fp,H' b=none)->(pins'=[])->∀ b∈fp,V3 X' pins' H' b:=fun hn e b hb=>by
    subst e
    exact ⟨hn b hb,fpC b hb,fpStk b hb,.inl hb,fun y c e=>(f2 b hb).2.2.2.2.1 y c (clE y c e),fun p hp=>absurd (show p∈([]:List (Addr×Obj)) from hp) (by simp)⟩
  have loop:∀ s₃:Shared,s₃={ s2 with heap:=h₁,toks:=s2.toks+([]:List (Str×Value)).length } ->
      codeAny (model X.prog X.w) X.A (.compLoop (.ListComp elt [⟨.Name x px,iter,ifs,0⟩] scope pos) 0 (.ref it) (.ref D) (compEnvC scope cl C X.env)) (compPost (model X.prog X.w) X.A X.xe use QQ (.ref D) C) s₃:=by
    rintro s₃ rfl
    refine Kn (fun n s'=>∃ i o H' ys,Inv X' [] (cσ idx σ o) H' s'/\tn i s'.heap/\(∀ b∈fp,H' b=none)/\W i n ys H') ?_ m0 ⟨0,none,_,[],I4,st4,fr3,w0⟩
    rintro n s5 ⟨i,o,H5,ys,I5,st5,fr5,w5⟩
    obtain ⟨hD,tw⟩:=turn i n ys H5 w5
    rcases tw with ⟨stop,q⟩ | ⟨go,step⟩
    . refine thn (T.done X' rfl rfl rfl hc i [] s5 _ H5 _ I5 (fpX fr5 rfl) st5 stop) fun r s6 ⟨hr,I6⟩=>?_
      subst hr
      obtain ⟨m6,hn6,_⟩:=I6.loc
      have I7:Inv X pins σ H5 s6:=I3.call' (s':=s6) (ch:=fp) I6.os I6.base I6.hok I6.bare fun b hb=>⟨(f2 b hb).2.2.2.1,(f2 b hb).2.1,(f2 b hb).2.2.2.2.1,(f2 b hb).2.2.2.2.2⟩
      refine hend D C H5 s6 m6 I7 q hn6 I6.free ?_ ?_ cellLt fun p hp=>?_
      . rw [<- hCc];exact Nat.ne_of_gt I3.lt
      . rw [<- hCc];exact I3.sz
      . exact ltC p.1 p.2 (I3.pin p hp).1
    . refine thn (T.item X' rfl rfl rfl hc i [] s5 _ H5 _ I5 (fpX fr5 rfl) st5 go) fun r s6 ⟨u,hr,h6⟩=>?_
      subst hr
      refine thn h6 fun _ s7 ⟨y,H7,I7,r7,y7,st7,fr7⟩=>?_
      have I7':=I7.pinned (fpX fr7 rfl) (T.obj _ _ st7)
      refine thn (KH (X:=X') (i:=0) S.nd rfl (.inl (lookup_relabel_local S.hx)) (.inr (lookup_relabel_local S.hx)) _ s7 _ H7 y u (fun σ' H'=>σ'=cσ idx σ (some y)/\H'=H7) I7' r7 ⟨rfl,rfl⟩) fun _ s8 ⟨σ8,H8,I8,e8,e8'⟩=>?_
      subst e8
      subst e8'
      have again:∀ {H9:Hp} {s9:Shared} {ys':List V},Inv X' ([]++Vy fp s7.heap) (cσ idx σ (some y)) H9 s9->(∃ m',m' < n/\W (i+1) m' ys' H9) ->
          ∃ m,m < n/\∃ i o H' ys,Inv X' [] (cσ idx σ o) H' s9/\tn i s9.heap/\(∀ b∈fp,H' b=none)/\W i m ys H':=fun {H9 s9 ys'} I9 ⟨m',hm,w9⟩=>by
        refine ⟨m',hm,i+1,some y,H9,ys',I9.unpinned,T.keep _ _ _ st7 fun b hb o e=>(I9.pin (b,o) (List.mem_append_right _ (List.mem_append_right _ (qF hb e)))).1,fun b hb=>?_,w9⟩
        obtain ⟨o,e,d⟩:=T.obj _ _ st7 b hb
        exact (I9.pin (b,o) (List.mem_append_right _ (List.mem_append_right _ (qF hb e)))).2.1
      refine thn (ht _ _ _ _ _ s8 _ H8 _ I8 (step y H8 y7)) fun ok s9 ⟨H9,I9,q9⟩=>?_
      cases ok with
      | false=>exact again I9 (by rw [if_neg Bool.false_ne_true] at q9;exact q9)
      | true =>
        rw [if_pos rfl] at q9 ⊢
        refine thn (he _ _ _ _ _ s9 _ H9 _ I9 q9) fun v s10 ⟨z,H10,I10,r10,hD10,hlen,m',hm,w10⟩=>?_
        refine thn (UN (X:=X') _ s10 _ H10 (.ref D) [z] (.ref D) [v] (fun _ H'=>H'=upd H10 D (.lst (ys++[z]))) I10 rfl (.cons r10 .nil) ⟨D,ys,z,rfl,rfl,hD10,hlen,rfl⟩) fun _ s11 ⟨_,H11,I11,_,e11⟩=>?_
        subst e11
        exact again I11 ⟨m',hm,w10⟩
  exact codeAny_compStart_list (loop _ rfl) (T.self X.A 0 _ _ _ st4 (loop _ rfl))
end
end L2
namespace L2
open PySem PySem.Spec PyProof.Rows
section
variable {X:Cx} {elt iter:Expr} {x:Str} {px:Pos} {ifs:List Expr} {scope:Scope} {cl:List (Str×Addr)} {pos:Pos} {caps:List Str} {idx:List Nat} {wi:TI} {tt:TT} {te:TE}
theorem Qdb (S:K2 X x scope cl caps idx) (hc:X.calm=true) (hi:PI X (.Name x px) iter wi)
  (ht:∀ C s₀ H₀ ex,PTs (XT X scope cl C (x::caps) s₀ H₀ ex) ifs tt) (he:∀ C s₀ H₀ ex,PE (XT X scope cl C (x::caps) s₀ H₀ ex) elt te)
  (hs:∀ x,foldedSetIterable iter X.env x=pure x:=by intro _;rfl):PE X (.ListComp elt [⟨.Name x px,iter,ifs,0⟩] scope pos) (gH X.K wi tt te idx):=by
 intro pins s σ H Q I h
 rw [eval_ListComp]
 refine Gb (use:=none) S hc hi ht he I h rfl (fun D C H' s' m I' q hn hC h1 h2 h3 h4=>?_) hs
 show ∃ m,s'.heap.Ns C m/\∀ h',Heap.SameBut C s'.heap h'->EP X pins σ Q (.ref D) { s' with heap:=h' }
 exact ⟨m,hn,fun h' hs=>⟨.ref D,H',I'.turned (t':=s'.toks) (fun b o hb e=>hs.extBut b o hb e) hC (Ne.symm (Ne.symm h1)) (.inr h2) h3 h4,rfl,q⟩⟩
theorem Qdp {i:Nat} {y:Str} {py spos:Pos} (S:K2 X x scope cl caps idx) (hc:X.calm=true) (hi:PI X (.Name x px) iter wi)
  (ht:∀ C s₀ H₀ ex,PTs (XT X scope cl C (x::caps) s₀ H₀ ex) ifs tt) (he:∀ C s₀ H₀ ex,PE (XT X scope cl C (x::caps) s₀ H₀ ex) elt te)
  (hN:X.N.Nodup) (hy:X.N[i]?=some y) (hx:Loc X.env.scope y) (hsw:swapsWith (.ListComp elt [⟨.Name x px,iter,ifs,0⟩] scope pos) (some (.Name y py)) spos.line X.env=pure true)
  (hf:X.fn y=true∨X.env.scope.names.lookup y=some .local:=by first | exact .inl rfl | exact .inr rfl | assumption)
  (hs:∀ x,foldedSetIterable iter X.env x=pure x:=by intro _;rfl):PS X (.Assign [.Name y py] (.ListComp elt [⟨.Name x px,iter,ifs,0⟩] scope pos) spos) (QdK (gH X.K wi tt te idx) (uO i)):=by
 intro pins s σ H D I h
 rw [exec_Assign_Name_used _ _ _ _ hsw]
 refine wpAny_bind (wpAny_standAt (wpAny_bind ?_))
 show wpAny _ X.A (do let _ <- comprehension (.ListComp elt [⟨.Name x px,iter,ifs,0⟩] scope pos) scope X.env _ (newList []) false (eval iter X.env) (some (assign (.Name y py) X.env))) _ _ s
 refine wpAny_bind (wpAny_mono (Gb (use:=some (assign (.Name y py) X.env)) (QQ:=fun _ s'=>SP X pins D .next s') S hc hi ht he I h rfl (fun Da C H' s' m I' q hn hC h1 h2 h3 h4=>?_) hs) (fun _ s' hq=>wpAny_pure (wpAny_pure hq)) fun _ _ e=>e)
 show wpAny _ X.A (assign (.Name y py) X.env (.ref Da)) (fun _ s''=>∃ m,s''.heap.Ns C m/\∀ h',Heap.SameBut C s''.heap h'->SP X pins D .next { s'' with heap:=h' }) _ s'
 refine wpAny_assign_Name (U6 I' hN hy hx (v:=.ref Da) rfl (fun s'' I'' ⟨a,hs,ha⟩=>?_) hf)
 refine ⟨m,hn.sameBut hs ?_,fun h' hs'=>⟨_,H',I''.turned (t':=s''.toks) (fun b o hb e=>hs'.extBut b o hb e) hC h1 (.inr h2) h3 h4,q⟩⟩
 rcases ha with rfl | ha
 ·exact h1
 ·exact Ne.symm (h3 _ _ ha)
end
end L2
namespace D
open PySem PySem.Spec PyProof.Rows L2
section
variable {K:PySem.W.Frag} {Z:Ent} {env:En} {σ:St} {ρ ρ':List Addr} {B B':Addr->Prop} {hp hp':Hs} {H H':Hp}
theorem SOk.set {i:Nat} {d:DV} {v:V} (S:SOk K Z env σ ρ B hp H) (r:RepV K ρ B H d v):SOk K Z (env.set i (.val d)) (σ.set i (some v)) ρ B hp H where
 gr:=S.gr
 zb:=S.zb
 wo:=S.wo
 slot:=fun j e h=>by
  by_cases hj:j=i
  ·subst hj
   have hl:j < env.length:=by have:=(List.getElem?_eq_some_iff.mp h).1;simpa using this
   rw [List.getElem?_set_self hl] at h;cases h
   exact ⟨v,List.getElem?_set_self (by rw [S.len];exact hl),r⟩
  ·rw [List.getElem?_set_ne (Ne.symm hj)] at h ⊢
   exact S.slot j e h
 accs:=fun j ds h=>by
  by_cases hj:j=i
  ·subst hj
   have hl:j < env.length:=by have:=(List.getElem?_eq_some_iff.mp h).1;simpa using this
   rw [List.getElem?_set_self hl] at h;cases h
  ·rw [List.getElem?_set_ne (Ne.symm hj)] at h ⊢
   exact S.accs j ds h
 adis:=fun j k ds es a h1 h2 h3 h4=>by
  have nj:∀ {j:Nat} {ds:List DV},(env.set i (.val d))[j]?=some (.acc ds)->j≠i:=fun {j ds} h e=>by
   subst e
   have hl:j < env.length:=by have:=(List.getElem?_eq_some_iff.mp h).1;simpa using this
   rw [List.getElem?_set_self hl] at h;cases h
  have hj:=nj h1
  have hk:=nj h2
  rw [List.getElem?_set_ne (Ne.symm hj)] at h1 h3
  rw [List.getElem?_set_ne (Ne.symm hk)] at h2 h4
  exact S.adis j k ds es a h1 h2 h3 h4
 len:=by simp [S.len]
end
section
variable {X:Cx} {e a b c:Expr} {f fa fb:DEx} {ca cb:DTx} {pos:Pos} {st:Stmt} {sts rest:List Stmt} {s s':DSx}
theorem FolS.after {K:PySem.W.Frag} {Z:Ent} {ρ ρ1:List Addr} {B B1:Addr->Prop} {H H1:Hp} {fl:Fl} {env':En} {hp':Hs} {D:Ke} (g:Gs K ρ B H ρ1 B1 H1) (k:FolS K Z ρ B H fl env' hp' D):FolS K Z ρ1 B1 H1 fl env' hp' D :=
 fun σ' ρ' B' H' g' S=>k σ' ρ' B' H' (g.trans g') S
def Zb:DSx:=fun env=>pure (.nx,env)
def Qr (f g:DSx):DSx:=fun env=>do
 let r <- f env
 match r.1 with
 | .nx=>g r.2
 | _=>pure r
def sIf (c:DTx) (f g:DSx):DSx:=fun env=>do if <- c env then f env else g env
def QE (f:DEx):DSx:=fun env=>do let d <- f env;pure (.rt d,env)
def qc:DSx:=fun env=>pure (.rt .non,env)
def ZN (f:DEx):DSx:=fun env=>do let _ <- f env;pure (.nx,env)
def QC (i:Nat) (f:DEx):DSx:=fun env=>do let d <- f env;pure (.nx,env.set i (.val d))
theorem QJ:DSs X [] Zb:=pss_nil.imp fun D σ H ⟨Z,env,ρ,B,hp,fl,env',hp',S,e,k⟩=>by
 obtain ⟨e1,rfl⟩:=Qj e
 cases e1
 exact k σ ρ B H Gs.refl S
theorem Qb3 {K:PySem.W.Frag} {D:Ke} {σ:St} {H:Hp} (h:tDS K (Qr s s') D σ H):QgR (tDS K s) (tDS K s') D σ H:=by
 obtain ⟨Z,env,ρ,B,hp,fl,env',hp',S,e,k⟩:=h
 obtain ⟨⟨f1,env1⟩,hp1,e1,e2⟩:=Qf e
 refine ⟨Z,env,ρ,B,hp,f1,env1,hp1,S,e1,fun σ' ρ' B' H' g S'=>?_⟩
 cases f1 with
 | nx=>exact ⟨Z,env1,ρ',B',hp1,fl,env',hp',S',e2,k.after g⟩
 | rt d=>obtain ⟨z,rfl⟩:=Qj e2;cases z;exact k σ' ρ' B' H' g S'
 | bk=>obtain ⟨z,rfl⟩:=Qj e2;cases z;exact k σ' ρ' B' H' g S'
 | ct=>obtain ⟨z,rfl⟩:=Qj e2;cases z;exact k σ' ρ' B' H' g S'
theorem Qh (h1:DS X st s) (h2:DSs X rest s'):DSs X (st::rest) (Qr s s'):=(QbT h1 h2).imp fun _ _ _ h=>Qb3 h
theorem Qp (h1:DS X st s):DSs X [st] s:=Qdr h1
theorem Zh {x y:List Stmt} (hc:DT X c ca) (h1:DSs X x s) (h2:DSs X y s'):DS X (.If c x y pos) (sIf ca s s') :=
 (QgA hc h1 h2).imp fun D σ H ⟨Z,env,ρ,B,hp,fl,env',hp',S,e,k⟩=>by
  obtain ⟨x,hp1,e1,e2⟩:=Qf e
  refine tDT.run S e1 fun ρ1 B1 H1 g1 S1=>?_
  cases x with
  | true=>exact Gz ⟨Z,env,ρ1,B1,hp1,fl,env',hp',S1,e2,k.after (g1.gs S.wo.rb)⟩
  | false=>exact Gy ⟨Z,env,ρ1,B1,hp1,fl,env',hp',S1,e2,k.after (g1.gs S.wo.rb)⟩
theorem Qs (h:DE X e f):DS X (.Return (some e) pos) (QE f) :=
 (Qfo h).imp fun D σ H ⟨Z,env,ρ,B,hp,fl,env',hp',S,e,k⟩=>by
  obtain ⟨d,hp1,e1,e2⟩:=Qf e
  obtain ⟨z,rfl⟩:=Qj e2;cases z
  exact tD.run S e1 fun v ρ1 B1 H1 g1 S1 r1=>k σ ρ1 B1 H1 (g1.gs S.wo.rb) S1 v r1
theorem JL (h:DE X e f) (hs:swapsWith e none pos.line X.env=pure false:=by rfl):DS X (.Expr e pos) (ZN f) :=
 (Qdq h hs).imp fun D σ H ⟨Z,env,ρ,B,hp,fl,env',hp',S,e,k⟩=>by
  obtain ⟨d,hp1,e1,e2⟩:=Qf e
  obtain ⟨z,rfl⟩:=Qj e2;cases z
  exact tD.run S e1 fun v ρ1 B1 H1 g1 S1 r1=>k σ ρ1 B1 H1 (g1.gs S.wo.rb) S1
theorem GR {K:PySem.W.Frag} {D:Ke} {σ:St} {H:Hp} {i:Nat} {t:TE} (ht:∀ σ H Q,tD K f σ H Q->t σ H Q) (h:tDS K (QC i f) D σ H):QdK t (uO i) D σ H:=by
 obtain ⟨Z,env,ρ,B,hp,fl,env',hp',S,e,k⟩:=h
 obtain ⟨d,hp1,e1,e2⟩:=Qf e
 obtain ⟨z,rfl⟩:=Qj e2;cases z
 exact ht _ _ _ (tD.run S e1 fun v ρ1 B1 H1 g1 S1 r1=>k _ ρ1 B1 H1 (g1.gs S.wo.rb) (S1.set r1))
theorem QF (i:Nat) {x:Str} {pos':Pos} (hN:X.N.Nodup) (he:DE X e f) (hi:X.N[i]?=some x:=by rfl) (hx:Loc X.env.scope x:=by first | exact Or.inl rfl | exact Or.inr rfl) (hs:swapsWith e (some (.Name x pos')) pos.line X.env=pure false:=by rfl)
  (hf:X.fn x=true∨X.env.scope.names.lookup x=some .local:=by first | exact .inl rfl | exact .inr rfl | assumption):DS X (.Assign [.Name x pos'] e pos) (QC i f) :=
 (Qfp hN hi hx he hs hf).imp fun _ _ _ h=>GR (fun _ _ _ q=>q) h
abbrev DGx:=DV->En->M En
def tDG (K:PySem.W.Frag) (g:DGx):TG:=fun v σ H Q=>∃ Z env ρ B hp d env' hp',SOk K Z env σ ρ B hp H/\RepV K ρ B H d v/\g d env hp=some (env',hp')/\∀ σ' ρ' B' H',Gs K ρ B H ρ' B' H'->SOk K Z env' σ' ρ' B' hp' H'->Q σ' H'
def gN (i:Nat):DGx:=fun d env=>pure (env.set i (.val d))
theorem Ko (i:Nat) {x:Str} (hN:X.N.Nodup) (hi:X.N[i]?=some x:=by rfl) (hx:Loc X.env.scope x:=by first | exact Or.inl rfl | exact Or.inr rfl) (hf:X.fn x=true∨X.env.scope.names.lookup x=some .local:=by first | exact .inl rfl | exact .inr rfl | assumption):PG X (.Name x pos) (tDG X.K (gN i)):=by
 intro pins s σ H v u Q I r h
 refine KH hN hi hx hf pins s σ H v u Q I r ?_
 obtain ⟨Z,env,ρ,B,hp,d,env',hp',S,rd,e,k⟩:=h
 obtain ⟨rfl,rfl⟩:=Qj e
 exact k _ ρ B H Gs.refl (S.set rd)
def gS (K:PySem.W.Frag) (ρ:List Addr) (B:Addr->Prop) (H:Hp) (ds:List DV) (J:It):Prop :=
 ∀ ρ1 B1 H1,Gs K ρ B H ρ1 B1 H1->(∀ b∈ρ1,B1 b)->(∀ a,B1 a->H1 a≠none)->(∀ (i:Nat) (d:DV),ds[i]?=some d->J.go i H1/\∀ x H',J.yld i H1 x H'->RepV K ρ1 B1 H' d x/\(H'=H1∨∃ p o,H1 p=none/\H'=upd H1 p o))/\J.stop ds.length H1
abbrev DIx:=En->M (List DV)
def tDI (K:PySem.W.Frag) (f:DIx):TI:=fun σ H R=>∃ Z env ρ B hp ds hp',SOk K Z env σ ρ B hp H/\f env hp=some (ds,hp')/\∀ J ρ' B' H',Gr K ρ B H ρ' B' H'->WOk K ρ' B' hp' H'->gS K ρ' B' H' ds J->R J H'
def DI (X:Cx) (tg iter:Expr) (f:DIx):Prop:=PI X tg iter (tDI X.K f)
def Uq:DV->M (List DV)
 | .tup ds=>pure ds
 | _=>failure
def iTp (f:DEx):DIx:=fun env=>do Uq (<- f env)
theorem Yg {d:DV} {ds:List DV} {hp hp':Hs} (h:Uq d hp=some (ds,hp')):d=.tup ds/\hp=hp':=by
 cases d with
 | tup xs=>obtain ⟨rfl,rfl⟩:=Qj h;exact ⟨rfl,rfl⟩
 | _=>cases h
theorem QcU {K:PySem.W.Frag} {ρ:List Addr} {B:Addr->Prop} {H:Hp} {ds:List DV} {a:Addr} {xs:List V} (nb:¬ B a) (sq:SqL K H a xs) (rl:RepL K ρ B H ds xs):gS K ρ B H ds (Itl K a):=fun ρ1 B1 H1 g _ _=>by
 have sq1:=g.sqL nb sq
 have rl1:=RepL.gs g _ _ rl
 refine ⟨fun i d e=>?_,xs,sq1,by rw [rl1.length];exact Nat.le_refl _⟩
 obtain ⟨x,hx,r⟩:=rl1.get e
 refine ⟨⟨xs,x,sq1,hx⟩,fun y H' ⟨e',q⟩=>?_⟩
 subst e'
 have:=q xs sq1
 rw [hx] at this;cases this
 exact ⟨r,.inl rfl⟩
theorem QeC {K:PySem.W.Frag} {ρ:List Addr} {B:Addr->Prop} {H:Hp} {ds:List DV} {a:Addr} {xs:List V} (nb:¬ B a) (sq:SqT K H a xs) (rl:RepL K ρ B H ds xs):gS K ρ B H ds (Itt K a):=fun ρ1 B1 H1 g _ _=>by
 have sq1:=g.sqT nb sq
 have rl1:=RepL.gs g _ _ rl
 refine ⟨fun i d e=>?_,xs,sq1,by rw [rl1.length];exact Nat.le_refl _⟩
 obtain ⟨x,hx,r⟩:=rl1.get e
 refine ⟨⟨xs,x,sq1,hx⟩,fun y H' ⟨e',q⟩=>?_⟩
 subst e'
 have:=q xs sq1
 rw [hx] at this;cases this
 exact ⟨r,.inl rfl⟩
def Zx (lo:Int) (n:Nat):List DV:=(List.range n).map fun (i:Nat)=>.int (lo+(i:Int))
theorem Qbb {K:PySem.W.Frag} {ρ:List Addr} {B:Addr->Prop} {H:Hp} {lo:Int} {n:Nat}:gS K ρ B H (Zx lo n) (Itr lo n):=fun ρ1 B1 H1 g _ _=>by
 refine ⟨fun i d e=>?_,by show n<=_;simp [Zx]⟩
 have hi:i < n:=by have:=(List.getElem?_eq_some_iff.mp e).1;simpa [Zx] using this
 refine ⟨hi,fun y H' ⟨e',q⟩=>?_⟩
 subst e' q
 have:d=.int (lo+i):=by simp [Zx,hi] at e;exact e.symm
 subst this
 exact ⟨JM,.inl rfl⟩
variable {tg iter:Expr}
theorem _root_.L2.PI.imp {wi wi':TI} (h:PI X tg iter wi) (i:∀ σ H R,wi' σ H R->wi σ H R):PI X tg iter wi':=fun pins s σ H R I q=>h pins s σ H R I (i σ H R q)
theorem QaM (h:DE X iter f):DI X tg iter (iTp f):=(Qfi h).imp fun σ H R ⟨Z,env,ρ,B,hp,ds,hp',S,e,k⟩=>by
 obtain ⟨d,hp1,e1,e2⟩:=Qf e
 obtain ⟨rfl,rfl⟩:=Yg e2
 refine tD.run S e1 fun v ρ1 B1 H1 g1 S1 r1=>?_
 obtain ⟨a,xs,rfl,nb,sq,rl⟩:=r1.tupI
 exact ⟨a,rfl,⟨xs,sq⟩,k _ ρ1 B1 H1 g1 S1.wo (QeC nb sq rl)⟩
def VU (j:Int):Bool:=decide (-(2 ^ 62)<=j/\j < 2 ^ 62)
def Qam:List DV->M (List DV)
 | [.int j]=>do Qw (VU j);pure (Zx 0 j.toNat)
 | _=>failure
def yQ (f:DAx):DIx:=fun env=>do Qam (<- f env)
theorem Qan {ds out:List DV} {hp hp':Hs} (h:Qam ds hp=some (out,hp')):∃ j:Int,ds=[.int j]/\VU j=true/\out=Zx 0 j.toNat/\hp=hp':=by
 unfold Qam at h
 split at h
 ·obtain ⟨u,hp1,e1,e2⟩:=Qf h
  obtain ⟨h1,rfl⟩:=QH e1
  obtain ⟨rfl,rfl⟩:=Qj e2
  exact ⟨_,rfl,h1,rfl,rfl⟩
 ·cases h
theorem RepL.ints1 {K:PySem.W.Frag} {ρ:List Addr} {B:Addr->Prop} {H:Hp} {j:Int} {vs:List V} (h:RepL K ρ B H [.int j] vs):vs=[.int j]:=by
 unfold RepL at h
 obtain ⟨x,r,rfl,h1,h2⟩:=h
 unfold RepL at h2
 rw [h1.intI,h2]
theorem RepL.ints2 {K:PySem.W.Frag} {ρ:List Addr} {B:Addr->Prop} {H:Hp} {i j:Int} {vs:List V} (h:RepL K ρ B H [.int i,.int j] vs):vs=[.int i,.int j]:=by
 unfold RepL at h
 obtain ⟨x,r,rfl,h1,h2⟩:=h
 rw [h1.intI,h2.ints1]
theorem Ye {x:Expr} {p:Pos} {f:DAx} (hg:Gl X "range") (hm:X.mg "range" = none) (ha:DA X [x] f) (hs:starEach [x] X.env=[(false,eval x X.env)]:=by rfl):DI X tg (.Call (.Name "range" p) [x] [] pos) (yQ f) :=
 (Qaj hg hm ha hs).imp fun σ H R ⟨Z,env,ρ,B,hp,ds,hp',S,e,k⟩=>by
  obtain ⟨d,hp1,e1,e2⟩:=Qf e
  obtain ⟨j,rfl,h1,rfl,rfl⟩:=Qan e2
  refine tDA.run S e1 fun vs ρ1 B1 H1 g1 S1 r1=>?_
  have h1':=of_decide_eq_true h1
  exact ⟨j,r1.ints1,h1'.1,h1'.2,k _ ρ1 B1 H1 g1 S1.wo Qbb⟩
def Vg (b:DV->DSx):List DV->DSx
  | [],env=>pure (.nx,env)
  | d::ds,env=>do
    let r <- b d env
    match r.1 with
    | .nx=>Vg b ds r.2
    | .ct=>Vg b ds r.2
    | .bk=>pure (.nx,r.2)
    | .rt x=>pure (.rt x,r.2)
def Qb1 (f:DIx) (g:DGx) (body:DSx):DSx:=fun env=>do let ds <- f env;Vg (fun d env=>do let env' <- g d env;body env') ds env
theorem uh {K:PySem.W.Frag} {ρ:List Addr} {B:Addr->Prop} {H:Hp} {p:Addr} {o:HO} (rb:∀ a∈ρ,B a) (h:H p=none):Gs K ρ B H ρ B (upd H p o):=(Gr.laid h).gs rb
theorem QaP {body:List Stmt} {fi:DIx} {g:DGx} {sb:DSx} (hp:PassesOwn (model X.prog X.w) X.A X.env X.xe) (hc:X.calm=true) (hi:DI X tg iter fi) (hg:PG X tg (tDG X.K g)) (hb:DSs X body sb)
  (hs:∀ x,foldedSetIterable iter X.env x=pure x:=by intro _;rfl):DS X (.For tg iter body [] pos) (Qb1 fi g sb) :=
 (QbQ hp hc hi hg hb hs).imp fun D σ H ⟨Z,env,ρ,B,hp,fl,env',hp',S,e,k⟩=>by
  obtain ⟨ds,hp1,e1,e2⟩:=Qf e
  refine ⟨Z,env,ρ,B,hp,ds,hp1,S,e1,fun J ρ1 B1 H1 g1 W1 it=>?_⟩
  have k1:=k.after (g1.gs S.wo.rb)
  refine ⟨fun i m σ H=>m=ds.length - i/\i<=ds.length/\∃ env ρ B hp,SOk X.K Z env σ ρ B hp H/\Gs X.K ρ1 B1 H1 ρ B H/\Vg (fun d env=>do let env' <- g d env;sb env') (ds.drop i) env hp=some ((fl,env'),hp'),
   ⟨ds.length,rfl,Nat.zero_le _,env,ρ1,B1,hp1,S.grow g1 W1,Gs.refl,by simpa using e2⟩,?_⟩
  rintro i m σ H ⟨rfl,hi,env2,ρ2,B2,hp2,S2,g2,e3⟩
  obtain ⟨itg,its⟩:=it ρ2 B2 H g2 S2.wo.rb S2.wo.bt
  by_cases hlt:i < ds.length
  ·have hd:ds[i]?=some ds[i]:=List.getElem?_eq_getElem hlt
   obtain ⟨go,yl⟩:=itg i _ hd
   rw [List.drop_eq_getElem_cons hlt] at e3
   obtain ⟨⟨f1,env4⟩,hp4,e4,e5⟩:=Qf e3
   obtain ⟨env3,hp3,e6,e7⟩:=Qf e4
   refine .inr ⟨go,fun σ' H'=>∃ env ρ B hp,SOk X.K Z env σ' ρ B hp H'/\Gs X.K ρ1 B1 H1 ρ B H'/\Vg (fun d env=>do let env' <- g d env;sb env') (ds.drop (i+1)) env hp=some ((fl,env'),hp'),
    fun σ' H' q=>⟨ds.length - (i+1),by omega,rfl,hlt,q⟩,fun x H' y=>?_⟩
   obtain ⟨rx,hx⟩:=yl x H' y
   have S3:SOk X.K Z env2 σ ρ2 B2 hp2 H'/\Gs X.K ρ2 B2 H ρ2 B2 H':=by
    rcases hx with rfl | ⟨p,o,hn,rfl⟩
    ·exact ⟨S2,Gs.refl⟩
    ·exact ⟨S2.grow (Gr.laid hn) (S2.wo.laid hn),uh S2.wo.rb hn⟩
   refine ⟨Z,env2,ρ2,B2,hp2,ds[i],env3,hp3,S3.1,rx,e6,fun σ5 ρ5 B5 H5 g5 S5=>⟨Z,env3,ρ5,B5,hp3,f1,env4,hp4,S5,e7,fun σ6 ρ6 B6 H6 g6 S6=>?_⟩⟩
   have G6:=g2.trans (S3.2.trans (g5.trans g6))
   cases f1 with
   | nx=>exact ⟨env4,ρ6,B6,hp4,S6,G6,e5⟩
   | ct=>exact ⟨env4,ρ6,B6,hp4,S6,G6,e5⟩
   | bk=>obtain ⟨z,rfl⟩:=Qj e5;cases z;exact k1 σ6 ρ6 B6 H6 G6 S6
   | rt d=>obtain ⟨z,rfl⟩:=Qj e5;cases z;exact k1 σ6 ρ6 B6 H6 G6 S6
  ·have e:i=ds.length:=by omega
   subst e
   rw [List.drop_length] at e3
   obtain ⟨z,rfl⟩:=Qj e3;cases z
   exact .inl ⟨its,k1 σ ρ2 B2 H g2 S2⟩
def XX (c:DTx) (b:DSx):Nat->DSx
  | 0,_=>failure
  | n+1,env=>do
    if <- c env then
      let r <- b env
      match r.1 with
      | .nx=>XX c b n r.2
      | .ct=>XX c b n r.2
      | .bk=>pure (.nx,r.2)
      | .rt x=>pure (.rt x,r.2)
    else pure (.nx,env)
theorem QaQ (n:Nat) {body:List Stmt} {sb:DSx} (hp:PassesOwn (model X.prog X.w) X.A X.env X.xe) (hc:DT X c ca) (hb:DSs X body sb):DS X (.While c body [] pos) (XX ca sb n) :=
  (QbS hp hc hb).imp fun D σ H ⟨Z,env,ρ,B,hp,fl,env',hp',S,e,k⟩=>by
    refine ⟨fun m σ H1=>∃ env1 ρ1 B1 hp1,SOk X.K Z env1 σ ρ1 B1 hp1 H1/\Gs X.K ρ B H ρ1 B1 H1/\XX ca sb m env1 hp1=some ((fl,env'),hp'),⟨n,env,ρ,B,hp,S,Gs.refl,e⟩,?_⟩
    rintro m σ H1 ⟨env1,ρ1,B1,hp1,S1,g1,e1⟩
    cases m with
    | zero=>cases e1
    | succ m =>
      obtain ⟨x,hp2,e2,e3⟩:=Qf e1
      refine tDT.run S1 e2 fun ρ2 B2 H2 g2 S2=>?_
      have G2:=g1.trans (g2.gs S1.wo.rb)
      cases x with
      | false =>
        obtain ⟨z,rfl⟩:=Qj e3;cases z
        exact Gy (k σ ρ2 B2 H2 G2 S2)
      | true =>
        obtain ⟨⟨f1,env4⟩,hp4,e4,e5⟩:=Qf e3
        refine Gz ⟨fun σ' H'=>∃ env1 ρ1 B1 hp1,SOk X.K Z env1 σ' ρ1 B1 hp1 H'/\Gs X.K ρ B H ρ1 B1 H'/\XX ca sb m env1 hp1=some ((fl,env'),hp'),fun σ' H' q=>⟨m,Nat.lt_succ_self m,q⟩,?_⟩
        refine ⟨Z,env1,ρ2,B2,hp2,f1,env4,hp4,S2,e4,fun σ6 ρ6 B6 H6 g6 S6=>?_⟩
        have G6:=G2.trans g6
        cases f1 with
        | nx=>exact ⟨env4,ρ6,B6,hp4,S6,G6,e5⟩
        | ct=>exact ⟨env4,ρ6,B6,hp4,S6,G6,e5⟩
        | bk=>obtain ⟨z,rfl⟩:=Qj e5;cases z;exact k σ6 ρ6 B6 H6 G6 S6
        | rt d=>obtain ⟨z,rfl⟩:=Qj e5;cases z;exact k σ6 ρ6 B6 H6 G6 S6
end
end D
namespace D
open PySem PySem.Spec PyProof.Rows L2
section
variable {K:PySem.W.Frag} {Z:Ent} {env:En} {σ:St} {ρ ρ':List Addr} {B B':Addr->Prop} {hp hp':Hs} {H H':Hp}
def yN (B:Addr->Prop) (p:Addr):Addr->Prop:=fun a=>B a∨a=p
theorem Gr.banned {p:Addr} {o:HO} (h:H p=none) (kf:K.lookup p=none):Gr K ρ B H ρ (yN B p) (upd H p o) where
 pre:=List.prefix_rfl
 ban:=fun _ h=>.inl h
 new:=fun a z=>z.elim .inl fun e=>.inr (e▸⟨h,kf⟩)
 rnew:=fun _ h=>.inl h
 keep:=fun a u _ q=>by rw [Q0 (ZC q h)];exact q
 trk:=(Gr.laid (K:=K) (ρ:=ρ) (B:=B) h).trk
theorem WOk.banned {p:Addr} {o:HO} (W:WOk K ρ B hp H) (h:H p=none) (kf:K.lookup p=none):WOk K ρ (yN B p) hp (upd H p o) where
 len:=W.len
 nd:=W.nd
 obj:=fun i a u e q=>ORep.gs ((Gr.banned h kf).gs W.rb) (Q0 (fun z=>W.bt a (W.rb a (List.mem_of_getElem? e)) (z▸h))) (W.obj i a u e q)
 rb:=fun a h=>.inl (W.rb a h)
 bt:=fun a z q=>by
  have q':=(Gr.laid (K:=K) (ρ:=ρ) (B:=B) h).trk a q
  rcases z with z | rfl
  ·exact W.bt a z q'
  ·rw [Zj] at q;cases q
 bk:=fun a z=>z.elim (W.bk a) fun e=>e▸kf
end
section
variable {X:Cx} {e a b c:Expr} {f fa fb:DEx} {ca cb:DTx} {pos:Pos} {st:Stmt} {sts rest:List Stmt} {s s':DSx}
def x9 (i:Nat):DSx:=fun env=>pure (.nx,env.set i (.acc []))
def jS (i:Nat) (env:En):En:=match env[i]? with
 | some (.acc ds)=>env.set i (.val (.lst ds))
 | _=>env
def yb (i:Nat) (f:DSx):DSx:=fun env=>f (jS i env)
def ya (i:Nat) (f:DEx):DSx:=fun env=>do
 let d <- f env
 match env[i]? with
 | some (.acc ds)=>if ds.length < lim then pure (.nx,env.set i (.acc (ds++[d]))) else failure
 | _=>failure
def kA:Sl->Sl
 | .val d=>.val d
 | _=>.un
def cE (idx:List Nat) (env:En) (d:DV):En:=.val d::idx.map fun i=>kA ((env[i]?).getD .un)
def xD:DTx:=fun _=>pure true
variable {elt iter:Expr} {x:Str} {px:Pos} {ifs:List Expr} {scope:Scope} {cl:List (Str×Addr)} {caps:List Str} {idx:List Nat} {src:DIx} {te:DTx}
theorem cσ_ok {K:PySem.W.Frag} {Z:Ent} {env:En} {σ:St} {ρ ρ1:List Addr} {B B1:Addr->Prop} {hp hp1:Hs} {H H1:Hp} {d:DV} {v:V} (S:SOk K Z env σ ρ B hp H) (g:Gs K ρ B H ρ1 B1 H1) (W:WOk K ρ1 B1 hp1 H1) (r:RepV K ρ1 B1 H1 d v) :
    SOk K ⟨ρ1,B1,H1⟩ (cE idx env d) (cσ idx σ (some v)) ρ1 B1 hp1 H1:=by
  refine ⟨Gr.refl,W.bt,W,fun i e h=>?_,fun i es h=>?_,fun i j es es' a h=>?_,by simp [cE,cσ]⟩
  . cases i with
    | zero =>
      have:d=e:=by simpa [cE] using h
      subst this
      exact ⟨v,by simp [cσ],r⟩
    | succ i =>
      cases q:idx[i]? with
      | none=>simp [cE,q] at h
      | some k =>
        have h':kA ((env[k]?).getD .un)=.val e:=by simpa [cE,q] using h
        cases z:env[k]? with
        | none=>rw [z] at h';cases h'
        | some sl =>
          rw [z] at h'
          cases sl with
          | un=>cases h'
          | acc _=>cases h'
          | val e' =>
            have:e'=e:=by simpa [kA] using h'
            subst this
            obtain ⟨u,h1,h2⟩:=S.slot k e' z
            exact ⟨u,by simp [cσ,q,h1],RepV.gs g _ _ h2⟩
  . exfalso
    cases i with
    | zero=>simp [cE] at h
    | succ i =>
      cases q:idx[i]? with
      | none=>simp [cE,q] at h
      | some k =>
        have h':kA ((env[k]?).getD .un)=.acc es:=by simpa [cE,q] using h
        cases z:(env[k]?).getD .un with
        | un=>rw [z] at h';cases h'
        | acc _=>rw [z] at h';cases h'
        | val _=>rw [z] at h';cases h'
  . exfalso
    cases i with
    | zero=>simp [cE] at h
    | succ i =>
      cases q:idx[i]? with
      | none=>simp [cE,q] at h
      | some k =>
        have h':kA ((env[k]?).getD .un)=.acc es:=by simpa [cE,q] using h
        cases z:(env[k]?).getD .un with
        | un=>rw [z] at h';cases h'
        | acc _=>rw [z] at h';cases h'
        | val _=>rw [z] at h';cases h'
def DTs (X:Cx) (ifs:List Expr) (t:DTx):Prop:=PTs X ifs (tDT X.K t)
theorem zM:DTs X [] xD:=fun pins s σ H Q I ⟨Z,env,ρ,B,hp,d,hp',S,e,k⟩=>by
 obtain ⟨rfl,rfl⟩:=Qj e
 exact Qdt pins s σ H Q I (k ρ B H Gr.refl S.wo)
theorem zN {c:Expr} (h:DT X c te):DTs X [c] te:=Qdu h
def Q5 (n:Nat) (body:DSx):List DV->M DV:=fun ds=>do
 let r <- body (ds.map .val++List.replicate (n - ds.length) .un)
 match r.1 with
 | .nx=>pure .non
 | .rt d=>pure d
 | _=>failure
def spD (K:PySem.W.Frag) (n:Nat) (F:List DV->M DV):Sp:=fun vs H Q _=>vs.length=n/\∃ ρ B hp ds d hp',WOk K ρ B hp H/\RepL K ρ B H ds vs/\F ds hp=some (d,hp')/\Fol K ρ B H d hp' Q
structure Has (P:Program) (w:World) (K:PySem.W.Frag) (mg:Str->Option Value) (base:Heap) (x:Str) (k n:Nat) (F:List DV->M DV):Prop where
 ex:∃ (g:Addr) (fd:FuncData) (ps:List Str),qX P w K mg base CX0 k g fd ps (spD K n F)/\Binds K fd ps []/\PySem.W.keepIn K (.ref g)=true/\mg x=some (.ref g)
theorem yc {K:PySem.W.Frag} {ρ:List Addr} {B:Addr->Prop} {hp:Hs} {H:Hp} {ds:List DV} {vs:List V} {N:List Str} (W:WOk K ρ B hp H) (r:RepL K ρ B H ds vs) :
  SOk K ⟨ρ,B,H⟩ (ds.map .val++List.replicate (N.length - ds.length) .un) (L2.start N vs) ρ B hp H:=by
 have hl:=r.length
 have at_:∀ {i:Nat} {z:Sl},(ds.map Sl.val++List.replicate (N.length - ds.length) Sl.un)[i]?=some z->z=.un∨∃ d,ds[i]?=some d/\z=.val d:=fun {i z} h=>by
  by_cases hi:i < ds.length
  ·rw [List.getElem?_append_left (by simpa using hi),List.getElem?_map,List.getElem?_eq_getElem hi] at h
   cases h
   exact .inr ⟨_,List.getElem?_eq_getElem hi,rfl⟩
  ·rw [List.getElem?_append_right (by simpa using hi),List.getElem?_replicate] at h
   split at h
   ·cases h;exact .inl rfl
   ·cases h
 refine ⟨Gr.refl,W.bt,W,fun i d h=>?_,fun i es h=>?_,fun i j es es' a h=>?_,by unfold L2.start;simp;omega⟩
 ·rcases at_ h with z | ⟨d',q,z⟩
  ·cases z
  ·cases z
   obtain ⟨v,h1,h2⟩:=r.get q
   refine ⟨v,?_,h2⟩
   unfold L2.start
   have hi:i < vs.length:=(List.getElem?_eq_some_iff.mp h1).1
   rw [List.getElem?_append_left (by simpa using hi),List.getElem?_map,h1]
   rfl
 ·rcases at_ h with z | ⟨d',q,z⟩<;>cases z
 ·rcases at_ h with z | ⟨d',q,z⟩<;>cases z
theorem Qa0 {P:Program} {w:World} {K:PySem.W.Frag} {mg:Str->Option Value} {base:Heap} {x:Str} {stm:Stmt} {g:Addr} {fd:FuncData} {N ps:List Str} {k:Nat} {body:DSx} (F:Fun K x x stm g fd) (Sc:Qt N ps (Qo stm)) (hm:mg x=some (.ref g))
  (hb:∀ (kV doc pm:Value) (an:Option Addr) (cdv ct:Value) (us:List Value),us.length=ps.length->bindArgs (PySem.W.fnOf x x (JI stm) (ZH stm) (Qo stm) .none kV doc pm an cdv ct) ⟨us,[]⟩=pure (ps.zip us))
  (h:∀ (cdv:Value) (A:Around) (outer:List Env) (s:Shared) (H:Hp) (E:XK),Room k (A.deeper (envOfC x (Qo stm) s.heap.objs.size g cdv))->DSs (yO CX0 P w K mg base N x (Qo stm) g cdv A outer s H E).nox (ZH stm) body) :
  Has P w K mg base x (k+1) ps.length (Q5 N.length body):=by
 refine ⟨g,fd,ps,F.ok Sc (fun vs H Q E h=>h.1) (fun cdv A outer s H vs Q E hr sp=>?_),F.binds hb,F.kp,hm⟩
 obtain ⟨hn,ρ,B,hp,ds,d,hp',W,r,e,k⟩:=sp
 obtain ⟨⟨fl,env'⟩,hp1,e1,e2⟩:=Qf e
 refine ⟨_,h cdv A outer s H E hr,⟨ρ,B,H⟩,_,ρ,B,hp,fl,env',hp1,yc W r,e1,fun σ' ρ' B' H' g' S'=>?_⟩
 cases fl with
 | nx=>obtain ⟨rfl,rfl⟩:=Qj e2;exact k .non ρ' B' H' S'.gr S'.wo zS
 | rt x=>obtain ⟨rfl,rfl⟩:=Qj e2;exact fun v rv=>k v ρ' B' H' S'.gr S'.wo rv
 | bk=>cases e2
 | ct=>cases e2
def QG (n:Nat) (F:List DV->M DV) (a:DAx):DEx:=fun env=>do
 let ds <- a env
 Qw (decide (ds.length=n))
 F ds
theorem QY {y:Str} {k j n:Nat} {F:List DV->M DV} {e:Expr} {es:List Expr} {fa:DAx} {p:Pos} (h:Has X.prog X.w X.K X.mg X.base y j n F) (hr:Room k X.A) (hj:j<=k) (hx:YN CX0 X E0) (ha:DA X (e::es) fa) (hg:Gl X y:=by rfl)
  (hdb:(y==("__debug__" : Str))=false:=by decide) (he:starEach (e::es) X.env=(false,eval e X.env)::starEach es X.env:=by rfl) (hpl:(backTo pos (starEach es X.env)).any (·.1)=false:=by rfl):DE X (.Call (.Name y p) (e::es) [] pos) (QG n F fa):=by
 obtain ⟨g,fd,ps,F',hb,hk,hm⟩:=h.ex
 refine L2.PE.imp (Qc9 F' (hr.mono hj) hg hm hk hb .nil hx ha hdb he hpl) fun σ H Q ⟨Z,env,ρ,B,hp,d,hp',S,e,k⟩=>?_
 obtain ⟨ds,hp1,e1,e2⟩:=Qf e
 obtain ⟨_,hp2,e3,e4⟩:=Qf e2
 obtain ⟨hl,rfl⟩:=QH e3
 refine tDA.run S e1 fun vs ρ1 B1 H1 g1 S1 r1=>?_
 refine ⟨by rw [List.append_nil,<- r1.length];exact of_decide_eq_true hl,ρ1,B1,hp1,ds,d,hp',S1.wo,by rw [List.append_nil];exact r1,e4,k.after g1⟩
end
end D
namespace D
open PySem PySem.Spec PyProof.Rows L2
section
variable {X:Cx} {e a b c:Expr} {f fa fb fc:DEx} {ca cb:DTx} {pos:Pos}
def qA (C:Int->Int->Bool) (g:Int->Int->DV):DV->DV->M DV
 | .int i,.int j=>if C i j then pure (g i j) else failure
 | _,_=>failure
theorem xW {C:Int->Int->Bool} {g:Int->Int->DV} {x y d:DV} {hp hp':Hs} (h:qA C g x y hp=some (d,hp')):∃ i j,x=.int i/\y=.int j/\C i j=true/\d=g i j/\hp=hp':=by
 unfold qA at h
 split at h
 ·rename_i i j
  by_cases hc:C i j=true
  ·rw [if_pos hc] at h
   obtain ⟨rfl,rfl⟩:=Qj h
   exact ⟨i,j,rfl,rfl,hc,rfl,rfl⟩
  ·rw [if_neg hc] at h;cases h
 ·cases h
theorem Vt {g:Value->Value->Sem Value} {C:Int->Int->Bool} {P:Int->Int->Prop} {q:Int->Int->Int} (ho:OpR X g (rI P fun i j=>.int (q i j))) (hC:∀ i j,C i j=true->P i j):P2 X g (qA C fun i j=>.int (q i j)):=by
 intro pins s σ H x y v u Q I rx ry h
 refine ho pins s σ H x y v u Q I rx ry ?_
 obtain ⟨ρ,B,hp,dx,dy,d,hp',W,r1,r2,e,k⟩:=h
 obtain ⟨i,j,rfl,rfl,hc,rfl,rfl⟩:=xW e
 exact ⟨i,j,r1.intI,r2.intI,hC i j hc,k _ ρ B H Gr.refl W JM⟩
theorem Qc7 {g:Value->Value->Sem Value} {q:Int->Int->Int} (ho:OpR X g (rI0 fun i j=>.int (q i j))):P2 X g (qA (fun _ _=>true) fun i j=>.int (q i j)):=by
 intro pins s σ H x y v u Q I rx ry h
 refine ho pins s σ H x y v u Q I rx ry ?_
 obtain ⟨ρ,B,hp,dx,dy,d,hp',W,r1,r2,e,k⟩:=h
 obtain ⟨i,j,rfl,rfl,hc,rfl,rfl⟩:=xW e
 exact ⟨i,j,r1.intI,r2.intI,k _ ρ B H Gr.refl W JM⟩
theorem yW {g:Value->Value->Sem Value} {q:Int->Int->Bool} (ho:OpR X g (rI0 fun i j=>.bl (q i j))):P2 X g (qA (fun _ _=>true) fun i j=>.bl (q i j)):=by
 intro pins s σ H x y v u Q I rx ry h
 refine ho pins s σ H x y v u Q I rx ry ?_
 obtain ⟨ρ,B,hp,dx,dy,d,hp',W,r1,r2,e,k⟩:=h
 obtain ⟨i,j,rfl,rfl,hc,rfl,rfl⟩:=xW e
 exact ⟨i,j,r1.intI,r2.intI,k _ ρ B H Gr.refl W Jd⟩
def Qf2 (i j:Int):Bool:=decide ((-(2 ^ 64) < i/\i < 2 ^ 64)∨(-(2 ^ 64) < j/\j < 2 ^ 64))
def QfZ (_ j:Int):Bool:=decide (0 < j/\j < 1073741824)
def Qf1 (_ j:Int):Bool:=decide (0 < j)
def Qg3 (i j:Int):Bool:=decide (0<=j/\j<=1000000/\i.natAbs < 2 ^ 64)
def xC:DV->DV->M DV:=qA (fun _ _=>true) fun i j=>.int (i - j)
def kZ:DV->DV->M DV:=qA Qf2 fun i j=>.int (i * j)
def qx:DV->DV->M DV:=qA QfZ fun i j=>.int (i / j)
def XM:DV->DV->M DV:=qA Qf1 fun i j=>.int (i % j)
def YT:DV->DV->M DV:=qA Qg3 fun i j=>.int (i ^ j.toNat)
def ltD:DV->DV->M DV:=qA (fun _ _=>true) fun i j=>.bl (decide (i < j))
def leD:DV->DV->M DV:=qA (fun _ _=>true) fun i j=>.bl (decide (i<=j))
def gtD:DV->DV->M DV:=qA (fun _ _=>true) fun i j=>.bl (decide (j < i))
def geD:DV->DV->M DV:=qA (fun _ _=>true) fun i j=>.bl (decide (j<=i))
theorem yt:P2 X (binaryOp .Sub) xC:=Qc7 QeZ
theorem Qea:P2 X (binaryOp .Mult) kZ:=Vt QeX fun i j h=>of_decide_eq_true (p:=(-(2 ^ 64) < i/\i < 2 ^ 64)∨(-(2 ^ 64) < j/\j < 2 ^ 64)) h
theorem xf:P2 X (binaryOp .FloorDiv) qx:=Vt Qc4 fun i j h=>of_decide_eq_true (p:=0 < j/\j < 1073741824) h
theorem YF:P2 X (binaryOp .Mod) XM:=Vt QeW fun _ _ h=>of_decide_eq_true h
theorem yr:P2 X (binaryOp .Pow) YT:=Vt QeY fun i j h=>of_decide_eq_true (p:=0<=j/\j<=1000000/\i.natAbs < 2 ^ 64) h
theorem Vv:P2 X (compareOp .Lt) ltD:=yW Qgs
theorem Qc8:P2 X (compareOp .LtE) leD:=yW Qgr
theorem Qe0:P2 X (compareOp .Gt) gtD:=yW Qgq
theorem Qgt:P2 X (compareOp .GtE) geD:=yW Qgp
def Qgn:DV->M DV
 | .int i=>pure (.int (-i))
 | _=>failure
def X6 (f:DEx):DEx:=fun env=>do Qgn (<- f env)
theorem vz (h:DE X a f):DE X (.UnaryOp .USub a pos) (X6 f):=L2.PE.imp (Qgz QfJ h) fun σ H Q ⟨Z,env,ρ,B,hp,d,hp',S,e,k⟩=>by
 obtain ⟨x,hp1,e1,e2⟩:=Qf e
 refine tD.run S e1 fun v ρ1 B1 H1 g1 S1 r1=>?_
 cases x with
 | int i=>obtain ⟨rfl,rfl⟩:=Qj e2;exact ⟨i,r1.intI,k _ ρ1 B1 H1 g1 S1.wo JM⟩
 | _=>cases e2
theorem QbC:OpR X (binaryOp .Add) (fun x y H Q=>∃ a b ys,x=.ref a/\y=.ref b/\SqT X.K H a []/\SqT X.K H b ys/\ys.length<=sizeLine/\Q (.ref b) H):=by
 intro pins s σ H x y v u Q I rx ry h
 obtain ⟨a,b,ys,rfl,rfl,ha,hb,hz,q⟩:=h
 cases rx
 cases ry
 obtain ⟨its,r1,p1,_⟩:=I.tuple ha
 obtain ⟨its2,r2,p2,_⟩:=I.tuple hb
 obtain ⟨m,F⟩:=I.fr
 have z:its=[]:=by cases r1;rfl
 subst z
 exact add_tuples F (Qbw (g:=X.base) (L:=X.env.locals)) p1 p2 (fun _=>⟨.ref b,H,I,rfl,q⟩) (fun n=>absurd rfl n) (fun n=>absurd rfl n) (by have:=r2.length;simp;omega)
def Ja:DV->DV->M DV
 | .int i,.int j=>pure (.int (i+j))
 | .tup xs,.tup ys=>do Qw (qR (xs++ys));pure (.tup (xs++ys))
 | .lst xs,.lst ys=>do Qw (qR (xs++ys));pure (.lst (xs++ys))
 | _,_=>failure
theorem Qdz:OpR X (binaryOp .Add) (fun x y H Q=>∃ l b xs zs,x=.ref l/\y=.ref b/\SqL X.K H l xs/\SqL X.K H b zs/\xs.length+zs.length<=sizeLine/\∀ p,H p=none->Q (.ref p) (upd H p (.lst (xs++zs)))):=by
 intro pins s σ H x y v u Q I rx ry h
 obtain ⟨l,b,xs,zs,rfl,rfl,hl,hb,hz,q⟩:=h
 cases rx
 cases ry
 obtain ⟨its,r1,⟨⟨k1,dd1,da1,sl1⟩,n1,e1,c1,d1,s1⟩,_⟩:=I.list hl
 obtain ⟨its2,r2,⟨⟨k2,dd2,da2,sl2⟩,n2,e2,c2,d2,s2⟩,_⟩:=I.list hb
 simp only at c1 d1 s1 c2 d2 s2
 subst c1 d1 s1 c2 d2 s2
 have ea:its.toArray++its2.toArray=(its++its2).toArray:=by simp
 have hz':its.length+its2.length<=sizeLine:=by rw [<- r1.length,<- r2.length];exact hz
 refine concat_meets (T := "list") ⟨_,e1,rfl⟩ ⟨_,e2,rfl⟩ noFill_list_add seq_list_add PySem.F.slot_list_add PySem.F.entry_list_add (PySem.F.args_list_add_2 _ _) (list_addW l b its.toArray its2.toArray n1 n2 none none sl1 sl2 (by simpa using hz')) ⟨e1,e2,?_⟩
 rw [ea]
 exact ⟨.ref _,_,I.lnew (t':=s.toks) (r1.append r2) (by rw [List.length_append];exact hz),rfl,q _ I.fresh⟩
theorem J1:P2 X (binaryOp .Add) Ja:=by
 intro pins s σ H x y v u Q I rx ry h
 obtain ⟨ρ,B,hp,dx,dy,d,hp',W,r1,r2,e,k⟩:=h
 unfold Ja at e
 split at e
 ·obtain ⟨rfl,rfl⟩:=Qj e
  exact QeU pins s σ H x y v u Q I rx ry ⟨_,_,r1.intI,r2.intI,k _ ρ B H Gr.refl W JM⟩
 ·rename_i xs ys
  obtain ⟨_,hp1,e1,e2⟩:=Qf e
  obtain ⟨hs,rfl⟩:=QH e1
  obtain ⟨rfl,rfl⟩:=Qj e2
  obtain ⟨a,vs,rfl,n1,q1,l1⟩:=r1.tupI
  obtain ⟨b,ws,rfl,n2,q2,l2⟩:=r2.tupI
  have hz:vs.length+ws.length<=sizeLine:=by
   have:=zE hs
   rw [List.length_append] at this
   rw [<- l1.length,<- l2.length];exact this
  by_cases hv:vs=[]
  ·subst hv
   have:xs=[]:=by have:=l1.length;cases xs with | nil=>rfl | cons _ _=>simp at this
   subst this
   exact QbC pins s σ H _ _ v u Q I rx ry ⟨a,b,ws,rfl,rfl,q1,q2,by simp at hz;exact hz,k _ ρ B H Gr.refl W (zT n2 q2 l2)⟩
  ·refine Qc3 pins s σ H _ _ v u Q I rx ry ⟨a,b,vs,ws,rfl,rfl,q1,q2,hv,hz,fun hw=>?_,fun hw=>jW W (RepL.append l1 l2) k⟩
   subst hw
   have:ys=[]:=by have:=l2.length;cases ys with | nil=>rfl | cons _ _=>simp at this
   subst this
   rw [List.append_nil] at k
   exact k _ ρ B H Gr.refl W (zT n1 q1 l1)
 ·rename_i xs ys
  obtain ⟨_,hp1,e1,e2⟩:=Qf e
  obtain ⟨hs,rfl⟩:=QH e1
  obtain ⟨rfl,rfl⟩:=Qj e2
  obtain ⟨a,vs,rfl,n1,q1,l1⟩:=r1.lstI
  obtain ⟨b,ws,rfl,n2,q2,l2⟩:=r2.lstI
  have hz:vs.length+ws.length<=sizeLine:=by
   have:=zE hs
   rw [List.length_append] at this
   rw [<- l1.length,<- l2.length];exact this
  exact Qdz pins s σ H _ _ v u Q I rx ry ⟨a,b,vs,ws,rfl,rfl,q1,q2,hz,Ks W (RepL.append l1 l2) k⟩
 ·cases e
def isN:DV->Bool
 | .non=>true
 | _=>false
theorem uT {K:PySem.W.Frag} {ρ:List Addr} {B:Addr->Prop} {H:Hp} {d:DV} {v:V} (r:RepV K ρ B H d v):decide (v=.non)=isN d:=by
 cases d with
 | non=>rw [r.nonI];rfl
 | bl b=>rw [r.blI];rfl
 | int b=>rw [r.intI];rfl
 | str b=>rw [r.strI];rfl
 | tup b=>obtain ⟨a,xs,rfl,_⟩:=r.tupI;rfl
 | lst b=>obtain ⟨a,xs,rfl,_⟩:=r.lstI;rfl
 | ref b=>obtain ⟨a,rfl,_⟩:=r.refI;rfl
def isD:DV->DV->M DV
 | x,.non=>pure (.bl (isN x))
 | .bl p,.bl q=>pure (.bl (p==q))
 | _,_=>failure
def qB:DV->DV->M DV
 | x,.non=>pure (.bl (!isN x))
 | .bl p,.bl q=>pure (.bl (p != q))
 | _,_=>failure
theorem Qad:P2 X (compareOp .Is) isD:=by
 intro pins s σ H x y v u Q I rx ry h
 obtain ⟨ρ,B,hp,dx,dy,d,hp',W,r1,r2,e,k⟩:=h
 unfold isD at e
 split at e
 ·obtain ⟨rfl,rfl⟩:=Qj e
  refine QeV pins s σ H x y v u Q I rx ry ⟨r2.nonI,?_⟩
  rw [uT r1]
  exact k _ ρ B H Gr.refl W Jd
 ·obtain ⟨rfl,rfl⟩:=Qj e
  obtain rfl:=r1.blI
  obtain rfl:=r2.blI
  cases rx;cases ry
  exact is_bool ⟨.bl _,H,I,rfl,k _ ρ B H Gr.refl W Jd⟩
 ·cases e
theorem Vu:P2 X (compareOp .IsNot) qB:=by
 intro pins s σ H x y v u Q I rx ry h
 obtain ⟨ρ,B,hp,dx,dy,d,hp',W,r1,r2,e,k⟩:=h
 unfold qB at e
 split at e
 ·obtain ⟨rfl,rfl⟩:=Qj e
  refine Qc6 pins s σ H x y v u Q I rx ry ⟨r2.nonI,?_⟩
  rw [uT r1]
  exact k _ ρ B H Gr.refl W Jd
 ·obtain ⟨rfl,rfl⟩:=Qj e
  obtain rfl:=r1.blI
  obtain rfl:=r2.blI
  cases rx;cases ry
  exact isnot_bool ⟨.bl _,H,I,rfl,k _ ρ B H Gr.refl W Jd⟩
 ·cases e
theorem yT {K:PySem.W.Frag} {ρ:List Addr} {B:Addr->Prop} {H:Hp} {ds:List DV} {xs:List V} {i:Int} {d:DV} (r:RepL K ρ B H ds xs) (h:atI ds i=some d):∃ x,atI xs i=some x/\RepV K ρ B H d x:=by
  unfold atI at h ⊢
  rw [<- r.length]
  cases q:ixN ds.length i with
  | none=>rw [q] at h;cases h
  | some j =>
    rw [q] at h
    exact r.get h
def ixD:DV->DV->M DV
  | .tup ds,.int i=>match atI ds i with
    | some d=>pure d
    | none=>failure
  | .lst ds,.int i=>match atI ds i with
    | some d=>pure d
    | none=>failure
  | _,_=>failure
theorem Qgu:IxR X (tP2 X.K ixD):=by
  intro value slice pins s σ H x y v u Q I rx ry h hsub
  obtain ⟨ρ,B,hp,dx,dy,d,hp',W,r1,r2,e,k⟩:=h
  unfold ixD at e
  split at e
  . rename_i ds i
    cases q:atI ds i with
    | none=>rw [q] at e;cases e
    | some d' =>
      rw [q] at e
      obtain ⟨rfl,rfl⟩:=Qj e
      obtain ⟨a,xs,rfl,n1,q1,l1⟩:=r1.tupI
      obtain ⟨z,hz,rz⟩:=yT l1 q
      exact QeD value slice pins s σ H _ _ v u Q I rx ry ⟨a,xs,i,z,rfl,r2.intI,q1,hz,k _ ρ B H Gr.refl W rz⟩ hsub
  . rename_i ds i
    cases q:atI ds i with
    | none=>rw [q] at e;cases e
    | some d' =>
      rw [q] at e
      obtain ⟨rfl,rfl⟩:=Qj e
      obtain ⟨a,xs,rfl,n1,q1,l1⟩:=r1.lstI
      obtain ⟨z,hz,rz⟩:=yT l1 q
      exact uW value slice pins s σ H _ _ v u Q I rx ry ⟨a,xs,i,z,rfl,r2.intI,q1,hz,k _ ρ B H Gr.refl W rz⟩ hsub
  . cases e
theorem JP (ha:DE X a fa) (hb:DE X b fb) (hs:Kg b:=by intro _ _;rfl):DE X (.Subscript a b pos) (Ql ixD fa fb):=L2.PE.imp (Qec Qgu ha hb hs) fun _ _ _ h=>zd h
end
end D
namespace D
open PySem PySem.Spec PyProof.Rows L2
mutual
def toP:DV->PyData
 | .non=>.none
 | .bl b=>.bool b
 | .int i=>.int i
 | .str x=>.str x
 | .tup xs=>.tuple (toPs xs)
 | .lst xs=>.list (toPs xs)
 | .ref _=>.none
def toPs:List DV->List PyData
 | []=>[]
 | d::ds=>toP d::toPs ds
end
mutual
def UO:DV->Bool
 | .ref _=>false
 | .tup xs=>noRefs xs
 | .lst xs=>noRefs xs
 | _=>true
def noRefs:List DV->Bool
 | []=>true
 | d::ds=>UO d&&noRefs ds
end
section
variable {X:Cx} {pins:List (Addr×Obj)} {σ:St} {H:Hp} {s:Shared} {ρ:List Addr} {B:Addr->Prop}
mutual
theorem Vz (I:Inv X pins σ H s):∀ (d:DV) (v:V) (u:Value),RepV X.K ρ B H d v->RelV v u->UO d=true->∃ as,Reads s.heap u (toP d) as
  | .non,_,_,r,ru,_=>by obtain rfl:=r.nonI;cases ru;exact ⟨[],by unfold toP;exact .none⟩
  | .bl b,_,_,r,ru,_=>by obtain rfl:=r.blI;cases ru;exact ⟨[],by unfold toP;exact .bool b⟩
  | .int i,_,_,r,ru,_=>by obtain rfl:=r.intI;obtain ⟨t,rfl⟩:=ru;exact ⟨[],by unfold toP;exact .int i t⟩
  | .str x,_,_,r,ru,_=>by obtain rfl:=r.strI;obtain ⟨t,rfl⟩:=ru;exact ⟨[],by unfold toP;exact .str x t⟩
  | .ref _,_,_,_,_,n=>by cases n
  | .tup ds,_,_,r,ru,n=>by
    obtain ⟨a,xs,rfl,_,sq,rl⟩:=r.tupI
    cases ru
    obtain ⟨its,rv,⟨o,e,hc,k,hd⟩,_⟩:=I.tuple sq
    obtain ⟨as,q⟩:=reads_all I ds xs its rl rv (by unfold UO at n;exact n)
    exact ⟨_,by unfold toP;exact reads_tuple_at e hc hd (by simpa using q)⟩
  | .lst ds,_,_,r,ru,n=>by
    obtain ⟨a,xs,rfl,_,sq,rl⟩:=r.lstI
    cases ru
    obtain ⟨its,rv,⟨o,k,e,hc,_,hd⟩,_⟩:=I.list sq
    obtain ⟨as,q⟩:=reads_all I ds xs its rl rv (by unfold UO at n;exact n)
    exact ⟨_,by unfold toP;exact reads_list_at e hc hd (by simpa using q)⟩
theorem reads_all (I:Inv X pins σ H s):∀ (ds:List DV) (xs:List V) (us:List Value),RepL X.K ρ B H ds xs->Vals xs us->noRefs ds=true->∃ as,ReadsAll s.heap us (toPs ds) as
  | [],_,_,r,ru,_=>by unfold RepL at r;subst r;cases ru;exact ⟨[],by unfold toPs;exact .nil⟩
  | d::ds,_,_,r,ru,n=>by
    unfold RepL at r
    obtain ⟨x,xs,rfl,r1,r2⟩:=r
    cases ru with
    | cons q1 q2 =>
      unfold noRefs at n
      rw [Bool.and_eq_true] at n
      obtain ⟨as,h1⟩:=Vz I d x _ r1 q1 n.1
      obtain ⟨bs,h2⟩:=reads_all I ds xs _ r2 q2 n.2
      exact ⟨_,by unfold toPs;exact .cons h1 h2⟩
end
end
def okP (d:DV):Bool:=UO d&&SeqAt.shaped (toP d)
def eqD:DV->DV->M DV:=fun x y=>do Qw (okP x&&okP y);pure (.bl (PyData.eqv (toP x) (toP y)))
def neD:DV->DV->M DV:=fun x y=>do Qw (okP x&&okP y);pure (.bl (!PyData.eqv (toP x) (toP y)))
section
variable {X:Cx} {e a b c:Expr} {f fa fb fc:DEx} {ca cb:DTx} {pos:Pos}
theorem Qac (hu:X.A.units+64 < cLine):P2 X (compareOp .Eq) eqD:=by
 intro pins s σ H x y v u Q I rx ry h
 obtain ⟨ρ,B,hp,dx,dy,d,hp',W,r1,r2,e,k⟩:=h
 obtain ⟨_,hp1,e1,e2⟩:=Qf e
 obtain ⟨hs,rfl⟩:=QH e1
 obtain ⟨rfl,rfl⟩:=Qj e2
 simp only [okP,Bool.and_eq_true] at hs
 obtain ⟨as,q1⟩:=Vz I dx x v r1 rx hs.1.1
 obtain ⟨bs,q2⟩:=Vz I dy y u r2 ry hs.2.1
 exact eq_dataH q1 q2 hs.1.2 hs.2.2 hu ⟨.bl _,H,I,rfl,k _ ρ B H Gr.refl W Jd⟩
def tPn (K:PySem.W.Frag) (g:List DV->M DV):List V->Hp->VK->Prop:=fun xs H Q=>∃ ρ B hp ds d hp',WOk K ρ B hp H/\RepL K ρ B H ds xs/\g ds hp=some (d,hp')/\Fol K ρ B H d hp' Q
def Zw (g:List DV->M DV) (a:DAx):DEx:=fun env=>do g (<- a env)
theorem Gi {K:PySem.W.Frag} {g:List DV->M DV} {fa:DAx} {σ:St} {H:Hp} {Q:VK} (h:tD K (Zw g fa) σ H Q):tCB (tPn K g) (tDA K fa) σ H Q:=by
 obtain ⟨Z,env,ρ,B,hp,d,hp',S,e,k⟩:=h
 obtain ⟨ds,hp1,e1,e2⟩:=Qf e
 exact tDA.run S e1 fun vs ρ1 B1 H1 g1 S1 r1=>⟨ρ1,B1,hp1,ds,d,hp',S1.wo,r1,e2,k.after g1⟩
theorem ZP {x:Str} {id:String} {g:List DV->M DV} {e:Expr} {es:List Expr} {fa:DAx} {p:Pos} (hc:Xs X (.builtin id) (tPn X.K g)) (hm:X.mg x=none) (hv:bootBuiltins x=some (.builtin id)) (ha:DA X (e::es) fa) (hg:Gl X x:=by rfl) (hn:x ≠ "__name__" := by decide) (hdb:(x==("__debug__" : Str))=false:=by decide)
  (he:starEach (e::es) X.env=(false,eval e X.env)::starEach es X.env:=by rfl) (hpl:(backTo pos (starEach es X.env)).any (·.1)=false:=by rfl):DE X (.Call (.Name x p) (e::es) [] pos) (Zw g fa) :=
 L2.PE.imp (Vw hc hg hm hv ha hn hdb he hpl) fun _ _ _ h=>Gi h
theorem Qd2 {x:Str} {T:String} {g:List DV->M DV} {e:Expr} {es:List Expr} {fa:DAx} {p:Pos} (hc:Xs X (.type T) (tPn X.K g)) (hm:X.mg x=none) (hv:bootBuiltins x=some (.type T)) (ha:DA X (e::es) fa) (hg:Gl X x:=by rfl) (hn:x ≠ "__name__" := by decide) (hdb:(x==("__debug__" : Str))=false:=by decide)
  (he:starEach (e::es) X.env=(false,eval e X.env)::starEach es X.env:=by rfl) (hpl:(backTo pos (starEach es X.env)).any (·.1)=false:=by rfl):DE X (.Call (.Name x p) (e::es) [] pos) (Zw g fa) :=
 L2.PE.imp (Qaf hc hg hm hv ha hn hdb he hpl) fun _ _ _ h=>Gi h
theorem RepL.oneI {K:PySem.W.Frag} {ρ:List Addr} {B:Addr->Prop} {H:Hp} {d:DV} {vs:List V} (h:RepL K ρ B H [d] vs):∃ v,vs=[v]/\RepV K ρ B H d v:=by
 unfold RepL at h
 obtain ⟨x,r,rfl,h1,h2⟩:=h
 unfold RepL at h2;subst h2
 exact ⟨x,rfl,h1⟩
def YS:List DV->M DV
 | [.tup ds]=>pure (.int ds.length)
 | [.lst ds]=>pure (.int ds.length)
 | _=>failure
theorem uA:Xs X (.builtin "len") (tPn X.K YS):=by
 intro pins s σ H xs us Q I r h
 obtain ⟨ρ,B,hp,ds,d,hp',W,rl,e,k⟩:=h
 unfold YS at e
 split at e
 ·obtain ⟨rfl,rfl⟩:=Qj e
  obtain ⟨v,rfl,rv⟩:=rl.oneI
  obtain ⟨a,ys,rfl,_,sq,l⟩:=rv.tupI
  exact qw pins s σ H _ us Q I r ⟨a,ys,rfl,.inr sq,by rw [<- l.length];exact k _ ρ B H Gr.refl W JM⟩
 ·obtain ⟨rfl,rfl⟩:=Qj e
  obtain ⟨v,rfl,rv⟩:=rl.oneI
  obtain ⟨a,ys,rfl,_,sq,l⟩:=rv.lstI
  exact qw pins s σ H _ us Q I r ⟨a,ys,rfl,.inl sq,by rw [<- l.length];exact k _ ρ B H Gr.refl W JM⟩
 ·cases e
def QcY:List DV->M DV
 | [.int i,.int j]=>pure (.int (if j < i then j else i))
 | _=>failure
def QcX:List DV->M DV
 | [.int i,.int j]=>pure (.int (if j > i then j else i))
 | _=>failure
theorem Qf5 (hc:X.calm=true):Xs X (.builtin "min") (tPn X.K QcY):=by
 intro pins s σ H xs us Q I r h
 obtain ⟨ρ,B,hp,ds,d,hp',W,rl,e,k⟩:=h
 unfold QcY at e
 split at e
 ·obtain ⟨rfl,rfl⟩:=Qj e
  exact kz hc pins s σ H xs us Q I r ⟨_,_,rl.ints2,k _ ρ B H Gr.refl W JM⟩
 ·cases e
theorem Qf4 (hc:X.calm=true):Xs X (.builtin "max") (tPn X.K QcX):=by
 intro pins s σ H xs us Q I r h
 obtain ⟨ρ,B,hp,ds,d,hp',W,rl,e,k⟩:=h
 unfold QcX at e
 split at e
 ·obtain ⟨rfl,rfl⟩:=Qj e
  exact ku hc pins s σ H xs us Q I r ⟨_,_,rl.ints2,k _ ρ B H Gr.refl W JM⟩
 ·cases e
def QfH:List DV->M DV
 | [.lst ds]=>pure (.tup ds)
 | [.tup ds]=>pure (.tup ds)
 | _=>failure
theorem QcC:Xs X (.type "tuple") (tPn X.K QfH):=by
 intro pins s σ H xs us Q I r h
 obtain ⟨ρ,B,hp,ds,d,hp',W,rl,e,k⟩:=h
 unfold QfH at e
 split at e
 ·obtain ⟨rfl,rfl⟩:=Qj e
  obtain ⟨v,rfl,rv⟩:=rl.oneI
  obtain ⟨a,ys,rfl,_,sq,l⟩:=rv.lstI
  exact YQ pins s σ H _ us Q I r ⟨a,ys,rfl,.inl ⟨sq,jW W l k⟩⟩
 ·obtain ⟨rfl,rfl⟩:=Qj e
  obtain ⟨v,rfl,rv⟩:=rl.oneI
  obtain ⟨a,ys,rfl,nb,sq,l⟩:=rv.tupI
  exact YQ pins s σ H _ us Q I r ⟨a,ys,rfl,.inr ⟨sq,k _ ρ B H Gr.refl W (zT nb sq l)⟩⟩
 ·cases e
def VW:DV->Option String
 | .non=>some "NoneType"
 | .bl _=>some "bool"
 | .int _=>some "int"
 | .str _=>some "str"
 | .tup _=>some "tuple"
 | .lst _=>some "list"
 | .ref _=>none
def Uf (t T:String):Bool:=t==T||(t == "bool" && T == "int")
def jt (T:String) (f:DEx):DEx:=fun env=>do
 match VW (<- f env) with
 | some t=>pure (.bl (Uf t T))
 | none=>failure
theorem QdZ {T:String} (hT:T∈["int", "bool", "tuple", "str", "list"]):Xs X (.builtin "isinstance") (fun xs H Q=>∃ ρ B d x t,xs=[x,.ty T]/\RepV X.K ρ B H d x/\VW d=some t/\Q (.bl (Uf t T)) H):=by
  intro pins s σ H xs us Q I r h
  obtain ⟨ρ,B,d,x,t,rfl,rv,ht,q⟩:=h
  obtain ⟨u,w',rfl,ru,rw'⟩:=va r
  cases rw'
  have fin:∀ tk,EP X pins σ Q (.bool (Uf t T)) { s with toks:=tk }:=fun tk=>⟨.bl _,H,I.tok _,rfl,q⟩
  have kit:PySem.W.kitOne X.K (.type t) (.type T)=some (Uf t T):=by
    have:t∈["NoneType", "bool", "int", "str", "tuple", "list"]:=by
      cases d<;>cases ht<;>simp
    simp only [List.mem_cons,List.not_mem_nil,or_false] at this hT
    rcases this with rfl | rfl | rfl | rfl | rfl | rfl<;>rcases hT with rfl | rfl | rfl | rfl | rfl<;>first | rfl | decide | with_unfolding_all rfl | kernel_rfl
  cases d with
  | non=>obtain rfl:=rv.nonI;cases ht;cases ru;exact PySem.W.kia_one PySem.W.kitx_none I.kIn True.intro kit (fun z=>nomatch z) fin
  | bl b=>obtain rfl:=rv.blI;cases ht;cases ru;exact PySem.W.kia_one PySem.W.kitx_bool I.kIn True.intro kit (fun z=>nomatch z) fin
  | int b=>obtain rfl:=rv.intI;cases ht;obtain ⟨tk,rfl⟩:=ru;exact PySem.W.kia_one PySem.W.kitx_int I.kIn True.intro kit (fun z=>nomatch z) fin
  | str b=>obtain rfl:=rv.strI;cases ht;obtain ⟨tk,rfl⟩:=ru;exact PySem.W.kia_one PySem.W.kitx_str I.kIn True.intro kit (fun z=>nomatch z) fin
  | ref b=>cases ht
  | tup b =>
    cases ht
    obtain ⟨a,ys,rfl,_,sq,_⟩:=rv.tupI
    cases ru
    obtain ⟨its,_,⟨o,e1,e2,_⟩,_⟩:=I.tuple sq
    exact PySem.W.kia_one PySem.W.kitx_tuple I.kIn ⟨o,e1,e2⟩ kit (fun z=>nomatch z) fin
  | lst b =>
    cases ht
    obtain ⟨a,ys,rfl,_,sq,_⟩:=rv.lstI
    cases ru
    obtain ⟨its,_,⟨o,k,e1,e2,_⟩,_⟩:=I.list sq
    exact PySem.W.kia_one PySem.W.kitx_list I.kIn ⟨o,e1,e2⟩ kit (fun z=>nomatch z) fin
theorem Yn {T:String} {p p':Pos} (hm:X.mg "isinstance" = none) (hm':X.mg (Str.ofString T)=none) (hv:bootBuiltins (Str.ofString T)=some (.type T)) (hT:T∈["int", "bool", "tuple", "str", "list"]) (h:DE X e f) (hg:Gl X "isinstance" := by rfl) (hg':Gl X (Str.ofString T):=by rfl)
    (hn:Str.ofString T ≠ "__name__" := by decide) (hdb:(Str.ofString T==("__debug__" : Str))=false:=by decide) (hs:starEach [e,.Name (Str.ofString T) p'] X.env=(false,eval e X.env)::starEach [.Name (Str.ofString T) p'] X.env:=by rfl)
    (hs2:starEach [.Name (Str.ofString T) p'] X.env=(false,eval (.Name (Str.ofString T) p') X.env)::starEach [] X.env:=by rfl) (hpl:(backTo pos (starEach [.Name (Str.ofString T) p'] X.env)).any (·.1)=false:=by rfl):DE X (.Call (.Name "isinstance" p) [e,.Name (Str.ofString T) p'] [] pos) (jt T f) :=
  L2.PE.imp (Vw (QdZ hT) hg hm boot_isinstance (X9 h (X9 (gh (v:=.ty T) hg' hm' hv rfl hn hdb) pa_nil hs2) hs) (by decide) (by decide) hs hpl) fun σ H Q ⟨Z,env,ρ,B,hp,d,hp',S,e,k⟩=>by
    obtain ⟨x,hp1,e1,e2⟩:=Qf e
    refine tD.run S e1 fun v ρ1 B1 H1 g1 S1 r1=>?_
    cases q:VW x with
    | none=>rw [q] at e2;cases e2
    | some t =>
      rw [q] at e2
      obtain ⟨rfl,rfl⟩:=Qj e2
      exact ⟨ρ1,B1,x,v,t,rfl,r1,q,k _ ρ1 B1 H1 g1 S1.wo Jd⟩
def Xi (g g':DV->DV->M DV) (fa fb fc:DEx):DEx:=fun env=>do
 let x <- fa env
 let y <- fb env
 let z <- g x y
 if <- asB z then
  let u <- fc env
  g' y u
 else pure (.bl false)
end
end D
namespace D
open PySem PySem.Spec PyProof.Rows L2
section
variable {X:Cx} {e a b c:Expr} {f fa fb fc:DEx} {ca cb:DTx} {pos:Pos}
theorem vD {K:PySem.W.Frag} {g g':DV->DV->M DV} {σ:St} {H:Hp} {Q:VK} (h:tD K (Xi g g' fa fb fc) σ H Q):Qci (tP2 K g) (tP2 K g') (tD K fa) (tD K fb) (tD K fc) σ H Q:=by
  obtain ⟨Z,env,ρ,B,hp,d,hp',S,e,k⟩:=h
  obtain ⟨x,hp1,e1,e⟩:=Qf e
  obtain ⟨y,hp2,e2,e⟩:=Qf e
  obtain ⟨z,hp3,e3,e⟩:=Qf e
  obtain ⟨t,hp4,e4,e⟩:=Qf e
  obtain ⟨rfl,rfl⟩:=YZ e4
  refine tD.run S e1 fun v ρ1 B1 H1 g1 S1 r1=>tD.run S1 e2 fun u ρ2 B2 H2 g2 S2 r2=>?_
  refine ⟨ρ2,B2,hp2,x,y,_,_,S2.wo,RepV.grow S1.wo.rb g2 _ _ r1,r2,e3,fun w ρ3 B3 H3 g3 W3 r3=>⟨t,r3.blI,?_⟩⟩
  have S3:=S2.grow g3 W3
  cases t with
  | false =>
    obtain ⟨rfl,rfl⟩:=Qj e
    exact Gy (k _ ρ3 B3 H3 (g1.trans (g2.trans g3)) W3 Jd)
  | true =>
    obtain ⟨q,hp5,e5,e6⟩:=Qf e
    refine Gz (tD.run S3 e5 fun p ρ4 B4 H4 g4 S4 r4=>?_)
    exact ⟨ρ4,B4,hp5,y,q,d,hp',S4.wo,RepV.grow S3.wo.rb g4 _ _ (RepV.grow S2.wo.rb g3 _ _ r2),r4,e6,k.after (g1.trans (g2.trans (g3.trans g4)))⟩
theorem Ve {op op':CmpOp} {g g':DV->DV->M DV} (ho:P2 X (compareOp op) g) (ho':P2 X (compareOp op') g') (ha:DE X a fa) (hb:DE X b fb) (hc:DE X c fc) (hm:lastMarks [op,op'] [b,c]=false:=by with_unfolding_all rfl):DT X (.Compare a [op,op'] [b,c] pos) (eB (Xi g g' fa fb fc)) :=
 L2.PT.imp (QbU ho ho' ha hb hc hm) fun σ H Q ⟨Z,env,ρ,B,hp,d,hp',S,e,k⟩=>by
  obtain ⟨x,hp1,e1,e2⟩:=Qf e
  obtain ⟨rfl,rfl⟩:=YZ e2
  exact vD (tD.run S e1 fun v ρ1 B1 H1 g1 S1 r1=>⟨d,r1.blI,k ρ1 B1 H1 g1 S1.wo⟩)
abbrev DOx:=En->M (Option Int)
def tDO (K:PySem.W.Frag) (f:DOx):TO:=fun σ H Q=>∃ Z env ρ B hp d hp',SOk K Z env σ ρ B hp H/\f env hp=some (d,hp')/\QfU K ρ B H hp' (Q d)
def DO (X:Cx) (e:Option Expr) (f:DOx):Prop:=PO X e (tDO X.K f)
def ZJ:DOx:=fun _=>pure none
def asI:DV->M Int
 | .int i=>pure i
 | _=>failure
theorem jI {d:DV} {c:Int} {hp hp':Hs} (h:asI d hp=some (c,hp')):d=.int c/\hp=hp':=by
 cases d with
 | int b=>obtain ⟨rfl,rfl⟩:=Qj h;exact ⟨rfl,rfl⟩
 | _=>cases h
def ZK (f:DEx):DOx:=fun env=>do let i <- asI (<- f env);pure (some i)
theorem JJ:DO X none ZJ:=fun pins s σ H Q I ⟨Z,env,ρ,B,hp,d,hp',S,e,k⟩=>by
 obtain ⟨rfl,rfl⟩:=Qj e
 exact Qdk pins s σ H Q I (k ρ B H Gr.refl S.wo)
theorem JK (h:DE X e f):DO X (some e) (ZK f):=fun pins s σ H Q I ⟨Z,env,ρ,B,hp,d,hp',S,e,k⟩=>by
 obtain ⟨x,hp1,e1,e2⟩:=Qf e
 obtain ⟨i,hp2,e3,e4⟩:=Qf e2
 obtain ⟨rfl,rfl⟩:=jI e3
 obtain ⟨rfl,rfl⟩:=Qj e4
 exact Qdl h pins s σ H Q I (tD.run S e1 fun v ρ1 B1 H1 g1 S1 r1=>⟨i,r1.intI,k ρ1 B1 H1 g1 S1.wo⟩)
theorem tDO.run {K:PySem.W.Frag} {f:DOx} {Z:Ent} {env:En} {σ:St} {ρ:List Addr} {B:Addr->Prop} {hp hp1:Hs} {H:Hp} {d:Option Int} {Q:Option Int->Hp->Prop} (S:SOk K Z env σ ρ B hp H) (e:f env hp=some (d,hp1))
  (k:∀ ρ' B' H',Gr K ρ B H ρ' B' H'->SOk K Z env σ ρ' B' hp1 H'->Q d H'):tDO K f σ H Q :=
 ⟨Z,env,ρ,B,hp,d,hp1,S,e,fun ρ' B' H' g W=>k ρ' B' H' g (S.grow g W)⟩
def Ua (ds:List DV) (lo hi:Option Int):List DV:=(ds.drop (HT.sIx ds.length 0 lo)).take (HT.sIx ds.length ds.length hi - HT.sIx ds.length 0 lo)
theorem Gc {K:PySem.W.Frag} {ρ:List Addr} {B:Addr->Prop} {H:Hp} {ds:List DV} {xs:List V} {lo hi:Option Int} (r:RepL K ρ B H ds xs):RepL K ρ B H (Ua ds lo hi) (Gd xs lo hi):=by
 unfold Ua Gd
 rw [r.length]
 exact RepL.take _ (RepL.drop _ r)
def slD (d:DV) (lo hi:Option Int):M DV:=match d with
 | .lst ds=>pure (.lst (Ua ds lo hi))
 | .tup ds=>pure (.tup (Ua ds lo hi))
 | _=>failure
def eSl (f:DEx) (lo hi:DOx):DEx:=fun env=>do let d <- f env;let l <- lo env;let h <- hi env;slD d l h
def tPs (K:PySem.W.Frag):V->Option Int->Option Int->Hp->VK->Prop:=fun x lo hi H Q=>∃ ρ B hp d r hp',WOk K ρ B hp H/\RepV K ρ B H d x/\slD d lo hi hp=some (r,hp')/\Fol K ρ B H r hp' Q
theorem G7 {prog:Program} {w:World} {A:Around} {E:Value->Shared->Prop} {s:Shared} {t sl:Addr} {items:Array Value} {vl vu:Value} {lo hi:Option Int} {Q:Value->Shared->Prop} (ht:IsTup s.heap t items) (hs:s.heap.IsSliceOf sl vl vu .none) (pl:IsPart vl lo) (pu:IsPart vu hi)
  (h0:HT.sIx items.size 0 lo=0) (h1:HT.sIx items.size items.size hi=items.size) (h:Q (.ref t) s):wpAny (model prog w) A (getItem (.ref t) (.ref sl)) Q E s:=by
 obtain ⟨os,hos,hcs,hds⟩:=id hs
 have hTs:s.TypeIs (.ref sl) "slice" := ⟨os,hos,hcs⟩
 unfold getItem
 try with_reducible refine wpAny_holding ?_
 first | refine wpAny_bind (wpAny_pure ?_) | skip
 refine wpAny_bind (wpAny_sequenceKey ht.typeIs (by decide) ?_)
 refine wpAny_bind (wpAny_callSpecial?_slot (name:=Str.ofString "__getitem__") ht.typeIs PyProof.Rows.slot_tuple_getitem (wpAny_call_entry PyProof.Rows.slot_tuple_getitem ht.typeIs entry_tuple_getitem ?_ (args_tuple_getitem _ _)))
 show wpAny _ _ (Builtin.Tuple.tupleItemsOf (.ref t) >>= _) _ _ s
 refine wpAny_bind (tupleItemsOf_ ht ?_)
 refine wpAny_bind (wpAny_typeOf hTs ?_)
 rw [if_pos (by decide)]
 refine wpAny_bind (HT.sliceApplied_gen hs pl pu ?_)
 have yes:(((HT.sIx items.size 0 lo:Nat):Int)==0&&(1:Int)==1&&(HT.sIx items.size items.size hi - HT.sIx items.size 0 lo)==items.size)=true:=by rw [h0,h1];simp
 show wpAny _ _ (if (((HT.sIx items.size 0 lo:Nat):Int)==0&&(1:Int)==1&&(HT.sIx items.size items.size hi - HT.sIx items.size 0 lo)==items.size)=true then _ else _) _ _ s
 rw [if_pos yes]
 have ex:∀ {Q':Bool->Shared->Prop} {A':Around} {E':Value->Shared->Prop},Q' true s->wpAny (model prog w) A' (Builtin.Tuple.tupleIsExact (.ref t)) Q' E' s:=fun {Q' A' E'} q=>by
  unfold Builtin.Tuple.tupleIsExact
  exact wpAny_bind (wpAny_typeOf ht.typeIs (wpAny_pure (by rw [show (Value.type "tuple" == Value.type "tuple")=true from beq_self_eq_true _];exact q)))
 refine wpAny_bind (ex ?_)
 rw [if_pos rfl]
 first
  | exact wpAny_bind (wpAny_rule (wpAny_pure ⟨_,rfl,wpAny_pure h⟩))
  | exact wpAny_bind (wpAny_rule (wpAny_bind (wpAny_pure (wpAny_pure ⟨_,rfl,wpAny_pure h⟩))))
theorem QdI:SlR X (fun x lo hi H Q=>∃ a xs,x=.ref a/\SqT X.K H a xs/\(HT.sIx xs.length 0 lo=0/\HT.sIx xs.length xs.length hi=xs.length)/\Q (.ref a) H):=by
 intro pins s σ H x v vl vu lo hi sl Q I rx hs pl pu h
 obtain ⟨a,xs,rfl,hx,⟨h0,h1⟩,q⟩:=h
 cases rx
 obtain ⟨its,r,ht,hz⟩:=I.tuple hx
 have hlen:its.toArray.size=xs.length:=by rw [List.size_toArray];exact r.length.symm
 exact ⟨"tuple", _,PyProof.Rows.slot_tuple_getitem.lookup,ht.typeIs,G7 ht hs pl pu (by rw [hlen];exact h0) (by rw [hlen];exact h1) ⟨.ref a,H,I,rfl,q⟩⟩
theorem kC {α:Type} (ds:List α) (i j:Nat) (h0:i=0) (h1:j=ds.length):(ds.drop i).take (j - i)=ds:=by subst h0 h1;simp
theorem Qha:SlR X (tPs X.K):=by
  intro pins s σ H x v vl vu lo hi sl Q I rx hs pl pu h
  obtain ⟨ρ,B,hp,d,r,hp',W,rv,e,k⟩:=h
  cases d with
  | lst ds =>
    obtain ⟨rfl,rfl⟩:=Qj e
    obtain ⟨a,xs,rfl,nb,sq,rl⟩:=rv.lstI
    exact QdH pins s σ H _ v vl vu lo hi sl Q I rx hs pl pu ⟨a,xs,rfl,sq,Ks W (Gc rl) k⟩
  | tup ds =>
    obtain ⟨rfl,rfl⟩:=Qj e
    obtain ⟨a,xs,rfl,nb,sq,rl⟩:=rv.tupI
    by_cases hw:HT.sIx xs.length 0 lo=0/\HT.sIx xs.length xs.length hi=xs.length
    . refine QdI pins s σ H _ v vl vu lo hi sl Q I rx hs pl pu ⟨a,xs,rfl,sq,hw,?_⟩
      have:Ua ds lo hi=ds:=by unfold Ua;exact kC ds _ _ (by rw [rl.length];exact hw.1) (by rw [rl.length];exact hw.2)
      rw [this] at k
      exact k _ ρ B H Gr.refl W (zT nb sq rl)
    . exact Qfw pins s σ H _ v vl vu lo hi sl Q I rx hs pl pu ⟨a,xs,rfl,sq,hw,jW W (Gc rl) k⟩
  | non=>cases e
  | bl _=>cases e
  | int _=>cases e
  | str _=>cases e
  | ref _=>cases e
theorem YC {lo hi:Option Expr} {ol oh:DOx} {p2:Pos} (h:DE X e f) (hl:DO X lo ol) (hh:DO X hi oh):DE X (.Subscript e (.Slice lo hi none p2) pos) (eSl f ol oh) :=
 L2.PE.imp (QbJ Qha h hl hh) fun σ H Q ⟨Z,env,ρ,B,hp,d,hp',S,e,k⟩=>by
  obtain ⟨x,hp1,e1,e⟩:=Qf e
  obtain ⟨l,hp2,e2,e⟩:=Qf e
  obtain ⟨u,hp3,e3,e⟩:=Qf e
  refine tD.run S e1 fun v ρ1 B1 H1 g1 S1 r1=>tDO.run S1 e2 fun ρ2 B2 H2 g2 S2=>tDO.run S2 e3 fun ρ3 B3 H3 g3 S3=>?_
  exact ⟨ρ3,B3,hp3,x,d,hp',S3.wo,RepV.grow S1.wo.rb (g2.trans g3) _ _ r1,e,k.after (g1.trans (g2.trans g3))⟩
theorem Qgd {P:Program} {w:World} {K:PySem.W.Frag} {mg:Str->Option Value} {base:Heap} {x:Str} {stm:Stmt} {g:Addr} {fd:FuncData} {N ps:List Str} {k:Nat} {body:DSx} (F:Fun K x x stm g fd) (Sc:Qt N ps (Qo stm))
  (h:∀ (cdv:Value) (A:Around) (outer:List Env) (s:Shared) (H:Hp) (E:XK),Room k (A.deeper (envOfC x (Qo stm) s.heap.objs.size g cdv))->DSs (yO CX0 P w K mg base N x (Qo stm) g cdv A outer s H E).nox (ZH stm) body) :
  qX P w K mg base CX0 (k+1) g fd ps (spD K ps.length (Q5 N.length body)):=by
 refine F.ok Sc (fun vs H Q E h=>h.1) (fun cdv A outer s H vs Q E hr sp=>?_)
 obtain ⟨hn,ρ,B,hp,ds,d,hp',W,r,e,k⟩:=sp
 obtain ⟨⟨fl,env'⟩,hp1,e1,e2⟩:=Qf e
 refine ⟨_,h cdv A outer s H E hr,⟨ρ,B,H⟩,_,ρ,B,hp,fl,env',hp1,yc W r,e1,fun σ' ρ' B' H' g' S'=>?_⟩
 cases fl with
 | nx=>obtain ⟨rfl,rfl⟩:=Qj e2;exact k .non ρ' B' H' S'.gr S'.wo zS
 | rt x=>obtain ⟨rfl,rfl⟩:=Qj e2;exact fun v rv=>k v ρ' B' H' S'.gr S'.wo rv
 | bk=>cases e2
 | ct=>cases e2
theorem GO {K:PySem.W.Frag} {ρ:List Addr} {B:Addr->Prop} {H:Hp}:∀ ns:List Int,RepL K ρ B H (ns.map DV.int) (ns.map V.int)
 | []=>RepL.nil
 | _::r=>RepL.cons JM (GO r)
theorem QeL {K:PySem.W.Frag} {F:List DV->M DV} {H:Hp} {a:Addr} {ns:List Int} {E:XK} (h:∃ hp',F [.lst (ns.map .int)] []=some (.bl true,hp')) (hS:SqL K H a (ns.map V.int)):spD K 1 F [.ref a] H (fun v _=>v=.bl true) E:=by
 obtain ⟨hp',h⟩:=h
 refine ⟨rfl,[],fun _=>False,[],[.lst (ns.map .int)],.bl true,hp',⟨rfl,List.nodup_nil,fun i a o h=>by simp at h,fun a h=>absurd h (by simp),fun a h=>absurd h (fun z=>z),fun a h=>h.elim⟩,RepL.one (KK (fun z=>z) hS (GO ns)),h,fun v _ _ _ _ _ r=>r.blI⟩
end
end D
namespace L2
open PySem PySem.Spec PyProof.Rows
section
variable {prog:Program} {w:World} {A:Around} {E:Value->Shared->Prop} {s:Shared}
theorem Yb {p q:Addr} {n:Nat} {xs:Array Value} {v:Value} {Q:Value->Shared->Prop} (a1:s.heap.IsTupleIter p q n) (a2:s.heap.IsTuple q xs) (a3:xs[n]?=some v)
  (k:∀ g,g.IsTupleIter p q (n+1)->Heap.SameBut p s.heap g->Q v { s with heap:=g }):wpAny (model prog w) A (Builtin.SmallTypes.nextOf (.ref p)) Q E s:=by
 obtain ⟨ob,b1,b2,b3⟩:=id a1
 obtain ⟨oq,b4,_,m,b5⟩:=a2
 unfold Builtin.SmallTypes.nextOf
 refine wpAny_bind (wpAny_callSpecial?_slot (name:=Str.ofString "__next__") a1.typeIs F.slot_tuple_iterator_next (wpAny_call_entry F.slot_tuple_iterator_next a1.typeIs F.entry_tuple_iterator_next ?_ (F.args_tuple_iterator_next_1 _)))
 show wpAny _ _ (field (.ref p) 0 >>= _) _ _ s
 refine wpAny_bind (wpAny_field b1 b3 (x:=.ref q) rfl ?_)
 show wpAny _ _ (if (Value.ref q==Value.none)=true then _ else _) _ _ s
 rw [if_neg (show ¬ ((Value.ref q==Value.none)=true) from Bool.false_ne_true)]
 show wpAny _ _ (field (.ref p) 1 >>= _) _ _ s
 refine wpAny_bind (wpAny_field b1 b3 (x:=.int n 0) rfl ?_)
 show wpAny _ _ (seqItems? (.ref q) >>= _) _ _ s
 refine wpAny_bind (wpAny_seqItems b4 b5 ?_)
 simp only [Int.toNat_natCast,a3]
 refine wpAny_bind (wpAny_setField b1 b3 (by simp) (wpAny_pure ⟨v,rfl,wpAny_pure (k _ ?_ (Heap.SameBut.update ..))⟩))
 exact ⟨_,Heap.get?_update_self _ b1 (Obj.isFreed_of_fields (Obj.data_mapFields b3 _)),(Obj.cls_mapFields ..).trans b2,by rw [Obj.data_mapFields b3];simp [rawInt]⟩
theorem yh {p q:Addr} {n:Nat} {xs:Array Value} {Q:Value->Shared->Prop} (hh:A.handled=none) (a1:s.heap.IsTupleIter p q n) (a2:s.heap.IsTuple q xs) (a3:xs[n]?=none)
  (k:∀ g x,Heap.ExtBut p s.heap g->(∃ o,g.get? x=some o/\o.cls=.type "StopIteration")->E (.ref x) { s with heap:=g }):wpAny (model prog w) A (Builtin.SmallTypes.nextOf (.ref p)) Q E s:=by
 obtain ⟨ob,b1,b2,b3⟩:=id a1
 obtain ⟨oq,b4,_,m,b5⟩:=a2
 unfold Builtin.SmallTypes.nextOf
 refine wpAny_bind (wpAny_callSpecial?_slot (name:=Str.ofString "__next__") a1.typeIs F.slot_tuple_iterator_next (wpAny_call_entry F.slot_tuple_iterator_next a1.typeIs F.entry_tuple_iterator_next ?_ (F.args_tuple_iterator_next_1 _)))
 show wpAny _ _ (field (.ref p) 0 >>= _) _ _ s
 refine wpAny_bind (wpAny_field b1 b3 (x:=.ref q) rfl ?_)
 show wpAny _ _ (if (Value.ref q==Value.none)=true then _ else _) _ _ s
 rw [if_neg (show ¬ ((Value.ref q==Value.none)=true) from Bool.false_ne_true)]
 show wpAny _ _ (field (.ref p) 1 >>= _) _ _ s
 refine wpAny_bind (wpAny_field b1 b3 (x:=.int n 0) rfl ?_)
 show wpAny _ _ (seqItems? (.ref q) >>= _) _ _ s
 refine wpAny_bind (wpAny_seqItems b4 b5 ?_)
 simp only [Int.toNat_natCast,a3]
 refine wpAny_bind (wpAny_rule (wpAny_bind (wpAny_setField b1 b3 (by simp) ?_)))
 show wpAny _ _ (newExc (.type "StopIteration") [] >>= _) _ _ _
 refine wpAny_bind ?_
 simp only [newExc,newTuple]
 refine wpAny_bind (wpAny_newObj_type ?_ (by size_fits))
 refine wpAny_bind (m:=firstArgMember _ _) (wpAny_of_eq (a:=Value.none) (by first | rfl | (simp only [firstArgMember];rfl)) ?_)
 refine wpAny_newObj_type ?_ (by size_fits)
 simp only [raiseNew]
 refine wpAny_bind (wpAny_handled ?_)
 first | rw [show A.in1.handled=none from hh] | rw [hh]
 refine wpAny_bind (wpAny_pure (wpAny_throw ?_))
 exact k _ _ (((Heap.SameBut.update ..).extBut.push _).push _) ⟨_,Heap.get?_push_size _ rfl,rfl⟩
structure ZA (z p o i j a b:Addr):Prop where
 pz:p≠z
 oz:o≠z
 iz:i≠z
 jz:j≠z
 po:p≠o
 pi:p≠i
 pj:p≠j
 oi:o≠i
 oj:o≠j
 ij:i≠j
 az:a≠z
 ao:a≠o
 ai:a≠i
 aj:a≠j
 bz:b≠z
 bo:b≠o
 bi:b≠i
 bj:b≠j
structure ZS (h:Heap) (z p o i j a b:Addr) (n:Nat) (f:Value):Prop where
 zz:IsZip h z p o f
 pp:IsPair h p (.ref i) (.ref j)
 oo:∃ x y,IsPair h o x y
 ii:h.IsTupleIter i a n
 jj:h.IsTupleIter j b n
theorem QdT {z p o i j a b:Addr} {n:Nat} {xs ys:Array Value} {x y:Value} {Q:Value->Shared->Prop} (D:ZA z p o i j a b) (S:ZS s.heap z p o i j a b n .none) (ha:s.heap.IsTuple a xs) (hb:s.heap.IsTuple b ys) (hx:xs[n]?=some x) (hy:ys[n]?=some y)
  (k:∀ g,ZS g z p o i j a b (n+1) (rawInt s.heap.objs.size)->IsPair g s.heap.objs.size x y->g.objs.size=s.heap.objs.size+1->(∀ c u,c≠z->c≠o->c≠i->c≠j->s.heap.get? c=some u->g.get? c=some u)->Q (.ref s.heap.objs.size) { s with heap:=g }) :
  wpAny (model prog w) A (Builtin.«zip.__next__» ⟨[.ref z],[]⟩) (fun fin s'=>∃ v,fin=.done (.ret v)/\Q v s') E s:=by
 obtain ⟨zz,pp,⟨u1,u2,oo⟩,ii,jj⟩:=S
 show wpAny _ _ (field (.ref z) 2 >>= _) _ _ _
 refine wpAny_bind (wpAny_field zz rfl (x:=.bool false) rfl ?_)
 show wpAny _ _ (field (.ref z) 3 >>= _) _ _ _
 refine wpAny_bind (wpAny_field zz rfl (x:=.ref p) rfl ?_)
 refine wpAny_bind (wpAny_seqItems pp rfl ?_)
 show wpAny _ _ (Builtin.SmallTypes.ownedTupleIsFree (.ref z) >>= _) _ _ _
 refine wpAny_bind ?_
 unfold Builtin.SmallTypes.ownedTupleIsFree
 refine wpAny_bind (wpAny_field zz rfl (x:=.none) rfl (wpAny_pure ?_))
 simp only [if_true]
 refine wpAny_bind (wpAny_rule ?_)
 refine wpAny_bind (wpAny_field zz rfl (x:=.ref o) rfl ?_)
 refine wpAny_bind (wpAny_setField_rec zz (by simp) fun g1 z1 k1=>?_)
 replace z1:IsZip g1 z p o .ellipsis:=z1
 refine wpAny_bind ?_
 simp only [List.zipIdx_cons,List.zipIdx_nil,List.forIn_cons,List.forIn_nil]
 refine wpAny_bind (wpAny_bind (wpAny_onRaise ?_))
 show wpAny _ _ (Builtin.SmallTypes.nextOf (.ref i) >>= _) _ _ _
 have ht:∀ {g g':Heap} {q c:Addr} {vs:Array Value},Heap.SameBut q g g'->c≠q->g.IsTuple c vs->g'.IsTuple c vs:=fun {g g' q c vs} sb hc ⟨ob,e,r⟩=>⟨ob,sb.extBut _ _ hc e,r⟩
 refine wpAny_bind (Yb (ii.extBut k1.extBut D.iz) (ht k1 D.az ha) hx fun g2 i2 k2=>wpAny_pure ?_)
 have o2:IsPair g2 o u1 u2:=k2.extBut _ _ D.oi (k1.extBut _ _ D.oz oo)
 refine wpAny_bind (wpAny_seqItems o2 rfl ?_)
 refine wpAny_bind (wpAny_updateSeq_pair o2 fun g3 o3 k3=>?_)
 replace o3:IsPair g3 o x u2:=o3
 refine wpAny_bind (wpAny_letGo (wpAny_pure ?_))
 refine wpAny_bind (wpAny_bind (wpAny_onRaise ?_))
 show wpAny _ _ (Builtin.SmallTypes.nextOf (.ref j) >>= _) _ _ _
 refine wpAny_bind (Yb (((jj.extBut k1.extBut D.jz).extBut k2.extBut D.ij.symm).extBut k3.extBut D.oj.symm) (ht k3 D.bo (ht k2 D.bi (ht k1 D.bz hb))) hy fun g4 j4 k4=>wpAny_pure ?_)
 have o4:IsPair g4 o x u2:=k4.extBut _ _ D.oj o3
 refine wpAny_bind (wpAny_seqItems o4 rfl ?_)
 refine wpAny_bind (wpAny_updateSeq_pair o4 fun g5 o5 k5=>?_)
 replace o5:IsPair g5 o x y:=o5
 refine wpAny_bind (wpAny_letGo (wpAny_pure (wpAny_pure ?_)))
 refine wpAny_bind (wpAny_seqItems o5 rfl ?_)
 refine wpAny_bind (wpAny_newTuple ?_)
 have sz:g5.objs.size=s.heap.objs.size:=by rw [k5.1,k4.1,k3.1,k2.1,k1.1]
 have z5:IsZip g5 z p o .ellipsis:=k5.extBut _ _ D.oz.symm (k4.extBut _ _ D.jz.symm (k3.extBut _ _ D.oz.symm (k2.extBut _ _ D.iz.symm z1)))
 have kk:∀ c u,c≠z->c≠o->c≠i->c≠j->s.heap.get? c=some u->g5.get? c=some u:=fun c u c1 c2 c3 c4 e=>k5.extBut _ _ c2 (k4.extBut _ _ c4 (k3.extBut _ _ c2 (k2.extBut _ _ c3 (k1.extBut _ _ c1 e))))
 have i5:g5.IsTupleIter i a (n+1):=((i2.extBut k3.extBut D.oi.symm).extBut k4.extBut D.ij).extBut k5.extBut D.oi.symm
 have j5:g5.IsTupleIter j b (n+1):=j4.extBut k5.extBut D.oj.symm
 have zl:z < g5.objs.size:=Heap.lt_size z5
 show wpAny _ _ (Builtin.SmallTypes.ownedTupleHandOut (.ref z) (.ref g5.objs.size) >>= _) _ _ _
 refine wpAny_bind ?_
 unfold Builtin.SmallTypes.ownedTupleHandOut
 have z6:IsZip (g5.push { cls:=.type "tuple", data:=.seq #[x,y] }) z p o .ellipsis:=Heap.get?_push_of_some _ z5
 refine wpAny_bind (wpAny_setField_rec z6 (by simp) fun g7 z7 k7=>?_)
 replace z7:IsZip g7 z p o (rawInt g5.objs.size):=z7
 refine wpAny_setField_rec z7 (by simp) fun g8 z8 k8=>?_
 replace z8:IsZip g8 z p o (rawInt g5.objs.size):=z8
 have up:∀ c u,c≠z->g5.get? c=some u->g8.get? c=some u:=fun c u c1 e=>k8.extBut _ _ c1 (k7.extBut _ _ c1 (Heap.get?_push_of_some _ e))
 have t8:IsPair g8 g5.objs.size x y:=k8.extBut _ _ (Nat.ne_of_gt zl) (k7.extBut _ _ (Nat.ne_of_gt zl) (Heap.get?_push_size _ rfl))
 have s8:g8.objs.size=g5.objs.size+1:=by rw [k8.1,k7.1,Heap.size_push]
 rw [sz] at z8 t8 s8
 refine wpAny_pure ⟨_,rfl,?_⟩
 show Q (.ref g5.objs.size) _
 rw [sz]
 exact k g8 ⟨z8,up _ _ D.pz (kk _ _ D.pz D.po D.pi D.pj pp),⟨x,y,up _ _ D.oz o5⟩,i5.at fun u e=>up _ u D.iz e,j5.at fun u e=>up _ u D.jz e⟩ t8 s8 fun c u c1 c2 c3 c4 e=>up c u c1 (kk c u c1 c2 c3 c4 e)
theorem QdU {z p o i j a b:Addr} {n:Nat} {xs ys:Array Value} {Q:PySem.Fin->Shared->Prop} (hh:A.handled=none) (D:ZA z p o i j a b) (S:ZS s.heap z p o i j a b n .none) (ha:s.heap.IsTuple a xs) (hb:s.heap.IsTuple b ys) (he:xs[n]?=none∨ys[n]?=none)
    (k:∀ g x,(∀ c u,c≠z->c≠o->c≠i->c≠j->s.heap.get? c=some u->g.get? c=some u)->(∃ u,g.get? x=some u/\u.cls=.type "StopIteration")->E (.ref x) { s with heap:=g }) :
    wpAny (model prog w) A (Builtin.«zip.__next__» ⟨[.ref z],[]⟩) Q E s:=by
  obtain ⟨zz,pp,⟨u1,u2,oo⟩,ii,jj⟩:=S
  have ht:∀ {g g':Heap} {q c:Addr} {vs:Array Value},Heap.SameBut q g g'->c≠q->g.IsTuple c vs->g'.IsTuple c vs:=fun {g g' q c vs} sb hc ⟨ob,e,r⟩=>⟨ob,sb.extBut _ _ hc e,r⟩
  show wpAny _ _ (field (.ref z) 2 >>= _) _ _ _
  refine wpAny_bind (wpAny_field zz rfl (x:=.bool false) rfl ?_)
  show wpAny _ _ (field (.ref z) 3 >>= _) _ _ _
  refine wpAny_bind (wpAny_field zz rfl (x:=.ref p) rfl ?_)
  refine wpAny_bind (wpAny_seqItems pp rfl ?_)
  show wpAny _ _ (Builtin.SmallTypes.ownedTupleIsFree (.ref z) >>= _) _ _ _
  refine wpAny_bind ?_
  unfold Builtin.SmallTypes.ownedTupleIsFree
  refine wpAny_bind (wpAny_field zz rfl (x:=.none) rfl (wpAny_pure ?_))
  simp only [if_true]
  refine wpAny_bind (wpAny_rule ?_)
  refine wpAny_bind (wpAny_field zz rfl (x:=.ref o) rfl ?_)
  refine wpAny_bind (wpAny_setField_rec zz (by simp) fun g1 z1 k1=>?_)
  replace z1:IsZip g1 z p o .ellipsis:=z1
  refine wpAny_bind ?_
  simp only [List.zipIdx_cons,List.zipIdx_nil,List.forIn_cons,List.forIn_nil]
  refine wpAny_bind (wpAny_bind (wpAny_onRaise ?_))
  show wpAny _ _ (Builtin.SmallTypes.nextOf (.ref i) >>= _) _ _ _
  cases hx:xs[n]? with
  | none =>
    refine wpAny_bind (yh hh (ii.extBut k1.extBut D.iz) (ht k1 D.az ha) hx fun g2 x k2 h2=>?_)
    obtain ⟨oe,h3,h4⟩:=h2
    have z2:IsZip g2 z p o .ellipsis:=k2 _ _ D.iz.symm z1
    have xz:x≠z:=fun q=>by subst q;rw [z2] at h3;cases h3;simp at h4
    exact wpAny_setField_rec z2 (by simp) fun g3 _ k3=>k g3 x (fun c u c1 _ c3 _ e=>k3.extBut _ _ c1 (k2 _ _ c3 (k1.extBut _ _ c1 e))) ⟨oe,k3.extBut _ _ xz h3,h4⟩
  | some x0 =>
    have hy:ys[n]?=none:=by rcases he with h | h;rw [hx] at h;cases h;exact h
    refine wpAny_bind (Yb (ii.extBut k1.extBut D.iz) (ht k1 D.az ha) hx fun g2 i2 k2=>wpAny_pure ?_)
    have o2:IsPair g2 o u1 u2:=k2.extBut _ _ D.oi (k1.extBut _ _ D.oz oo)
    refine wpAny_bind (wpAny_seqItems o2 rfl ?_)
    refine wpAny_bind (wpAny_updateSeq_pair o2 fun g3 o3 k3=>?_)
    refine wpAny_bind (wpAny_letGo (wpAny_pure ?_))
    refine wpAny_bind (wpAny_bind (wpAny_onRaise ?_))
    show wpAny _ _ (Builtin.SmallTypes.nextOf (.ref j) >>= _) _ _ _
    refine wpAny_bind (yh hh (((jj.extBut k1.extBut D.jz).extBut k2.extBut D.ij.symm).extBut k3.extBut D.oj.symm) (ht k3 D.bo (ht k2 D.bi (ht k1 D.bz hb))) hy fun g4 x k4 h2=>?_)
    obtain ⟨oe,h3,h4⟩:=h2
    have z4:IsZip g4 z p o .ellipsis:=k4 _ _ D.jz.symm (k3.extBut _ _ D.oz.symm (k2.extBut _ _ D.iz.symm z1))
    have xz:x≠z:=fun q=>by subst q;rw [z4] at h3;cases h3;simp at h4
    exact wpAny_setField_rec z4 (by simp) fun g5 _ k5=>k g5 x (fun c u c1 c2 c3 c4 e=>k5.extBut _ _ c1 (k4 _ _ c4 (k3.extBut _ _ c2 (k2.extBut _ _ c3 (k1.extBut _ _ c1 e))))) ⟨oe,k5.extBut _ _ xz h3,h4⟩
end
end L2
namespace L2
open PySem PySem.Spec PyProof.Rows
section
variable {X:Cx} {pins:List (Addr×Obj)} {σ:L2.St} {H:Hp} {s:Shared} {h':Heap}
theorem Inv.turnL {t':Nat} {fp:List Addr} (I:Inv X pins σ H s) (hf:∀ b∈fp,V3 X pins H b) (k:∀ b o,b∉fp->s.heap.get? b=some o->h'.get? b=some o):Inv X pins σ H { s with heap:=h',toks:=t' }:=by
 refine I.step (g':=s.gens) (d':=s.drawn) (ch:=fp) (fun b hb=>⟨(hf b hb).2.2.2.1,(hf b hb).2.1,(hf b hb).2.2.2.2.1,(hf b hb).2.2.2.2.2⟩) (fun b o _ _ hc e _=>k b o hc e) (fun b o _ _ hc e _=>⟨o.slots,k b o hc e⟩) (fun _ _ _ _ n=>n)
  (fun b o hc e=>⟨o,k b o hc e⟩) (fun _ _ e=>e) (fun _ _ _ e=>e) (fun b ps e=>⟨#[],by rw [e];simp⟩) (fun m hm=>?_) (fun b u e=>?_) I.bare
 ·obtain ⟨o,es,ep,ho,r⟩:=hm
  exact ⟨o,es,ep,k _ o (fun z=>(hf _ z).2.1 rfl) ho,r⟩
 ·have nf:∀ c u,H c=some u->c∉fp:=fun c u q z=>by rw [(hf c z).1] at q;cases q
  refine (I.hok b u e).stay (fun c v hc q=>k c v ?_ q) (fun _ q=>q) fun _ _ q=>q
  rcases hc with z | z
  ·rw [z];exact nf b u e
  ·exact nf c _ z
theorem Inv.turnNew {t':Nat} {fp:List Addr} {vs:List V} {us:List Value} (I:Inv X pins σ H s) (hf:∀ b∈fp,V3 X pins H b) (k:∀ b o,b∉fp->s.heap.get? b=some o->h'.get? b=some o)
  (hv:Vals vs us) (hz:vs.length<=sizeLine) (hT:IsTup h' s.heap.objs.size us.toArray):Inv X pins σ (upd H s.heap.objs.size (.tup vs)) { s with heap:=h',toks:=t' }:=by
 have hn:H s.heap.objs.size=none:=I.hok.fresh (Nat.le_refl _)
 refine I.step (g':=s.gens) (d':=s.drawn) (ch:=fp) (fun b hb=>⟨(hf b hb).2.2.2.1,(hf b hb).2.1,(hf b hb).2.2.2.2.1,(hf b hb).2.2.2.2.2⟩) (fun b o _ _ hc e _=>k b o hc e) (fun b o _ _ hc e _=>⟨o.slots,k b o hc e⟩)
  (fun b o _ e n=>by rw [Q0 (Nat.ne_of_lt (Heap.lt_size e))];exact n) (fun b o hc e=>⟨o,k b o hc e⟩) (fun b xs e=>by rw [Q0 (ZC e hn)];exact e) (fun b o u e=>by rw [Q0 (ZC e hn)];exact e) (fun b ps e=>⟨#[],by rw [Q0 (ZC e hn),e];simp⟩) (fun m hm=>?_) (fun b u e=>?_) I.bare
 ·obtain ⟨o,es,ep,ho,r⟩:=hm
  exact ⟨o,es,ep,k _ o (fun z=>(hf _ z).2.1 rfl) ho,r⟩
 ·by_cases hb:b=s.heap.objs.size
  ·subst hb
   rw [Zj] at e;cases e
   exact ⟨hz,us,hv,hT⟩
  ·rw [Q0 hb] at e
   have nf:∀ c u,H c=some u->c∉fp:=fun c u q z=>by rw [(hf c z).1] at q;cases q
   refine (I.hok b u e).stay (fun c v hc q=>k c v ?_ q) (fun c q=>by rw [Q0 (ZC q hn)];exact q) fun c xs q=>by rw [Q0 (ZC q hn)];exact q
   rcases hc with z | z
   ·rw [z];exact nf b u e
   ·exact nf c _ z
end
def Itz (K:PySem.W.Frag) (a b:Addr):It :=
  ⟨fun i H=>∃ xs ys x y,SqT K H a xs/\SqT K H b ys/\xs[i]?=some x/\ys[i]?=some y,
   fun i H v H'=>∃ p x y,H p=none/\(∀ xs,SqT K H a xs->xs[i]?=some x)/\(∀ ys,SqT K H b ys->ys[i]?=some y)/\v=.ref p/\H'=upd H p (.tup [x,y]),
   fun i H=>∃ xs ys,SqT K H a xs/\SqT K H b ys/\(xs.length<=i∨ys.length<=i)⟩
theorem ZS.at {h h':Heap} {z p o i j a b:Addr} {n:Nat} {f:Value} (S:ZS h z p o i j a b n f) (k:∀ c∈[z,p,o,i,j],∀ u,h.get? c=some u->h'.get? c=some u):ZS h' z p o i j a b n f:=by
 obtain ⟨zz,pp,⟨u1,u2,oo⟩,ii,jj⟩:=S
 exact ⟨k z (by simp) _ zz,k p (by simp) _ pp,⟨u1,u2,k o (by simp) _ oo⟩,ii.at fun u e=>k i (by simp) u e,jj.at fun u e=>k j (by simp) u e⟩
theorem Qcm {P:Program} {w:World} {K:PySem.W.Frag} {elts:List Expr} {kt:Nat} {pos:Pos} {z p o i j a b:Addr} (D:ZA z p o i j a b):gX P w K (.Tuple elts kt pos) (Itz K a b) [z,p,o,i,j] z (fun n h=>ZS h z p o i j a b n .none) where
 mem:=by simp
 obj:=fun n h S c hc=>by
  obtain ⟨zz,pp,⟨u1,u2,oo⟩,⟨oi,ei,ci,di⟩,⟨oj,ej,cj,dj⟩⟩:=S
  simp only [List.mem_cons,List.not_mem_nil,or_false] at hc
  rcases hc with rfl | rfl | rfl | rfl | rfl
  ·exact ⟨_,zz,fun v q=>by have q':Data.fields _=Data.cell v:=q;cases q'⟩
  ·exact ⟨_,pp,fun v q=>by have q':Data.seq _ _=Data.cell v:=q;cases q'⟩
  ·exact ⟨_,oo,fun v q=>by have q':Data.seq _ _=Data.cell v:=q;cases q'⟩
  ·exact ⟨oi,ei,fun v q=>by rw [di] at q;cases q⟩
  ·exact ⟨oj,ej,fun v q=>by rw [dj] at q;cases q⟩
 keep:=fun n h h' S k=>S.at k
 item:=by
  intro X hP hw hK hc n pins s σ H E I hf S hg
  subst hP hw hK
  obtain ⟨xs,ys,x,y,qa,qb,hx,hy⟩:=hg
  obtain ⟨ia,ra,pa,_⟩:=I.tuple qa
  obtain ⟨ib,rb,pb,_⟩:=I.tuple qb
  obtain ⟨u,hu,ru⟩:=ra.get hx
  obtain ⟨v,hv,rv⟩:=rb.get hy
  have hT:s.TypeIs (.ref z) "zip" := ⟨_,S.zz,rfl⟩
  unfold pyNext
  refine wpAny_bind (wpAny_attempt (wpAny_callSpecial?_slot (name:=Str.ofString "__next__") hT F.slot_zip_next (wpAny_call_entry F.slot_zip_next hT F.entry_zip_next
   (QdT D S (show s.heap.IsTuple a ia.toArray from pa) (show s.heap.IsTuple b ib.toArray from pb) (by simpa using hu) (by simpa using hv) fun g S' tp sz kp=>wpAny_pure ?_) (F.args_zip_next_1 _))))
  refine ⟨_,rfl,wpAny_letOwnedTupleGo_zip S'.zz fun g' z' sb=>?_⟩
  have kp':∀ c q,c∉[z,p,o,i,j]->s.heap.get? c=some q->g'.get? c=some q:=fun c q hc e=>by
   simp only [List.mem_cons,List.not_mem_nil,or_false,not_or] at hc
   exact sb.extBut _ _ hc.1 (kp c q hc.1 hc.2.2.1 hc.2.2.2.1 hc.2.2.2.2 e)
  have zl:z < s.heap.objs.size:=Heap.lt_size S.zz
  have tp':IsPair g' s.heap.objs.size u v:=sb.extBut _ _ (Nat.ne_of_gt zl) tp
  have ne:∀ c∈[z,p,o,i,j],c≠s.heap.objs.size:=fun c hc e=>by
   have q:=(hf c hc)
   obtain ⟨zz,pp,⟨u1,u2,oo⟩,⟨oi,ei,_⟩,⟨oj,ej,_⟩⟩:=S
   simp only [List.mem_cons,List.not_mem_nil,or_false] at hc
   rcases hc with rfl | rfl | rfl | rfl | rfl
   ·exact Nat.ne_of_lt (Heap.lt_size zz) e
   ·exact Nat.ne_of_lt (Heap.lt_size pp) e
   ·exact Nat.ne_of_lt (Heap.lt_size oo) e
   ·exact Nat.ne_of_lt (Heap.lt_size ei) e
   ·exact Nat.ne_of_lt (Heap.lt_size ej) e
  refine ⟨.ref s.heap.objs.size,upd H s.heap.objs.size (.tup [x,y]),I.turnNew (t':=s.toks) hf kp' (us:=[u,v]) (.cons ru (.cons rv .nil)) (show 2<=sizeLine by decide) ⟨_,tp',rfl,_,rfl⟩,rfl,
   ⟨_,x,y,I.hok.fresh (Nat.le_refl _),fun xs' h=>by rw [I.tuple_inj h qa];exact hx,fun ys' h=>by rw [I.tuple_inj h qb];exact hy,rfl,rfl⟩,?_,fun c hc=>?_⟩
  ·obtain ⟨_,pp,⟨u1,u2,oo⟩,ii,jj⟩:=S'
   exact ⟨z',sb.extBut _ _ D.pz pp,⟨u1,u2,sb.extBut _ _ D.oz oo⟩,ii.extBut sb.extBut D.iz,jj.extBut sb.extBut D.jz⟩
  ·rw [Q0 (ne c hc)];exact (hf c hc).1
 done:=by
  intro X hP hw hK hc n pins s σ H E I hf S hg
  subst hP hw hK
  obtain ⟨xs,ys,qa,qb,hs⟩:=hg
  obtain ⟨ia,ra,pa,_⟩:=I.tuple qa
  obtain ⟨ib,rb,pb,_⟩:=I.tuple qb
  have l1:=ra.length
  have l2:=rb.length
  have hT:s.TypeIs (.ref z) "zip" := ⟨_,S.zz,rfl⟩
  unfold pyNext
  refine wpAny_bind (wpAny_attempt (wpAny_callSpecial?_slot (name:=Str.ofString "__next__") hT F.slot_zip_next (wpAny_call_entry F.slot_zip_next hT F.entry_zip_next
   (QdU (I.ok.hd hc) D S (show s.heap.IsTuple a ia.toArray from pa) (show s.heap.IsTuple b ib.toArray from pb) (by rcases hs with q | q;exact .inl (by simp;omega);exact .inr (by simp;omega)) fun g x kp hx=>?_) (F.args_zip_next_1 _))))
  obtain ⟨ox,h1,h2⟩:=hx
  refine wpAny_bind (wpAny_isInstance (T := "StopIteration") (b:=true) ⟨ox,h1,h2⟩ isSubtype_stop ?_)
  refine wpAny_pure ⟨rfl,I.turnL (t':=s.toks) hf fun c q hc e=>?_⟩
  simp only [List.mem_cons,List.not_mem_nil,or_false,not_or] at hc
  exact kp c q hc.1 hc.2.2.1 hc.2.2.2.1 hc.2.2.2.2 e
 self:=fun _ _ _ _ _ S h=>wpAny_pyIter_zip S.zz h
abbrev zt1 (h:Heap) (a:Addr):Heap:=h.push { cls:=.type "tuple_iterator", data:=.fields #[.ref a,.int 0 0] }
abbrev zt2 (h:Heap) (a b:Addr):Heap:=(zt1 h a).push { cls:=.type "tuple_iterator", data:=.fields #[.ref b,.int 0 0] }
abbrev zt3 (h:Heap) (a b:Addr):Heap:=(zt2 h a b).push { cls:=.type "tuple", data:=.seq #[.ref h.objs.size,.ref (zt1 h a).objs.size] }
abbrev zt4 (h:Heap) (a b:Addr):Heap:=(zt3 h a b).push { cls:=.type "tuple", data:=.seq #[.none,.none] }
abbrev zt5 (h:Heap) (a b:Addr):Heap:=(zt4 h a b).push { cls:=.type "zip", data:=.fields #[.none,.bool false,.bool false,.ref (zt2 h a b).objs.size,.ref (zt3 h a b).objs.size] }
theorem gQ (a b:Addr) (xs ys:Array Value):Meets (Builtin.«zip.__new__» ⟨[.type "zip", .ref a,.ref b],[]⟩) (fun _ R s=>s.heap.IsTuple a xs/\s.heap.IsTuple b ys/\R (.ok (.ret (.ref (zt4 s.heap a b).objs.size))) { s with heap:=zt5 s.heap a b }) :=
 .of_wp fun prog w A R s h=>by
  obtain ⟨hp,g,d,tk,os⟩:=s;obtain ⟨q1,q2,h⟩:=h
  have hsub:=sub_zip
  have t1:Heap.IsTuple (Shared.heap ⟨hp,g,d,tk,os⟩) a xs:=q1
  have t2:Heap.IsTuple (Shared.heap ⟨hp.push { cls:=.type "tuple_iterator", data:=.fields #[.ref a,.int 0 0] },g,d,tk,os⟩) b ys:=let ⟨ob,e,r⟩:=q2;⟨ob,Heap.get?_push_of_some _ e,r⟩
  wp_walk using wpAny_pyIter_tuple t1,wpAny_pyIter_tuple t2
  exact ⟨_,rfl,h⟩
section
variable {X:Cx} {elts:List Expr} {kt:Nat} {p2:Pos}
def Qd7 (K:PySem.W.Frag) (ta:TA):TI:=fun σ H R=>ta σ H fun vs H1=>∃ a b xs ys,vs=[.ref a,.ref b]/\SqT K H1 a xs/\SqT K H1 b ys/\R (Itz K a b) H1
theorem QfS {pins:List (Addr×Obj)} {σ:L2.St} {H:Hp} {s:Shared} {R:It->Hp->Prop} {E:Value->Shared->Prop} {a b:Addr} {xs ys:List V} (I:Inv X pins σ H s) (qa:SqT X.K H a xs) (qb:SqT X.K H b ys) (q:R (Itz X.K a b) H) :
  wpAny (model X.prog X.w) X.A (call (.type "zip") [.ref a,.ref b]) (fun v s1=>wpAny (model X.prog X.w) X.A (pyIter v) (PIE X pins σ (.Tuple elts kt p2) R) E s1) E s:=by
 obtain ⟨ia,ra,pa,_⟩:=I.tuple qa
 obtain ⟨ib,rb,pb,_⟩:=I.tuple qb
 refine callType_new F.called_zip (by decide) (F.typeCall_zip_2 _ _) (F.newCall_zip_2 _ _) (fun obj=>F.args_object_init_3 obj _ _) F.entry_zip_new (gQ a b ia.toArray ib.toArray) ⟨show s.heap.IsTuple a ia.toArray from pa,show s.heap.IsTuple b ib.toArray from pb,?_⟩
 have z1:(zt1 s.heap a).objs.size=s.heap.objs.size+1:=Heap.size_push ..
 have z2:(zt2 s.heap a b).objs.size=s.heap.objs.size+2:=by rw [Heap.size_push,z1]
 have z3:(zt3 s.heap a b).objs.size=s.heap.objs.size+3:=by rw [Heap.size_push,z2]
 have z4:(zt4 s.heap a b).objs.size=s.heap.objs.size+4:=by rw [Heap.size_push,z3]
 have g5:(zt5 s.heap a b).get? (zt4 s.heap a b).objs.size=some _:=Heap.get?_push_size _ rfl
 have g4:(zt5 s.heap a b).get? (zt3 s.heap a b).objs.size=some _:=Heap.get?_push_of_some _ (Heap.get?_push_size _ rfl)
 have g3:(zt5 s.heap a b).get? (zt2 s.heap a b).objs.size=some _:=Heap.get?_push_of_some _ (Heap.get?_push_of_some _ (Heap.get?_push_size _ rfl))
 have g2:(zt5 s.heap a b).get? (zt1 s.heap a).objs.size=some _:=Heap.get?_push_of_some _ (Heap.get?_push_of_some _ (Heap.get?_push_of_some _ (Heap.get?_push_size _ rfl)))
 have g1:(zt5 s.heap a b).get? s.heap.objs.size=some _:=Heap.get?_push_of_some _ (Heap.get?_push_of_some _ (Heap.get?_push_of_some _ (Heap.get?_push_of_some _ (Heap.get?_push_size _ rfl))))
 show _/\_
 have kp:∀ c o,s.heap.get? c=some o->(zt5 s.heap a b).get? c=some o:=fun c o e=>Heap.get?_push_of_some _ (Heap.get?_push_of_some _ (Heap.get?_push_of_some _ (Heap.get?_push_of_some _ (Heap.get?_push_of_some _ e))))
 refine ⟨⟨_,g5,rfl⟩,?_⟩
 rw [z2,z3,z4] at g5
 rw [z1,z2] at g3
 rw [z3] at g4
 rw [z1] at g2
 rw [z4]
 have la:a < s.heap.objs.size:=by obtain ⟨o,e,_⟩:=pa;exact Heap.lt_size e
 have lb:b < s.heap.objs.size:=by obtain ⟨o,e,_⟩:=pb;exact Heap.lt_size e
 have D:ZA (s.heap.objs.size+4) (s.heap.objs.size+2) (s.heap.objs.size+3) s.heap.objs.size (s.heap.objs.size+1) a b:=by constructor<;>first | exact Nat.ne_of_lt la | exact Nat.ne_of_lt lb | exact Nat.ne_of_lt (Nat.lt_of_lt_of_le la (Nat.le_add_right _ _)) | exact Nat.ne_of_lt (Nat.lt_of_lt_of_le lb (Nat.le_add_right _ _)) | exact Nat.ne_of_lt (by omega) | exact Nat.ne_of_gt (by omega)
 have I1:Inv X pins σ H { s with heap:=zt5 s.heap a b }:=I.kept (t':=s.toks) kp
 have S:ZS (zt5 s.heap a b) (s.heap.objs.size+4) (s.heap.objs.size+2) (s.heap.objs.size+3) s.heap.objs.size (s.heap.objs.size+1) a b 0 .none:=⟨g5,g3,⟨_,_,g4⟩,⟨_,g1,rfl,rfl⟩,⟨_,g2,rfl,rfl⟩⟩
 refine wpAny_pyIter_zip (s:={ s with heap:=zt5 s.heap a b }) S.zz ⟨_,[s.heap.objs.size+4,s.heap.objs.size+2,s.heap.objs.size+3,s.heap.objs.size,s.heap.objs.size+1],_,Itz X.K a b,H,rfl,I1,Qcm D,S,fun c hc=>?_,q⟩
 have hc':s.heap.objs.size<=c:=by
  simp only [List.mem_cons,List.not_mem_nil,or_false] at hc
  rcases hc with rfl | rfl | rfl | rfl | rfl<;>first | exact Nat.le_refl _ | exact Nat.le_add_right _ _
 exact I.fpOk hc' (I.hok.fresh hc')
theorem Qfj {x y:Expr} {ta:TA} {p pos:Pos} (hg:Gl X "zip") (hm:X.mg "zip" = none) (ha:PA X [x,y] ta) (hs:starEach [x,y] X.env=[(false,eval x X.env),(false,eval y X.env)]:=by rfl) (hs2:starEach [y] X.env=[(false,eval y X.env)]:=by rfl) :
    PI X (.Tuple elts kt p2) (.Call (.Name "zip" p) [x,y] [] pos) (Qd7 X.K ta):=by
  intro pins s σ H R I h
  refine Call_ (xY I hg hm boot_zip (PyProof.Rows.callWith_type1 (thn (ha pos pins s σ H _ I h) fun us s1 ⟨vs,H1,I1,r1,q1⟩=>?_) (by rw [hs,hs2]) (by rw [hs2];rfl)))
  obtain ⟨a,b,xs,ys,e,qa,qb,q⟩:=q1
  subst e
  cases r1 with
  | cons r rr =>
    cases rr with
    | cons r' rr =>
      cases rr
      cases r
      cases r'
      exact QfS I1 qa qb q
end
end L2
namespace D
open PySem PySem.Spec PyProof.Rows L2
def zI:List DV->List DV->List DV
 | x::xs,y::ys=>.tup [x,y]::zI xs ys
 | _,_=>[]
theorem vf:∀ {xs ys:List DV} {i:Nat} {d:DV},(zI xs ys)[i]?=some d->∃ x y,xs[i]?=some x/\ys[i]?=some y/\d=.tup [x,y]
  | x::xs,y::ys,0,d,h=>by simp [zI] at h;exact ⟨x,y,rfl,rfl,h.symm⟩
  | x::xs,y::ys,i+1,d,h=>by
    obtain ⟨a,b,h1,h2,h3⟩:=vf (xs:=xs) (ys:=ys) (i:=i) (by simpa [zI] using h)
    exact ⟨a,b,by simpa using h1,by simpa using h2,h3⟩
  | [],_,_,_,h=>by simp [zI] at h
  | _::_,[],_,_,h=>by simp [zI] at h
theorem vg:∀ (xs ys:List DV),(zI xs ys).length=min xs.length ys.length
 | x::xs,y::ys=>by simp only [zI,List.length_cons,vg xs ys];omega
 | [],_=>by simp [zI]
 | _::_,[]=>by simp [zI]
def Kx (f g:DEx):DIx:=fun env=>do
 let x <- f env
 let xs <- Uq x
 let y <- g env
 let ys <- Uq y
 pure (zI xs ys)
theorem Qbc {K:PySem.W.Frag} {ρ:List Addr} {B:Addr->Prop} {H:Hp} {ds es:List DV} {a b:Addr} {xs ys:List V} (na:¬ B a) (qa:SqT K H a xs) (ra:RepL K ρ B H ds xs) (nb:¬ B b) (qb:SqT K H b ys) (rb:RepL K ρ B H es ys):gS K ρ B H (zI ds es) (Itz K a b):=fun ρ1 B1 H1 g r1 t1=>by
 have qa1:=g.sqT na qa
 have qb1:=g.sqT nb qb
 have ra1:=RepL.gs g _ _ ra
 have rb1:=RepL.gs g _ _ rb
 refine ⟨fun i d e=>?_,xs,ys,qa1,qb1,?_⟩
 ·obtain ⟨x,y,h1,h2,rfl⟩:=vf e
  obtain ⟨u,hu,ru⟩:=ra1.get h1
  obtain ⟨v,hv,rv⟩:=rb1.get h2
  refine ⟨⟨xs,ys,u,v,qa1,qb1,hu,hv⟩,fun z H' ⟨p,u',v',hn,h3,h4,e1,e2⟩=>?_⟩
  subst e1 e2
  have e3:=h3 xs qa1
  have e4:=h4 ys qb1
  rw [hu] at e3;cases e3
  rw [hv] at e4;cases e4
  refine ⟨zT (fun z=>t1 p z hn) (SqT.of Zj) (RepL.gs (uh r1 hn) _ _ (RepL.cons ru (RepL.one rv))),.inr ⟨p,_,hn,rfl⟩⟩
 ·rw [vg,ra1.length,rb1.length]
  rcases Nat.le_total xs.length ys.length with q | q
  ·exact .inl (by rw [Nat.min_eq_left q];exact Nat.le_refl _)
  ·exact .inr (by rw [Nat.min_eq_right q];exact Nat.le_refl _)
section
variable {X:Cx} {elts:List Expr} {kt:Nat} {p2:Pos} {f g:DEx}
theorem Qew {x y:Expr} {p pos:Pos} (hg:Gl X "zip") (hm:X.mg "zip" = none) (hx:DE X x f) (hy:DE X y g) (hs:starEach [x,y] X.env=[(false,eval x X.env),(false,eval y X.env)]:=by rfl) (hs2:starEach [y] X.env=[(false,eval y X.env)]:=by rfl) :
  DI X (.Tuple elts kt p2) (.Call (.Name "zip" p) [x,y] [] pos) (Kx f g) :=
 L2.PI.imp (Qfj hg hm (X9 hx (X9 hy pa_nil (by rw [hs2];rfl)) (by rw [hs,hs2])) hs hs2) fun σ H R ⟨Z,env,ρ,B,hp,ds,hp',S,e,k⟩=>by
  obtain ⟨d1,hp1,e1,e⟩:=Qf e
  obtain ⟨xs,hp2,e2,e⟩:=Qf e
  obtain ⟨rfl,rfl⟩:=Yg e2
  obtain ⟨d2,hp3,e3,e⟩:=Qf e
  obtain ⟨ys,hp4,e4,e⟩:=Qf e
  obtain ⟨rfl,rfl⟩:=Yg e4
  obtain ⟨rfl,rfl⟩:=Qj e
  refine tD.run S e1 fun v ρ1 B1 H1 g1 S1 r1=>tD.run S1 e3 fun u ρ2 B2 H2 g2 S2 r2=>?_
  obtain ⟨a,vs,rfl,na,qa,la⟩:=(RepV.grow S1.wo.rb g2 _ _ r1).tupI
  obtain ⟨b,us,rfl,nb,qb,lb⟩:=r2.tupI
  exact ⟨a,b,vs,us,rfl,qa,qb,k _ ρ2 B2 H2 (g1.trans g2) S2.wo (Qbc na qa la nb qb lb)⟩
def gT (ix:List Nat):DGx:=fun d env=>do
 let ds <- Uq d
 Qw (decide (ds.length=ix.length))
 pure ((ix.zip ds).foldl (fun en q=>en.set q.1 (.val q.2)) env)
def Kf (X:Cx):List Nat->List Expr->Prop
 | [],[]=>True
 | i::is,.Name x _::es=>X.N[i]?=some x/\Loc X.env.scope x/\(X.fn x=true∨X.env.scope.names.lookup x=some .local)/\Kf X is es
 | _,_=>False
theorem UQ (hN:X.N.Nodup):∀ (ix:List Nat) (es:List Expr),Kf X ix es->(∀ es' x p,(assignEach (.Name x p::es') X.env).map (·.2)=assign (.Name x p) X.env::(assignEach es' X.env).map (·.2)) ->
    PGs X es (fun vs σ H Q=>vs.length=ix.length/\Q ((ix.zip vs).foldl (fun s q=>s.set q.1 (some q.2)) σ) H)
  | [],[],_,_=>by
    intro pins s σ H vs us Q I r h
    obtain ⟨h1,h2⟩:=h
    have:vs=[]:=by cases vs with | nil=>rfl | cons _ _=>simp at h1
    subst this
    exact Qdf pins s σ H [] us Q I r ⟨rfl,by simpa using h2⟩
  | i::is,.Name x p::es,⟨h1,h2,h3,h4⟩,ha=>by
    intro pins s σ H vs us Q I r h
    obtain ⟨h5,h6⟩:=h
    cases vs with
    | nil=>simp at h5
    | cons v vs =>
      exact QbN (KH hN h1 h2 h3) (UQ hN is es h4 ha) (ha _ _ _) pins s σ H (v::vs) us Q I r ⟨v,vs,rfl,by simpa using h5,by simpa using h6⟩
theorem uN {K:PySem.W.Frag} {Z:Ent} {ρ:List Addr} {B:Addr->Prop} {hp:Hs} {H:Hp}:∀ (ix:List Nat) (ds:List DV) (vs:List V) {env:En} {σ:L2.St},RepL K ρ B H ds vs->SOk K Z env σ ρ B hp H ->
    SOk K Z ((ix.zip ds).foldl (fun en q=>en.set q.1 (.val q.2)) env) ((ix.zip vs).foldl (fun s q=>s.set q.1 (some q.2)) σ) ρ B hp H
  | [],_,_,_,_,_,S=>by simpa using S
  | i::is,[],_,_,_,r,S=>by unfold RepL at r;subst r;simpa using S
  | i::is,d::ds,_,_,_,r,S=>by
    unfold RepL at r
    obtain ⟨v,vs,rfl,r1,r2⟩:=r
    simpa using uN is ds vs r2 (S.set (i:=i) r1)
theorem Qev (ix:List Nat) (hN:X.N.Nodup) (hn:Kf X ix elts) (hc:X.calm=true) (ha:∀ es' x p,(assignEach (.Name x p::es') X.env).map (·.2)=assign (.Name x p) X.env::(assignEach es' X.env).map (·.2))
  (hl:(assignEach elts X.env).length=ix.length:=by rfl) (hst:(assignEach elts X.env).findIdx? (·.1)=none:=by rfl):PG X (.Tuple elts kt p2) (tDG X.K (gT ix)):=by
 intro pins s σ H v u Q I r h
 refine Qfh hc (UQ hN ix elts hn ha) hl hst pins s σ H v u Q I r ?_
 obtain ⟨Z,env,ρ,B,hp,d,env',hp',S,rd,e,k⟩:=h
 obtain ⟨ds,hp1,e1,e⟩:=Qf e
 obtain ⟨rfl,rfl⟩:=Yg e1
 obtain ⟨_,hp2,e2,e⟩:=Qf e
 obtain ⟨hs,rfl⟩:=QH e2
 obtain ⟨rfl,rfl⟩:=Qj e
 obtain ⟨a,xs,rfl,na,qa,la⟩:=rd.tupI
 have hl':xs.length=ix.length:=by rw [<- la.length];exact of_decide_eq_true hs
 exact ⟨a,xs,rfl,qa,hl',hl',k _ ρ B H Gs.refl (uN ix ds xs la S)⟩
def Xp (f:DEx) (g:DGx):DSx:=fun env=>do let d <- f env;let env' <- g d env;pure (.nx,env')
theorem js {tg e:Expr} {g:DGx} {pos:Pos} (he:DE X e f) (hg:PG X tg (tDG X.K g)) (hs:swapsWithSole [tg] e pos.line X.env=pure false:=by rfl) (hw:swappedStores [tg] e X.env=pure none:=by rfl)
  (h1:(assignEach [tg] X.env).map (·.2)=[assign tg X.env]:=by rfl):DS X (.Assign [tg] e pos) (Xp f g) :=
 L2.PS.imp (Qfm he hg hs hw h1) fun D σ H ⟨Z,env,ρ,B,hp,fl,env',hp',S,e,k⟩=>by
  obtain ⟨d,hp1,e1,e⟩:=Qf e
  obtain ⟨env1,hp2,e2,e⟩:=Qf e
  obtain ⟨z,rfl⟩:=Qj e;cases z
  exact tD.run S e1 fun v ρ1 B1 H1 g1 S1 r1=>⟨Z,env,ρ1,B1,hp1,d,env',hp2,S1,r1,e2,fun σ' ρ' B' H' g' S'=>k σ' ρ' B' H' ((g1.gs S.wo.rb).trans g') S'⟩
end
end D
namespace D
open PySem PySem.Spec PyProof.Rows L2
theorem vU {lo:Int} {n i:Nat} {d:DV} (h:(Zx lo n)[i]?=some d):i < n/\d=.int (lo+i):=by
 have hi:i < n:=by have:=(List.getElem?_eq_some_iff.mp h).1;simpa [Zx] using this
 refine ⟨hi,?_⟩
 simp [Zx,hi] at h
 exact h.symm
theorem Jc (lo:Int) (n:Nat):(Zx lo n).length=n:=by simp [Zx]
theorem yV (i:Int):okP (.int i)=true:=by rfl
theorem QbA (b:Bool):okP (.bl b)=true:=by cases b<;>rfl
theorem uL (i j:Int):PyData.eqv (.int i) (.int j)=(i==j):=rfl
theorem ZQ (i j:Int):eqD (.int i) (.int j)=pure (.bl (i==j)):=by
 simp only [eqD,yV,Bool.and_self,Qw,if_true,pure_bind,toP,uL]
theorem JX (i j:Int):neD (.int i) (.int j)=pure (.bl (!(i==j))):=by
 simp only [neD,yV,Bool.and_self,Qw,if_true,pure_bind,toP,uL]
theorem Qel {α:Type} {xs:List α} {i:Int} (h0:0<=i) (h1:i < xs.length):atI xs i=xs[i.toNat]?:=by
 unfold atI ixN
 rw [if_pos h0,if_pos h1];rfl
theorem Kj (ns:List Int) {i:Int} (h0:0<=i) (h1:i < ns.length):atI (ns.map DV.int) i=some (.int (ns.getD i.toNat 0)):=by
 have hl:i.toNat < ns.length:=by omega
 rw [Qel h0 (by simpa using h1),List.getElem?_map,List.getElem?_eq_getElem hl]
 simp [List.getD_eq_getElem?_getD,hl]
def opt:Option Int->DV
 | none=>.non
 | some i=>.int i
end D
namespace D
open PySem PySem.Spec PyProof.Rows L2
theorem Jp (x y:Int) (h:0 < y):XM (.int x) (.int y)=pure (.int (x % y)):=by simp [XM,qA,Qf1,h]
theorem Xg (x y:Int) (h:0 < y) (h':y < 1073741824):qx (.int x) (.int y)=pure (.int (x / y)):=by simp [qx,qA,QfZ,h,h']
theorem Qbt (x y:Int) (h:-(2 ^ 64) < x) (h':x < 2 ^ 64):kZ (.int x) (.int y)=pure (.int (x * y)):=by
 simp only [kZ,qA,Qf2,decide_eq_true (Or.inl (b:=(-(2 ^ 64) < y/\y < 2 ^ 64)) (And.intro h h')),if_true]
theorem Z7 (x y:Int):Ja (.int x) (.int y)=pure (.int (x+y)):=rfl
theorem Ju (x y:Int):xC (.int x) (.int y)=pure (.int (x - y)):=rfl
theorem Ji (x y:Int):gtD (.int x) (.int y)=pure (.bl (decide (y < x))):=rfl
theorem Jk (x y:Int):ltD (.int x) (.int y)=pure (.bl (decide (x < y))):=rfl
theorem JB (x y:Int):leD (.int x) (.int y)=pure (.bl (decide (x<=y))):=rfl
theorem Jz (x y:Int):geD (.int x) (.int y)=pure (.bl (decide (y<=x))):=rfl
theorem Jq (x:Int):Qgn (.int x)=pure (.int (-x)):=rfl
theorem YG:YT (.int 10) (.int 30)=pure (.int 1000000000000000000000000000000):=rfl
theorem Y8:YT (.int 10) (.int 21)=pure (.int 1000000000000000000000):=rfl
theorem x8:YT (.int 10) (.int 9)=pure (.int 1000000000):=rfl
theorem Qcf {m:Int} (h0:0<=m) (h1:m<=1000000):VU m=true:=decide_eq_true ⟨by omega,by omega⟩
end D
namespace D
open PySem PySem.Spec PyProof.Rows L2
theorem Yf {ds:List DV} (h:ds.length<=100000):qR ds=true:=decide_eq_true h
theorem ZT {f g:DSx} {env env1:En} (h:f env=pure (.nx,env1)):Qr f g env=g env1:=by simp only [Qr,h,pure_bind]
theorem QdF {f g:DSx} {env env1:En} {d:DV} (h:f env=pure (.rt d,env1)):Qr f g env=pure (.rt d,env1):=by simp only [Qr,h,pure_bind]
theorem Z2 {i:Nat} {f:DEx} {env:En} {d:DV} (h:f env=pure d):QC i f env=pure (.nx,env.set i (.val d)):=by simp only [QC,h,pure_bind]
theorem QgH {c:DTx} {f g:DSx} {env:En} (h:c env=pure true):sIf c f g env=f env:=by simp only [sIf,h,pure_bind,if_true]
theorem QgG {c:DTx} {f g:DSx} {env:En} (h:c env=pure false):sIf c f g env=g env:=by simp only [sIf,h,pure_bind,Bool.false_eq_true,if_false]
theorem Ya {f:DEx} {env:En} {d:DV} (h:f env=pure d):QE f env=pure (.rt d,env):=by simp only [QE,h,pure_bind]
theorem YH {n:Nat} {body:DSx} {ds:List DV} {d:DV} {env:En} (h:body (ds.map .val++List.replicate (n - ds.length) .un)=pure (.rt d,env)):Q5 n body ds=pure d:=by simp only [Q5,h,pure_bind]
theorem Qf9 {f:DEx} {env:En} {b:Bool} (h:f env=pure (.bl b)):eB f env=pure b:=by simp only [eB,h,pure_bind,asB]
theorem zP {g:DV->DV->M DV} {f f':DEx} {env:En} {x y d:DV} (h:f env=pure x) (h':f' env=pure y) (hg:g x y=pure d):Ql g f f' env=pure d:=by simp only [Ql,h,h',pure_bind,hg]
theorem xS {F:List DV->M DV} {f f':DEx} {env:En} {x y d:DV} (h:f env=pure x) (h':f' env=pure y) (hF:F [x,y]=pure d):QG 2 F (Qc f (Qc f' Qm)) env=pure d:=by simp [QG,Qc,Qm,h,h',Qw,hF]
theorem QaU {F:List DV->M DV} {f f' f'':DEx} {env:En} {x y z d:DV} (h:f env=pure x) (h':f' env=pure y) (h'':f'' env=pure z) (hF:F [x,y,z]=pure d):QG 3 F (Qc f (Qc f' (Qc f'' Qm))) env=pure d:=by simp [QG,Qc,Qm,h,h',h'',Qw,hF]
end D
namespace D
open PySem PySem.Spec PyProof.Rows L2
section
variable {K:PySem.W.Frag} {ρ:List Addr} {B:Addr->Prop} {hp:Hs} {H:Hp}
theorem Gr.wnew {p:Addr} {o:HO} (h:H p=none) (kf:K.lookup p=none):Gr K ρ B H (ρ++[p]) (yN B p) (upd H p o) where
 pre:=List.prefix_append _ _
 ban:=fun _ h=>.inl h
 new:=fun a z=>z.elim .inl fun e=>.inr (e▸⟨h,kf⟩)
 rnew:=fun a z=>(List.mem_append.mp z).elim .inl fun q=>.inr (by rw [List.mem_singleton.mp q];exact h)
 keep:=fun a u _ q=>by rw [Q0 (ZC q h)];exact q
 trk:=(Gr.laid (K:=K) (ρ:=ρ) (B:=B) h).trk
theorem WOk.wnew {p:Addr} {o:HO} {v:OV} (W:WOk K ρ B hp H) (h:H p=none) (kf:K.lookup p=none) (hv:ORep K (ρ++[p]) (yN B p) (upd H p o) p v):WOk K (ρ++[p]) (yN B p) (hp++[v]) (upd H p o) where
 len:=by simp [W.len]
 nd:=List.nodup_append.mpr ⟨W.nd,by simp,fun a ha b hb=>by rw [List.mem_singleton.mp hb];exact fun z=>W.bt a (W.rb a ha) (z▸h)⟩
 obj:=fun i a u e q=>by
  by_cases hi:i < ρ.length
  ·rw [List.getElem?_append_left hi] at e
   rw [List.getElem?_append_left (by rw [<- W.len];exact hi)] at q
   exact ORep.gs ((Gr.wnew h kf).gs W.rb) (Q0 (fun z=>W.bt a (W.rb a (List.mem_of_getElem? e)) (z▸h))) (W.obj i a u e q)
  ·rw [List.getElem?_append_right (by omega)] at e
   rw [List.getElem?_append_right (by rw [<- W.len];omega)] at q
   have hi0:i - ρ.length=0:=by
    have:=(List.getElem?_eq_some_iff.mp e).1
    simp at this;omega
   rw [hi0] at e
   rw [<- W.len,hi0] at q
   simp at e q
   subst e q
   exact hv
 rb:=fun a z=>(List.mem_append.mp z).elim (fun q=>.inl (W.rb a q)) fun q=>.inr (List.mem_singleton.mp q)
 bt:=fun a z q=>by
  have q':=(Gr.laid (K:=K) (ρ:=ρ) (B:=B) h).trk a q
  rcases z with z | rfl
  ·exact W.bt a z q'
  ·rw [Zj] at q;cases q
 bk:=fun a z=>z.elim (W.bk a) fun e=>e▸kf
theorem Gr.wset {i:Nat} {a:Addr} {o o':HO} (ha:ρ[i]?=some a) (h:H a=some o):Gr K ρ B H ρ B (upd H a o') where
 pre:=List.prefix_rfl
 ban:=fun _ h=>h
 new:=fun _ h=>.inl h
 rnew:=fun _ h=>.inl h
 keep:=fun b u nb q=>by rw [Q0 (show b≠a from fun z=>nb (by rw [z];exact List.mem_of_getElem? ha))];exact q
 trk:=fun b q=>by
  by_cases e:b=a
  ·subst e;rw [Zj] at q;cases q
  ·rw [Q0 e] at q;exact q
theorem WOk.wset {i:Nat} {a:Addr} {o o':HO} {v:OV} (W:WOk K ρ B hp H) (ha:ρ[i]?=some a) (h:H a=some o) (hv:ORep K ρ B (upd H a o') a v):WOk K ρ B (hp.set i v) (upd H a o') where
 len:=by simp [W.len]
 nd:=W.nd
 obj:=fun j b u e q=>by
  by_cases hj:j=i
  ·subst hj
   rw [ha] at e;cases e
   have hl:j < hp.length:=by rw [<- W.len];exact (List.getElem?_eq_some_iff.mp ha).1
   rw [List.getElem?_set_self hl] at q;cases q
   exact hv
  ·rw [List.getElem?_set_ne (Ne.symm hj)] at q
   have hb:b≠a:=fun z=>hj (by
    subst z
    exact (List.getElem?_inj (List.getElem?_eq_some_iff.mp e).1 W.nd).mp (e.trans ha.symm))
   exact ORep.gs ((Gr.wset ha h).gs W.rb) (Q0 hb) (W.obj j b u e q)
 rb:=W.rb
 bt:=fun b z q=>W.bt b z ((Gr.wset (K:=K) (B:=B) ha h).trk b q)
 bk:=W.bk
end
section
variable {X:Cx} {e a b c:Expr} {f fa fb fc:DEx} {pos:Pos}
def XS (o:OV):M DV:=fun h=>some (.ref h.length,h++[o])
def Z3 (i:Nat):M OV:=fun h=>match h[i]? with
 | some o=>some (o,h)
 | none=>none
def xu (i:Nat) (o:OV):M Unit:=fun h=>some ((),h.set i o)
theorem ZZ {i:Nat} {o:OV} {hp hp':Hs} (h:Z3 i hp=some (o,hp')):hp[i]?=some o/\hp=hp':=by
 unfold Z3 at h
 cases q:hp[i]? with
 | none=>rw [q] at h;cases h
 | some z=>rw [q] at h;cases h;exact ⟨rfl,rfl⟩
def J0 (f:DAx):DEx:=fun env=>do let ds <- f env;Qw (qR ds);XS (.lst ds)
theorem uM {K:PySem.W.Frag} {ρ:List Addr} {B:Addr->Prop} {H:Hp} {hp:Hs} {ds:List DV} {xs:List V} {Q:VK} (W:WOk K ρ B hp H) (r:RepL K ρ B H ds xs) (k:Fol K ρ B H (.ref hp.length) (hp++[.lst ds]) Q):∀ p,H p=none->ur K (upd H p (.lst xs))->Q (.ref p) (upd H p (.lst xs)):=fun p hp' kf=>by
 have kp:=kf p _ Zj
 have g:Gr K ρ B H (ρ++[p]) (yN B p) (upd H p (.lst xs)):=Gr.wnew hp' kp
 refine k _ _ _ _ g (W.wnew hp' kp ⟨xs,Zj,RepL.grow W.rb g _ _ r⟩) ?_
 unfold RepV
 exact ⟨p,rfl,by rw [<- W.len];simp⟩
theorem zK {es:List Expr} {f:DAx} (h:DA X es f):DE X (.List es pos) (J0 f) :=
 L2.PE.imp (QbH h).kf fun σ H Q ⟨Z,env,ρ,B,hp,d,hp',S,e,k⟩=>by
  obtain ⟨xs,hp1,e1,e2⟩:=Qf e
  obtain ⟨_,hp2,e3,e4⟩:=Qf e2
  obtain ⟨hs,rfl⟩:=QH e3
  cases e4
  exact tDA.run S e1 fun vs ρ1 B1 H1 g1 S1 r1=>⟨by rw [<- r1.length];exact zE hs,uM S1.wo r1 (k.after g1)⟩
theorem RepV.refW {K:PySem.W.Frag} {ρ:List Addr} {B:Addr->Prop} {H:Hp} {hp:Hs} {i:Nat} {o:OV} {v:V} (W:WOk K ρ B hp H) (r:RepV K ρ B H (.ref i) v) (h:hp[i]?=some o):∃ a,v=.ref a/\ρ[i]?=some a/\ORep K ρ B H a o:=by
 obtain ⟨a,rfl,e⟩:=r.refI
 exact ⟨a,rfl,e,W.obj i a o e h⟩
def ixW:DV->DV->M DV
  | .ref n,.int i=>do
    match <- Z3 n with
    | .lst ds=>match atI ds i with
      | some d=>pure d
      | none=>failure
    | _=>failure
  | x,y=>ixD x y
def Qaq:List DV->M DV
  | [.ref n]=>do
    match <- Z3 n with
    | .lst ds=>pure (.tup ds)
    | _=>failure
  | xs=>QfH xs
theorem K9:Xs X (.type "tuple") (tPn X.K Qaq):=by
  intro pins s σ H xs us Q I r h
  obtain ⟨ρ,B,hp,ds,d,hp',W,rl,e,k⟩:=h
  unfold Qaq at e
  split at e
  . rename_i n
    obtain ⟨o,hp1,e1,e2⟩:=Qf e
    obtain ⟨e3,rfl⟩:=ZZ e1
    cases o with
    | dic _=>cases e2
    | ins _ _=>cases e2
    | lst zs =>
      obtain ⟨rfl,rfl⟩:=Qj e2
      obtain ⟨v,rfl,rv⟩:=rl.oneI
      obtain ⟨a,rfl,_,ys,h1,l1⟩:=RepV.refW W rv e3
      exact YQ pins s σ H _ us Q I r ⟨a,ys,rfl,.inl ⟨SqL.of h1,jW W l1 k⟩⟩
  . exact QcC pins s σ H xs us Q I r ⟨ρ,B,hp,_,d,hp',W,rl,e,k⟩
end
end D
namespace D
open PySem PySem.Spec PyProof.Rows L2
theorem Qa7 {P:Program} {w:World} {K:PySem.W.Frag} {mg:Str->Option Value} {base:Heap} {x:Str} {stm:Stmt} {g:Addr} {fd:FuncData} {ps:List Str} {k:Nat} (F:Fun K x x stm g fd) (hm:mg x=some (.ref g))
  (hb:∀ (kV doc pm:Value) (an:Option Addr) (cdv ct:Value) (us:List Value),us.length=ps.length->bindArgs (PySem.W.fnOf x x (JI stm) (ZH stm) (Qo stm) .none kV doc pm an cdv ct) ⟨us,[]⟩=pure (ps.zip us)) :
  Has P w K mg base x k ps.length (fun _=>failure):=by
 have no:∀ vs H Q E,¬ spD K ps.length (fun _=>failure) vs H Q E:=fun vs H Q E h=>by
  obtain ⟨_,ρ,B,hp,ds,d,hp',_,_,e,_⟩:=h
  cases e
 exact ⟨g,fd,ps,⟨fun vs H Q E h=>absurd h (no vs H Q E),fun A outer s H args us vs Q E _ _ _ _ h=>absurd h (no vs H Q E)⟩,F.binds hb,F.kp,hm⟩
end D
namespace D
open PySem PySem.Spec PyProof.Rows L2
section
variable {f g:DSx} {env env1 env2:En} {c ca cb:DTx} {e fa fb:DEx} {d x y:DV} {r:Fl×En}
end
theorem Qg {α β:Type} {m:M α} {k:α->M β} {x:α} {hp hp1:Hs} (h:m hp=some (x,hp1)):(m >>= k) hp=k x hp1:=by
 show (m hp).bind (fun p=>k p.1 p.2)=_
 rw [h];rfl
theorem Qi {f g:DSx} {env env1:En} {hp hp1:Hs} (h:f env hp=some ((.nx,env1),hp1)):Qr f g env hp=g env1 hp1:=Qg h
theorem QR {i:Nat} {f:DEx} {env:En} {d:DV} {hp hp1:Hs} (h:f env hp=some (d,hp1)):QC i f env hp=some ((.nx,env.set i (.val d)),hp1):=Qg h
theorem QcV {ds:List DV} {i:Int} {d:DV} (h:atI ds i=some d):ixD (.tup ds) (.int i)=pure d:=by simp only [ixD,h]
theorem QaJ (ds:List DV) (m:Nat):D.Ua ds none (some (m:Int))=ds.take m:=by
 unfold D.Ua
 rw [HT.sIx_nat]
 show (ds.drop 0).take (min m ds.length - 0)=ds.take m
 simp
theorem Ge (ds:List DV) (m:Nat):D.Ua ds (some (m:Int)) none=ds.drop m:=by
 unfold D.Ua
 rw [HT.sIx_nat]
 show (ds.drop (min m ds.length)).take (ds.length - min m ds.length)=ds.drop m
 rcases Nat.le_total m ds.length with h | h
 ·rw [Nat.min_eq_left h,List.take_of_length_le (by simp)]
 ·rw [Nat.min_eq_right h,List.drop_of_length_le h,List.drop_of_length_le (Nat.le_refl _)]
  simp
theorem VS (ds:List DV) (m:Nat):slD (.tup ds) none (some (m:Int))=pure (.tup (ds.take m)):=by rw [<- QaJ];rfl
theorem VR (ds:List DV) (m:Nat):slD (.tup ds) (some (m:Int)) none=pure (.tup (ds.drop m)):=by rw [<- Ge];rfl
theorem Gm {f g:DEx} {env:En} {ds:List DV} {m:Nat} (h:f env=pure (.tup ds)) (h':g env=pure (.int (m:Int))):eSl f ZJ (ZK g) env=pure (.tup (ds.take m)):=by
 simp only [eSl,ZJ,ZK,h,h',pure_bind,asI,VS]
theorem Gk {f g:DEx} {env:En} {ds:List DV} {m:Nat} (h:f env=pure (.tup ds)) (h':g env=pure (.int (m:Int))):eSl f (ZK g) ZJ env=pure (.tup (ds.drop m)):=by
 simp only [eSl,ZJ,ZK,h,h',pure_bind,asI,VR]
end D
namespace L2
open PySem PySem.Spec PyProof.Rows
section
variable {X:Cx}
def Qhe:R2:=fun x y H Q=>∃ a kvs k v,x=.ref a/\y=kV k/\H a=some (.dK kvs)/\qU kvs k=some v/\Q v H
theorem QcW (hu:X.A.units+1 < cLine):IxR X Qhe:=by
 intro value slice pins s σ H x y v u Q I rx ry h hs
 obtain ⟨a,kvs,k,z,rfl,rfl,hH,hv,q⟩:=h
 cases rx
 have g:DGet H a (kV k) (some z):=hv▸DGet.k hH
 exact tail_any (Gf I g) PySem.F.slot_dict_getitem.lookup (kD hu I g ry fun w' s' I' rw'=>⟨z,H,I',rw',q⟩) hs
def QgE:V->V->V->Hp->(Hp->Prop)->Prop:=fun o i v H Q=>∃ a kvs k,o=.ref a/\i=kV k/\H a=some (.dK kvs)/\kvs.length < sizeLine/\Q (upd H a (.dK (xg kvs k v)))
theorem Qb5 (hu:X.A.units+1 < cLine):Qaw X QgE:=fun pins s σ H o i v ov iv u Q I ro ri rv h=>by
 obtain ⟨a,kvs,k,rfl,rfl,hH,hl,q⟩:=h
 cases ro
 exact kE hu I (DPut.k hH hl) ri rv fun s' I'=>⟨_,I',q⟩
def QgD:V->List V->Hp->VK->Prop:=fun x vs H Q=>∃ a kvs k,x=.ref a/\H a=some (.dK kvs)/\((vs=[kV k]/\Q ((qU kvs k).getD .non) H)∨∃ z,vs=[kV k,z]/\Q ((qU kvs k).getD z) H)
theorem ga (hu:X.A.units+1 < cLine):MtR X "dict.get" QgD:=by
 intro pins s σ H x vs v us Q I rx rv h
 obtain ⟨a,kvs,k,rfl,hH,h⟩:=h
 cases rx
 rcases h with ⟨rfl,q⟩ | ⟨z,rfl,q⟩
 ·obtain ⟨u,rfl,ru⟩:=G9 rv
  exact Qer hu I (DGet.k hH) ru fun w' s' I' rw'=>⟨_,H,I',rw',q⟩
 ·obtain ⟨u,u2,rfl,ru,ru2⟩:=va rv
  exact Qes hu I (DGet.k hH) ru ru2 fun w' s' I' rw'=>⟨_,H,I',rw',q⟩
def Qgi (n:Nat) (i:Int):Nat:=if i < 0 then (i+(n:Int)).toNat else min i.toNat n
end
end L2
namespace D
open PySem PySem.Spec PyProof.Rows L2
def qS:DV->Option Key
 | .int i=>some (.inl i)
 | .str x=>some (.inr x)
 | _=>none
def zZ (kvs:List (Key×DV)) (k:Key):Option DV:=(kvs.find? fun kv=>decide (kv.1=k)).map (·.2)
def GL (kvs:List (Key×DV)) (k:Key) (d:DV):List (Key×DV) :=
 if (kvs.any fun kv=>decide (kv.1=k))=true then kvs.map (fun kv=>if kv.1=k then (kv.1,d) else kv) else kvs++[(k,d)]
def Qd3 (kvs:List (Key×DV)) (k:Key):List (Key×DV):=kvs.filter fun kv=>decide (kv.1≠k)
section
variable {K:PySem.W.Frag} {ρ:List Addr} {B:Addr->Prop} {H:Hp} {hp:Hs}
theorem jT {d:DV} {k:Key} {v:V} (h:qS d=some k) (r:RepV K ρ B H d v):v=kV k:=by
 cases d<;>simp [qS] at h<;>subst h
 ·exact r.intI
 ·exact r.strI
abbrev RepK (K:PySem.W.Frag) (ρ:List Addr) (B:Addr->Prop) (H:Hp):List (Key×DV)->List (Key×V)->Prop:=Paired fun p q=>p.1=q.1/\RepV K ρ B H p.2 q.2
theorem gx:∀ {kvs:List (Key×DV)} {xs:List (Key×V)},xs.map (·.1)=kvs.map (·.1)->RepL K ρ B H (kvs.map (·.2)) (xs.map (·.2))->RepK K ρ B H kvs xs
  | [],[],_,_=>.nil
  | [],_::_,e,_=>by simp at e
  | _::_,[],e,_=>by simp at e
  | p::kvs,q::xs,e,r=>by
    simp only [List.map_cons,List.cons.injEq] at e
    simp only [List.map_cons] at r
    unfold RepL at r
    obtain ⟨x,t,e2,h1,h2⟩:=r
    simp only [List.cons.injEq] at e2
    obtain ⟨rfl,rfl⟩:=e2
    exact .cons ⟨e.1.symm,h1⟩ (gx e.2 h2)
theorem RepK.to {kvs:List (Key×DV)} {xs:List (Key×V)} (r:RepK K ρ B H kvs xs):xs.map (·.1)=kvs.map (·.1)/\RepL K ρ B H (kvs.map (·.2)) (xs.map (·.2)):=by
 induction r with
 | nil=>exact ⟨rfl,RepL.nil⟩
 | cons h _ ih=>exact ⟨by simp [ih.1,h.1],by simpa using RepL.cons h.2 ih.2⟩
theorem RepK.val {kvs:List (Key×DV)} {xs:List (Key×V)} (r:RepK K ρ B H kvs xs) (k:Key):(zZ kvs k=none/\qU xs k=none)∨∃ d v,zZ kvs k=some d/\qU xs k=some v/\RepV K ρ B H d v:=by
  induction r with
  | nil=>exact .inl ⟨rfl,rfl⟩
  | @cons p q _ _ h _ ih =>
    by_cases e:p.1=k
    . exact .inr ⟨p.2,q.2,by simp [zZ,List.find?_cons,e],by simp [qU,List.find?_cons,h.1▸e],h.2⟩
    . have e':¬ q.1=k:=h.1▸e
      simpa [zZ,qU,List.find?_cons,e,e'] using ih
theorem RepK.any {kvs:List (Key×DV)} {xs:List (Key×V)} (r:RepK K ρ B H kvs xs) (k:Key):(kvs.any fun kv=>decide (kv.1=k))=xs.any fun kv=>decide (kv.1=k):=by
 induction r with
 | nil=>rfl
 | cons h _ ih=>simp only [List.any_cons,ih,h.1]
theorem RepK.repl {kvs:List (Key×DV)} {xs:List (Key×V)} (r:RepK K ρ B H kvs xs) (k:Key) {d:DV} {v:V} (rd:RepV K ρ B H d v):RepK K ρ B H (kvs.map fun kv=>if kv.1=k then (kv.1,d) else kv) (xs.map fun kv=>if kv.1=k then (kv.1,v) else kv):=by
  induction r with
  | nil=>exact .nil
  | @cons p q _ _ h _ ih =>
    refine .cons ?_ ih
    dsimp only
    by_cases e:p.1=k
    . rw [if_pos e,if_pos (h.1▸e)];exact ⟨h.1,rd⟩
    . rw [if_neg e,if_neg (h.1▸e)];exact h
theorem RepK.snoc {kvs:List (Key×DV)} {xs:List (Key×V)} (r:RepK K ρ B H kvs xs) {k:Key} {d:DV} {v:V} (rd:RepV K ρ B H d v):RepK K ρ B H (kvs++[(k,d)]) (xs++[(k,v)]):=by
 induction r with
 | nil=>exact .cons ⟨rfl,rd⟩ .nil
 | cons h _ ih=>exact .cons h ih
theorem RepK.put {kvs:List (Key×DV)} {xs:List (Key×V)} (r:RepK K ρ B H kvs xs) (k:Key) {d:DV} {v:V} (rd:RepV K ρ B H d v):RepK K ρ B H (GL kvs k d) (xg xs k v):=by
 unfold GL xg
 rw [r.any k]
 split
 ·exact r.repl k rd
 ·exact r.snoc rd
theorem RepK.len {kvs:List (Key×DV)} {xs:List (Key×V)} (r:RepK K ρ B H kvs xs):kvs.length=xs.length:=Paired.length r
theorem RepK.gs {ρ':List Addr} {B':Addr->Prop} {H':Hp} {kvs:List (Key×DV)} {xs:List (Key×V)} (g:Gs K ρ B H ρ' B' H') (r:RepK K ρ B H kvs xs):RepK K ρ' B' H' kvs xs:=L2.Paired.mapP r fun _ _ h=>⟨h.1,RepV.gs g _ _ h.2⟩
theorem ORep.dic {a:Addr} {kvs:List (Key×DV)} (h:ORep K ρ B H a (.dic kvs)):∃ xs,H a=some (.dK xs)/\RepK K ρ B H kvs xs:=by
 obtain ⟨xs,e,ek,rl⟩:=h
 exact ⟨xs,e,gx ek rl⟩
theorem RepK.orep {a:Addr} {kvs:List (Key×DV)} {xs:List (Key×V)} (r:RepK K ρ B H kvs xs) (e:H a=some (.dK xs)):ORep K ρ B H a (.dic kvs):=⟨xs,e,r.to.1,r.to.2⟩
theorem Qcs {n:Nat} {a:Addr} {xs xs':List (Key×V)} {kvs':List (Key×DV)} (W:WOk K ρ B hp H) (i:ρ[n]?=some a) (e:H a=some (.dK xs)) (r:RepK K ρ B H kvs' xs'):Gr K ρ B H ρ B (upd H a (.dK xs'))/\WOk K ρ B (hp.set n (.dic kvs')) (upd H a (.dK xs')):=by
 have g:Gr K ρ B H ρ B (upd H a (.dK xs')):=Gr.wset i e
 exact ⟨g,W.wset (o':=.dK xs') (v:=.dic kvs') i e ((r.gs (g.gs W.rb)).orep Zj)⟩
theorem V2 {n:Nat} {a:Addr} {o:HO} {xs':List V} {ds':List DV} (W:WOk K ρ B hp H) (i:ρ[n]?=some a) (e:H a=some o) (r:RepL K ρ B H ds' xs'):Gr K ρ B H ρ B (upd H a (.lst xs'))/\WOk K ρ B (hp.set n (.lst ds')) (upd H a (.lst xs')):=by
 have g:Gr K ρ B H ρ B (upd H a (.lst xs')):=Gr.wset i e
 exact ⟨g,W.wset (o':=.lst xs') (v:=.lst ds') i e ⟨xs',Zj,RepL.grow W.rb g _ _ r⟩⟩
end
section
variable {X:Cx} {e a b c:Expr} {f fa fb fc:DEx} {pos:Pos}
def qG (o:Option DV):M DV:=match o with
 | some d=>pure d
 | none=>failure
theorem zR {o:Option DV} {d:DV} {hp hp':Hs} (h:qG o hp=some (d,hp')):o=some d/\hp=hp':=by
 cases o with
 | none=>cases h
 | some z=>obtain ⟨rfl,rfl⟩:=Qj h;exact ⟨rfl,rfl⟩
def X8 (d:DV):M Key:=match qS d with
 | some k=>pure k
 | none=>failure
theorem zQ {d:DV} {k:Key} {hp hp':Hs} (h:X8 d hp=some (k,hp')):qS d=some k/\hp=hp':=by
 unfold X8 at h
 cases q:qS d with
 | none=>rw [q] at h;cases h
 | some z=>rw [q] at h;obtain ⟨rfl,rfl⟩:=Qj h;exact ⟨rfl,rfl⟩
def ixG:DV->DV->M DV
  | .ref n,y=>do
    match <- Z3 n with
    | .lst ds=>do let i <- asI y;qG (atI ds i)
    | .dic kvs=>do let k <- X8 y;qG (zZ kvs k)
    | _=>failure
  | x,y=>ixD x y
theorem Qgv (hu:X.A.units+1 < cLine):IxR X (tP2 X.K ixG):=by
  intro value slice pins s σ H x y v u Q I rx ry h hsub
  obtain ⟨ρ,B,hp,dx,dy,d,hp',W,r1,r2,e,k⟩:=h
  unfold ixG at e
  split at e
  . rename_i n
    obtain ⟨o,hp1,e1,e2⟩:=Qf e
    obtain ⟨e3,rfl⟩:=ZZ e1
    obtain ⟨a,rfl,i1,ro⟩:=RepV.refW W r1 e3
    cases o with
    | ins _ _=>cases e2
    | dic kvs =>
      obtain ⟨ky,hp2,e4,e5⟩:=Qf e2
      obtain ⟨hk,rfl⟩:=zQ e4
      obtain ⟨hv,rfl⟩:=zR e5
      obtain ⟨xs,h1,rk⟩:=ro.dic
      rcases rk.val ky with ⟨z,_⟩ | ⟨d',v',z,zv,rz⟩
      . rw [hv] at z;cases z
      . rw [hv] at z;cases z
        exact QcW hu value slice pins s σ H _ _ v u Q I rx ry ⟨a,xs,ky,v',rfl,jT hk r2,h1,zv,k _ ρ B H Gr.refl W rz⟩ hsub
    | lst ds =>
      obtain ⟨i,hp2,e4,e5⟩:=Qf e2
      obtain ⟨rfl,rfl⟩:=jI e4
      obtain ⟨hv,rfl⟩:=zR e5
      obtain ⟨xs,h1,l1⟩:=ro
      obtain ⟨z,hz,rz⟩:=yT l1 hv
      exact uW value slice pins s σ H _ _ v u Q I rx ry ⟨a,xs,i,z,rfl,r2.intI,SqL.of h1,hz,k _ ρ B H Gr.refl W rz⟩ hsub
  . exact Qgu value slice pins s σ H x y v u Q I rx ry ⟨ρ,B,hp,_,_,d,hp',W,r1,r2,e,k⟩ hsub
theorem QV (hu:X.A.units+1 < cLine) (ha:DE X a fa) (hb:DE X b fb) (hs:Kg b:=by intro _ _;rfl):DE X (.Subscript a b pos) (Ql ixG fa fb):=L2.PE.imp (Qec (Qgv hu) ha hb hs) fun _ _ _ h=>zd h
def Z5:List DV->M DV
  | [.ref n]=>do
    match <- Z3 n with
    | .lst ds=>pure (.int ds.length)
    | .dic kvs=>pure (.int kvs.length)
    | _=>failure
  | xs=>YS xs
theorem JF:Xs X (.builtin "len") (tPn X.K Z5):=by
  intro pins s σ H xs us Q I r h
  obtain ⟨ρ,B,hp,ds,d,hp',W,rl,e,k⟩:=h
  unfold Z5 at e
  split at e
  . rename_i n
    obtain ⟨o,hp1,e1,e2⟩:=Qf e
    obtain ⟨e3,rfl⟩:=ZZ e1
    obtain ⟨v,rfl,rv⟩:=rl.oneI
    obtain ⟨a,rfl,_,ro⟩:=RepV.refW W rv e3
    cases o with
    | ins _ _=>cases e2
    | lst zs =>
      obtain ⟨rfl,rfl⟩:=Qj e2
      obtain ⟨ys,h1,l1⟩:=ro
      exact qw pins s σ H _ us Q I r ⟨a,ys,rfl,.inl (SqL.of h1),by rw [<- l1.length];exact k _ ρ B H Gr.refl W JM⟩
    | dic kvs =>
      obtain ⟨rfl,rfl⟩:=Qj e2
      obtain ⟨ys,h1,l1⟩:=ro.dic
      exact kr pins s σ H _ us Q I r ⟨a,ys,rfl,h1,by rw [<- l1.len];exact k _ ρ B H Gr.refl W JM⟩
  . exact uA pins s σ H xs us Q I r ⟨ρ,B,hp,_,d,hp',W,rl,e,k⟩
def QeT (g:DV->M DV):List DV->M DV
 | [d]=>g d
 | _=>failure
theorem Qab {g:DV->M DV} {ds:List DV} {d:DV} {hp hp':Hs} (h:QeT g ds hp=some (d,hp')):∃ x,ds=[x]/\g x hp=some (d,hp'):=by
 unfold QeT at h
 split at h
 ·exact ⟨_,rfl,h⟩
 ·cases h
end
end D
namespace D
open PySem PySem.Spec PyProof.Rows L2
def drf:Nat->Hs->DV->Option DV
  | 0,_,_=>none
  | n+1,hp,d=>match d with
    | .ref i=>match hp[i]? with
      | some (.lst ds)=>(ds.mapM (drf n hp)).map .lst
      | _=>none
    | .tup ds=>(ds.mapM (drf n hp)).map .tup
    | .lst ds=>(ds.mapM (drf n hp)).map .lst
    | d=>some d
theorem Vo {α β:Type} {f:α->Option β} {x:α} {xs:List α} {ys:List β} (h:(x::xs).mapM f=some ys):∃ y zs,f x=some y/\xs.mapM f=some zs/\ys=y::zs:=by
  rw [List.mapM_cons] at h
  cases q:f x with
  | none=>rw [q] at h;cases h
  | some y =>
    cases q2:xs.mapM f with
    | none=>rw [q,q2] at h;cases h
    | some zs=>rw [q,q2] at h;exact ⟨y,zs,rfl,rfl,(Option.some.inj h).symm⟩
section
variable {X:Cx} {pins:List (Addr×Obj)} {σ:St} {H:Hp} {s:Shared} {ρ:List Addr} {B:Addr->Prop} {hp:Hs}
theorem Y9 (I:Inv X pins σ H s) (W:WOk X.K ρ B hp H):∀ (n:Nat) (d d':DV) (v:V) (u:Value),drf n hp d=some d'->RepV X.K ρ B H d v->RelV v u->∃ as,Reads s.heap u (toP d') as
  | 0,_,_,_,_,h,_,_=>by cases h
  | n+1,d,d',v,u,h,r,ru=>by
    have all:∀ (ds ds':List DV) (xs:List V) (us:List Value),ds.mapM (drf n hp)=some ds'->RepL X.K ρ B H ds xs->Vals xs us->∃ as,ReadsAll s.heap us (toPs ds') as:=by
      intro ds
      induction ds with
      | nil =>
        intro ds' xs us h r ru
        rw [List.mapM_nil] at h;cases h
        unfold RepL at r;subst r;cases ru
        exact ⟨[],by unfold toPs;exact .nil⟩
      | cons x ds ih =>
        intro ds' xs us h r ru
        obtain ⟨y,zs,h1,h2,rfl⟩:=Vo h
        unfold RepL at r
        obtain ⟨z,t,rfl,r1,r2⟩:=r
        cases ru with
        | cons q1 q2 =>
          obtain ⟨as,a1⟩:=Y9 I W n x y z _ h1 r1 q1
          obtain ⟨bs,a2⟩:=ih zs t _ h2 r2 q2
          exact ⟨_,by unfold toPs;exact .cons a1 a2⟩
    have lst:∀ (ds ds':List DV) (a:Addr) (xs:List V),ds.mapM (drf n hp)=some ds'->SqL X.K H a xs->RepL X.K ρ B H ds xs->∃ as,Reads s.heap (.ref a) (toP (.lst ds')) as:=by
      intro ds ds' a xs h sq rl
      obtain ⟨its,rv,⟨o,k,e,hc,_,hd⟩,_⟩:=I.list sq
      obtain ⟨as,q⟩:=all ds ds' xs its h rl rv
      exact ⟨_,by unfold toP;exact reads_list_at e hc hd (by simpa using q)⟩
    unfold drf at h
    cases d with
    | non=>cases h;obtain rfl:=r.nonI;cases ru;exact ⟨[],by unfold toP;exact .none⟩
    | bl b=>cases h;obtain rfl:=r.blI;cases ru;exact ⟨[],by unfold toP;exact .bool b⟩
    | int i=>cases h;obtain rfl:=r.intI;obtain ⟨t,rfl⟩:=ru;exact ⟨[],by unfold toP;exact .int i t⟩
    | str x=>cases h;obtain rfl:=r.strI;obtain ⟨t,rfl⟩:=ru;exact ⟨[],by unfold toP;exact .str x t⟩
    | tup ds =>
      obtain ⟨ds',h1,rfl⟩:=Option.map_eq_some_iff.mp h
      obtain ⟨a,xs,rfl,_,sq,rl⟩:=r.tupI
      cases ru
      obtain ⟨its,rv,⟨o,e,hc,k,hd⟩,_⟩:=I.tuple sq
      obtain ⟨as,q⟩:=all ds ds' xs its h1 rl rv
      exact ⟨_,by unfold toP;exact reads_tuple_at e hc hd (by simpa using q)⟩
    | lst ds =>
      obtain ⟨ds',h1,rfl⟩:=Option.map_eq_some_iff.mp h
      obtain ⟨a,xs,rfl,_,sq,rl⟩:=r.lstI
      cases ru
      exact lst ds ds' a xs h1 sq rl
    | ref i =>
      cases q:hp[i]? with
      | none=>simp only [q] at h;cases h
      | some o =>
        simp only [q] at h
        cases o with
        | dic _=>cases h
        | ins _ _=>cases h
        | lst ds =>
          obtain ⟨ds',h1,rfl⟩:=Option.map_eq_some_iff.mp h
          obtain ⟨a,rfl,_,xs,h2,l⟩:=RepV.refW W r q
          cases ru
          exact lst ds ds' a xs h1 (SqL.of h2) l
end
def kG (d:DV):M DV:=fun hp=>(drf 40 hp d).map fun x=>(x,hp)
theorem Uz {d d':DV} {hp hp':Hs} (h:kG d hp=some (d',hp')):drf 40 hp d=some d'/\hp=hp':=by
 obtain ⟨x,h1,h2⟩:=Option.map_eq_some_iff.mp h
 cases h2;exact ⟨h1,rfl⟩
def Ub (x y:DV):M Bool:=do
 let x' <- kG x
 let y' <- kG y
 Qw (SeqAt.shaped (toP x')&&SeqAt.shaped (toP y'))
 pure (PyData.eqv (toP x') (toP y'))
def eqG:DV->DV->M DV:=fun x y=>do let b <- Ub x y;pure (.bl b)
def neG:DV->DV->M DV:=fun x y=>do let b <- Ub x y;pure (.bl (!b))
section
variable {X:Cx} {e a b c:Expr} {f fa fb fc:DEx} {ca cb:DTx} {pos:Pos}
theorem UB {x y:DV} {k:Bool} {hp hp':Hs} (h:Ub x y hp=some (k,hp')):∃ x' y',drf 40 hp x=some x'/\drf 40 hp y=some y'/\SeqAt.shaped (toP x')=true/\SeqAt.shaped (toP y')=true/\k=PyData.eqv (toP x') (toP y')/\hp=hp':=by
 obtain ⟨x',hp1,e1,h⟩:=Qf h
 obtain ⟨y',hp2,e2,h⟩:=Qf h
 obtain ⟨_,hp3,e3,h⟩:=Qf h
 obtain ⟨q1,rfl⟩:=Uz e1
 obtain ⟨q2,rfl⟩:=Uz e2
 obtain ⟨hs,rfl⟩:=QH e3
 obtain ⟨rfl,rfl⟩:=Qj h
 rw [Bool.and_eq_true] at hs
 exact ⟨x',y',q1,q2,hs.1,hs.2,rfl,rfl⟩
theorem qN (hu:X.A.units+64 < cLine):P2 X (compareOp .Eq) eqG:=by
 intro pins s σ H x y v u Q I rx ry h
 obtain ⟨ρ,B,hp,dx,dy,d,hp',W,r1,r2,e,k⟩:=h
 obtain ⟨b,hp1,e1,e2⟩:=Qf e
 obtain ⟨rfl,rfl⟩:=Qj e2
 obtain ⟨x',y',q1,q2,s1,s2,rfl,rfl⟩:=UB e1
 obtain ⟨as,a1⟩:=Y9 I W _ _ _ _ _ q1 r1 rx
 obtain ⟨bs,a2⟩:=Y9 I W _ _ _ _ _ q2 r2 ry
 exact eq_dataH a1 a2 s1 s2 hu ⟨.bl _,H,I,rfl,k _ ρ B H Gr.refl W Jd⟩
theorem UP (hu:X.A.units+64 < cLine):P2 X (compareOp .NotEq) neG:=by
 intro pins s σ H x y v u Q I rx ry h
 obtain ⟨ρ,B,hp,dx,dy,d,hp',W,r1,r2,e,k⟩:=h
 obtain ⟨b,hp1,e1,e2⟩:=Qf e
 obtain ⟨rfl,rfl⟩:=Qj e2
 obtain ⟨x',y',q1,q2,s1,s2,rfl,rfl⟩:=UB e1
 obtain ⟨as,a1⟩:=Y9 I W _ _ _ _ _ q1 r1 rx
 obtain ⟨bs,a2⟩:=Y9 I W _ _ _ _ _ q2 r2 ry
 exact ne_dataH a1 a2 s1 s2 hu ⟨.bl _,H,I,rfl,k _ ρ B H Gr.refl W Jd⟩
def UD:DV->Bool
 | .non=>true
 | .bl _=>true
 | .int _=>true
 | .str _=>true
 | _=>false
def eqF:DV->DV->Bool
 | .non,.non=>true
 | .bl a,.bl b=>a==b
 | .bl a,.int b=>(if a then 1 else 0)==b
 | .int a,.bl b=>a==(if b then 1 else 0)
 | .int a,.int b=>a==b
 | .str a,.str b=>a==b
 | _,_=>false
def inB (d:DV) (ds:List DV):Bool:=ds.any fun y=>eqF y d
def Qhu (x:DV):DV->M Bool
  | .ref n=>do
    match <- Z3 n with
    | .lst ds=>do Qw (UD x&&ds.all UD);pure (inB x ds)
    | .dic kvs=>do let k <- X8 x;pure (zZ kvs k).isSome
    | _=>failure
  | .tup ds=>do Qw (UD x&&ds.all UD);pure (inB x ds)
  | .lst ds=>do Qw (UD x&&ds.all UD);pure (inB x ds)
  | _=>failure
def zt (o i d:DV):M Unit:=match o with
  | .ref n=>do
    match <- Z3 n with
    | .lst ds=>do
      let k <- asI i
      match ixN ds.length k with
      | some j=>xu n (.lst (ds.set j d))
      | none=>failure
    | .dic kvs=>do
      let k <- X8 i
      Qw (decide (kvs.length < lim))
      xu n (.dic (GL kvs k d))
    | _=>failure
  | _=>failure
def tP3 (K:PySem.W.Frag) (g:DV->DV->DV->M Unit):gW:=fun o i v H Q=>∃ ρ B hp dO di dv hp',WOk K ρ B hp H/\RepV K ρ B H dO o/\RepV K ρ B H di i/\RepV K ρ B H dv v/\g dO di dv hp=some ((),hp')/\∀ ρ' B' H',Gr K ρ B H ρ' B' H'->WOk K ρ' B' hp' H'->Q H'
theorem RepL.set {K:PySem.W.Frag} {ρ:List Addr} {B:Addr->Prop} {H:Hp} {d:DV} {x:V} (r:RepV K ρ B H d x):∀ {ds:List DV} {xs:List V} (i:Nat),RepL K ρ B H ds xs->RepL K ρ B H (ds.set i d) (xs.set i x)
  | [],_,i,h=>by unfold RepL at h;subst h;exact RepL.nil
  | _::ds,_,0,h=>by
    unfold RepL at h
    obtain ⟨y,t,rfl,_,h2⟩:=h
    exact RepL.cons r h2
  | _::ds,_,i+1,h=>by
    unfold RepL at h
    obtain ⟨y,t,rfl,h1,h2⟩:=h
    exact RepL.cons h1 (RepL.set r i h2)
theorem Qeb (hu:X.A.units+1 < cLine):Qaw X (tP3 X.K zt):=by
  intro pins s σ H o i v ov iv u Q I ro ri rv h
  obtain ⟨ρ,B,hp,dO,di,dv,hp',W,r1,r2,r3,e,k⟩:=h
  cases dO with
  | ref n =>
    obtain ⟨ob,hp1,e1,e2⟩:=Qf e
    obtain ⟨e3,rfl⟩:=ZZ e1
    obtain ⟨a,rfl,i1,rob⟩:=RepV.refW W r1 e3
    cases ob with
    | ins _ _=>cases e2
    | lst ds =>
      obtain ⟨j,hp2,e4,e5⟩:=Qf e2
      obtain ⟨rfl,rfl⟩:=jI e4
      obtain ⟨xs,h1,l1⟩:=rob
      cases q:ixN ds.length j with
      | none=>simp only [q] at e5;cases e5
      | some m =>
        simp only [q] at e5
        cases e5
        obtain ⟨g,W'⟩:=V2 W i1 h1 (RepL.set r3 m l1)
        exact Qb6 pins s σ H _ _ v ov iv u Q I ro ri rv ⟨a,xs,j,m,rfl,r2.intI,h1,by rw [<- l1.length];exact q,k ρ B _ g W'⟩
    | dic kvs =>
      obtain ⟨ky,hp2,e4,e5⟩:=Qf e2
      obtain ⟨hk,rfl⟩:=zQ e4
      obtain ⟨_,hp3,e6,e7⟩:=Qf e5
      obtain ⟨hl,rfl⟩:=QH e6
      cases e7
      obtain ⟨xs,h1,rk⟩:=rob.dic
      obtain ⟨g,W'⟩:=Qcs W i1 h1 (rk.put ky r3)
      exact Qb5 hu pins s σ H _ _ v ov iv u Q I ro ri rv ⟨a,xs,ky,rfl,jT hk r2,h1,by rw [<- rk.len];exact Nat.lt_of_lt_of_le (of_decide_eq_true hl) KG,k ρ B _ g W'⟩
  | non=>cases e
  | bl _=>cases e
  | int _=>cases e
  | str _=>cases e
  | tup _=>cases e
  | lst _=>cases e
def gSb (f g:DEx):DGx:=fun d env=>do
 let o <- f env
 let i <- g env
 zt o i d
 pure env
theorem jr {o i:Expr} {fo fi:DEx} (hu:X.A.units+1 < cLine) (ho:DE X o fo) (hi:DE X i fi)
  (ha:∀ v,assign (.Subscript o i pos) X.env v=(do
   let ov <- holding [v] (eval o X.env)
   let iv <- holding [v,ov] (eval i X.env)
   standAt pos
   holding [v,ov,iv] (setItem ov iv v)
   release [v,ov,iv] []):=by intro _;rfl):PG X (.Subscript o i pos) (tDG X.K (gSb fo fi)):=by
 intro pins s σ H v u Q I r h
 refine Qfg ho hi (Qeb hu) ha pins s σ H v u Q I r ?_
 obtain ⟨Z,env,ρ,B,hp,d,env',hp',S,rd,e,k⟩:=h
 obtain ⟨x,hp1,e1,e⟩:=Qf e
 obtain ⟨y,hp2,e2,e⟩:=Qf e
 obtain ⟨z,hp3,e3,e⟩:=Qf e
 obtain ⟨rfl,rfl⟩:=Qj e
 refine tD.run S e1 fun vx ρ1 B1 H1 g1 S1 r1=>tD.run S1 e2 fun vy ρ2 B2 H2 g2 S2 r2=>?_
 exact ⟨ρ2,B2,hp2,x,y,d,hp3,S2.wo,RepV.grow S1.wo.rb g2 _ _ r1,r2,RepV.grow S.wo.rb (g1.trans g2) _ _ rd,e3,fun ρ3 B3 H3 g3 W3=>k _ ρ3 B3 H3 ((g1.trans (g2.trans g3)).gs S.wo.rb) (S2.grow g3 W3)⟩
def Xv:String->DV->M Unit
  | "list", .lst _=>pure ()
  | "str", .str _=>pure ()
  | T,.ref n=>do
    match <- Z3 n with
    | .lst _=>Qw (T == "list")
    | .dic _=>Qw (T == "dict")
    | _=>failure
  | _,_=>failure
theorem Qbe {T:String} {d:DV} {hp hp':Hs} {K:PySem.W.Frag} {ρ:List Addr} {B:Addr->Prop} {H:Hp} {v:V} {u:Unit} (W:WOk K ρ B hp H) (r:RepV K ρ B H d v) (h:Xv T d hp=some (u,hp')):hp=hp'/\tyV K T v H:=by
  unfold Xv at h
  split at h
  . obtain ⟨_,rfl⟩:=Qj h
    obtain ⟨a,xs,rfl,_,sq,_⟩:=r.lstI
    exact ⟨rfl,.inl ⟨rfl,xs,sq⟩⟩
  . obtain ⟨_,rfl⟩:=Qj h
    obtain rfl:=r.strI
    exact ⟨rfl,rfl⟩
  . obtain ⟨o,hp1,e1,e2⟩:=Qf h
    obtain ⟨e3,rfl⟩:=ZZ e1
    obtain ⟨a,rfl,_,ro⟩:=RepV.refW W r e3
    cases o with
    | lst ds =>
      obtain ⟨hT,rfl⟩:=QH e2
      obtain ⟨xs,h1,_⟩:=ro
      exact ⟨rfl,.inl ⟨by simpa using hT,xs,SqL.of h1⟩⟩
    | dic kvs =>
      obtain ⟨hT,rfl⟩:=QH e2
      obtain ⟨xs,h1,_⟩:=ro
      exact ⟨rfl,.inr (.inr (.inl ⟨by simpa using hT,.inl ⟨xs,h1⟩⟩))⟩
    | ins _ _=>cases e2
  . cases h
def tPm (K:PySem.W.Frag) (m:DV->List DV->M DV):V->List V->Hp->VK->Prop:=fun x vs H Q=>∃ ρ B hp dx ds d hp',WOk K ρ B hp H/\RepV K ρ B H dx x/\RepL K ρ B H ds vs/\m dx ds hp=some (d,hp')/\Fol K ρ B H d hp' Q
def JZ (T:String) (m:DV->List DV->M DV) (f:DEx) (a:DAx):DEx:=fun env=>do
 let x <- f env
 Xv T x
 let ds <- a env
 m x ds
theorem jq {T id:String} {name:Str} {o:Expr} {es:List Expr} {fo:DEx} {fs:DAx} {m:DV->List DV->M DV} {apos cpos:Pos} (hm:MtR X id (tPm X.K m)) (pa:PlainAttrs T) (slot:Slot T name id) (hty:typeOf (.builtin id)=pure (.type "method_descriptor")) (ho:DE X o fo) (ha:DA X (e::es) fs)
  (hbase:attributeBase o name X.env (eval o X.env)=eval o X.env:=by rfl)
  (hfew:((backTo cpos (starEach (e::es) X.env)).all (fun x=>!x.1)&&(backToKw cpos (keywordEach [] X.env)).all (fun x=>x.1.isSome)
   && decide ((e::es).length+([]:List Keyword).length+(if ([]:List Keyword).isEmpty then 0 else 1) < 30))=true:=by rfl)
  (hline:(apos.endLine==cpos.line)=true:=by rfl) (hs:starEach (e::es) X.env=(false,eval e X.env)::starEach es X.env:=by rfl) (hplain:(backTo cpos (starEach es X.env)).any (·.1)=false:=by rfl) :
  DE X (.Call (.Attribute o name apos) (e::es) [] cpos) (JZ T m fo fs) :=
 L2.PE.imp (Qgx pa slot hty hm ho ha hbase hfew hline hs hplain) fun σ H Q ⟨Z,env,ρ,B,hp,d,hp',S,e,k⟩=>by
  obtain ⟨x,hp1,e1,ea⟩:=Qf e
  obtain ⟨_,hp2,e2,eb⟩:=Qf ea
  obtain ⟨ds,hp3,e3,ec⟩:=Qf eb
  refine tD.run S e1 fun v ρ1 B1 H1 g1 S1 r1=>?_
  obtain ⟨z,ty⟩:=Qbe S1.wo r1 e2
  rw [<- z] at e3
  exact ⟨ty,tDA.run S1 e3 fun vs ρ2 B2 H2 g2 S2 r2=>⟨ρ2,B2,hp3,x,ds,d,hp',S2.wo,RepV.grow S1.wo.rb g2 _ _ r1,r2,ec,k.after (g1.trans g2)⟩⟩
def onL (x:DV) (k:Nat->List DV->M DV):M DV:=match x with
  | .ref n=>do
    match <- Z3 n with
    | .lst ds=>k n ds
    | _=>failure
  | _=>failure
def onD (x:DV) (k:Nat->List (Key×DV)->M DV):M DV:=match x with
  | .ref n=>do
    match <- Z3 n with
    | .dic ds=>k n ds
    | _=>failure
  | _=>failure
theorem Vr {x d:DV} {k:Nat->List DV->M DV} {hp hp':Hs} (h:onL x k hp=some (d,hp')):∃ n ds,x=.ref n/\hp[n]?=some (.lst ds)/\k n ds hp=some (d,hp'):=by
  cases x with
  | ref n =>
    obtain ⟨o,hp1,e1,e2⟩:=Qf h
    obtain ⟨e3,rfl⟩:=ZZ e1
    cases o with
    | lst ds=>exact ⟨n,ds,rfl,e3,e2⟩
    | dic _=>cases e2
    | ins _ _=>cases e2
  | _=>cases h
theorem GG {x d:DV} {k:Nat->List (Key×DV)->M DV} {hp hp':Hs} (h:onD x k hp=some (d,hp')):∃ n ds,x=.ref n/\hp[n]?=some (.dic ds)/\k n ds hp=some (d,hp'):=by
  cases x with
  | ref n =>
    obtain ⟨o,hp1,e1,e2⟩:=Qf h
    obtain ⟨e3,rfl⟩:=ZZ e1
    cases o with
    | dic ds=>exact ⟨n,ds,rfl,e3,e2⟩
    | lst _=>cases e2
    | ins _ _=>cases e2
  | _=>cases h
def Zo (x:DV):List DV->M DV
 | [d]=>onL x fun n ds=>do Qw (decide (ds.length < lim));xu n (.lst (ds++[d]));pure .non
 | _=>failure
theorem zq:MtR X "list.append" (tPm X.K Zo):=by
 intro pins s σ H x vs v us Q I rx rv h
 obtain ⟨ρ,B,hp,dx,es,d,hp',W,r1,r2,e,k⟩:=h
 unfold Zo at e
 split at e
 ·rename_i y
  obtain ⟨n,ds,rfl,h0,e⟩:=Vr e
  obtain ⟨_,hp1,e1,e2⟩:=Qf e
  obtain ⟨hl,rfl⟩:=QH e1
  cases e2
  obtain ⟨a,rfl,i1,xs,h1,l1⟩:=RepV.refW W r1 h0
  obtain ⟨w,rfl,rw'⟩:=r2.oneI
  obtain ⟨g,W'⟩:=V2 W i1 h1 (RepL.append l1 (RepL.one rw'))
  exact UN pins s σ H _ _ v us Q I rx rv ⟨a,xs,w,rfl,rfl,h1,by rw [<- l1.length];exact Nat.lt_of_lt_of_le (of_decide_eq_true hl) KG,k _ ρ B _ g W' zS⟩
 ·cases e
def Xk (x:DV):List DV->M DV
 | [.int i,d]=>onL x fun n ds=>do Qw (decide (ds.length < lim)&&VU i);xu n (.lst (ds.take (Qgi ds.length i)++d::ds.drop (Qgi ds.length i)));pure .non
 | _=>failure
def zp (x:DV):List DV->M DV
  | [y]=>onD x fun n kvs=>do
    let k <- X8 y
    let d <- qG (zZ kvs k)
    xu n (.dic (Qd3 kvs k))
    pure d
  | [y,z]=>onD x fun n kvs=>do
    let k <- X8 y
    match zZ kvs k with
    | some d=>do xu n (.dic (Qd3 kvs k));pure d
    | none=>pure z
  | _=>failure
def XZ (x:DV):List DV->M DV
  | [y]=>onD x fun n kvs=>do
    let k <- X8 y
    pure ((zZ kvs k).getD .non)
  | [y,z]=>onD x fun n kvs=>do
    let k <- X8 y
    pure ((zZ kvs k).getD z)
  | _=>failure
theorem QeM (hu:X.A.units+1 < cLine):MtR X "dict.get" (tPm X.K XZ):=by
 intro pins s σ H x vs v us Q I rx rv h
 obtain ⟨ρ,B,hp,dx,es,d,hp',W,r1,r2,e,k⟩:=h
 unfold XZ at e
 split at e
 ·rename_i y
  obtain ⟨n,kvs,rfl,h0,e⟩:=GG e
  obtain ⟨ky,hp1,e1,e⟩:=Qf e
  obtain ⟨hk,rfl⟩:=zQ e1
  obtain ⟨rfl,rfl⟩:=Qj e
  obtain ⟨a,rfl,i1,ro⟩:=RepV.refW W r1 h0
  obtain ⟨xs,h1,rk⟩:=ro.dic
  obtain ⟨w,rfl,rw'⟩:=r2.oneI
  obtain rfl:=jT hk rw'
  refine ga hu pins s σ H _ _ v us Q I rx rv ⟨a,xs,ky,rfl,h1,.inl ⟨rfl,k _ ρ B H Gr.refl W ?_⟩⟩
  rcases rk.val ky with ⟨z1,zv⟩ | ⟨d'',v',z1,zv,rz⟩<;>rw [z1,zv]
  ·exact zS
  ·exact rz
 ·rename_i y z
  obtain ⟨n,kvs,rfl,h0,e⟩:=GG e
  obtain ⟨ky,hp1,e1,e⟩:=Qf e
  obtain ⟨hk,rfl⟩:=zQ e1
  obtain ⟨rfl,rfl⟩:=Qj e
  obtain ⟨a,rfl,i1,ro⟩:=RepV.refW W r1 h0
  obtain ⟨xs,h1,rk⟩:=ro.dic
  unfold RepL at r2
  obtain ⟨w,t,rfl,rw',r2⟩:=r2
  obtain rfl:=jT hk rw'
  obtain ⟨w2,rfl,rw2⟩:=r2.oneI
  refine ga hu pins s σ H _ _ v us Q I rx rv ⟨a,xs,ky,rfl,h1,.inr ⟨w2,rfl,k _ ρ B H Gr.refl W ?_⟩⟩
  rcases rk.val ky with ⟨z1,zv⟩ | ⟨d'',v',z1,zv,rz⟩<;>rw [z1,zv]
  ·exact rw2
  ·exact rz
 ·cases e
end
end D
namespace L2
open PySem PySem.Spec PyProof.Rows
theorem Inv.kfresh {X:Cx} {pins:List (Addr×Obj)} {σ:St} {H:Hp} {s:Shared} (I:Inv X pins σ H s):X.K.lookup s.heap.objs.size=none:=by
 cases q:X.K.lookup s.heap.objs.size with
 | none=>rfl
 | some o=>exact absurd (Heap.lt_size (I.kIn _ o q)) (Nat.lt_irrefl _)
theorem Qag {X:Cx} {pos:Pos}:PE X (.Dict [] [] pos) (fun _ H Q=>∀ p,H p=none->X.K.lookup p=none->Q (.ref p) (upd H p (.dK []))):=fun pins s σ H Q I h =>
 wpAny_Dict_empty ⟨.ref s.heap.objs.size,_,I.laid (a:=s.heap.objs.size) (o:=.dK []) (t':=s.toks) (fun _ _ q=>Heap.get?_push_of_some _ q) (Nat.le_refl _) (QaN s.heap I.big),rfl,h _ (I.hok.fresh (Nat.le_refl _)) I.kfresh⟩
end L2
namespace D
open PySem PySem.Spec PyProof.Rows L2
section
variable {X:Cx} {e a b c:Expr} {f fa fb fc:DEx} {ca cb:DTx} {pos:Pos}
def evP:List (DEx×DEx)->En->M (List (Key×DV))
  | [],_=>pure []
  | (f,g)::r,env=>do
    let x <- f env
    let k <- X8 x
    let y <- g env
    let ps <- evP r env
    pure ((k,y)::ps)
def QeN (kvs more:List (Key×DV)):List (Key×DV):=more.foldl (fun acc kv=>GL acc kv.1 kv.2) kvs
def ze (ps:List (DEx×DEx)):DEx:=fun env=>do
 let kvs <- evP ps env
 Qw (decide (kvs.length<=15))
 XS (.dic (QeN [] kvs))
def Xj:DEx:=fun _=>XS (.dic [])
theorem QaK:DE X (.Dict [] [] pos) Xj:=L2.PE.imp Qag fun σ H Q ⟨Z,env,ρ,B,hp,d,hp',S,e,k⟩=>by
 cases e
 intro p hn hk
 have g:Gr X.K ρ B H (ρ++[p]) (yN B p) (upd H p (.dK [])):=Gr.wnew hn hk
 refine k _ _ _ _ g (S.wo.wnew hn hk (RepK.orep (xs:=[]) .nil Zj)) ?_
 unfold RepV
 exact ⟨p,rfl,by rw [<- S.wo.len];simp⟩
abbrev NX:=Nat->M (Option DV)
def Qav (K:PySem.W.Frag) (ρ:List Addr) (B:Addr->Prop) (H:Hp) (nxt:NX) (J:It):Prop :=
  ∀ ρ1 B1 hp1 H1, Gs K ρ B H ρ1 B1 H1 -> WOk K ρ1 B1 hp1 H1 -> ∀ (i : Nat) (o : Option DV) (hp2 : Hs), nxt i hp1 = some (o, hp2) -> hp2 = hp1 /\ match o with
    | none=>J.stop i H1
    | some d=>J.go i H1/\∀ x H',J.yld i H1 x H'->RepV K ρ1 B1 H' d x/\(H'=H1∨∃ p o,H1 p=none/\H'=upd H1 p o)
abbrev DXx:=En->M NX
def tDX (K:PySem.W.Frag) (f:DXx):TI:=fun σ H R=>∃ Z env ρ B hp nxt hp',SOk K Z env σ ρ B hp H/\f env hp=some (nxt,hp')/\∀ J ρ' B' H',Gr K ρ B H ρ' B' H'->WOk K ρ' B' hp' H'->Qav K ρ' B' H' nxt J->R J H'
def DX (X:Cx) (tg iter:Expr) (f:DXx):Prop:=PI X tg iter (tDX X.K f)
def nxD (ds:List DV):NX:=fun i=>if i<=ds.length then pure ds[i]? else failure
def nxW (n:Nat):NX:=fun i=>do
 match <- Z3 n with
 | .lst ds=>pure ds[i]?
 | _=>failure
theorem Qbz {K:PySem.W.Frag} {ρ:List Addr} {B:Addr->Prop} {H:Hp} {ds:List DV} {J:It} (h:gS K ρ B H ds J):Qav K ρ B H (nxD ds) J:=fun ρ1 B1 hp1 H1 g W i o hp2 e=>by
  unfold nxD at e
  by_cases hi:i<=ds.length
  . rw [if_pos hi] at e
    obtain ⟨rfl,rfl⟩:=Qj e
    obtain ⟨h1,h2⟩:=h ρ1 B1 H1 g W.rb W.bt
    refine ⟨rfl,?_⟩
    cases q:ds[i]? with
    | none =>
      have:i=ds.length:=by have:=List.getElem?_eq_none_iff.mp q;omega
      subst this
      exact h2
    | some d=>exact h1 i d q
  . rw [if_neg hi] at e;cases e
theorem QeR {K:PySem.W.Frag} {ρ:List Addr} {B:Addr->Prop} {H:Hp} {n:Nat} {a:Addr} (ha:ρ[n]?=some a) (kf:∀ H1:Hp,∀ xs ys,H1 a=some (.lst xs)->SqL K H1 a ys->ys=xs):Qav K ρ B H (nxW n) (Itl K a):=fun ρ1 B1 hp1 H1 g W i o hp2 e=>by
  obtain ⟨ob,hp3,e1,e2⟩:=Qf e
  obtain ⟨e3,rfl⟩:=ZZ e1
  have ha1:=gm g.pre ha
  cases ob with
  | dic _=>cases e2
  | ins _ _=>cases e2
  | lst ds =>
    obtain ⟨rfl,rfl⟩:=Qj e2
    obtain ⟨xs,h1,l1⟩:=W.obj n a _ ha1 e3
    refine ⟨rfl,?_⟩
    cases q:ds[i]? with
    | none=>exact ⟨xs,SqL.of h1,by rw [<- l1.length];exact List.getElem?_eq_none_iff.mp q⟩
    | some d =>
      obtain ⟨x,hx,rx⟩:=l1.get q
      refine ⟨⟨xs,x,SqL.of h1,hx⟩,fun y H' ⟨eH,hy⟩=>?_⟩
      subst eH
      have:=hy xs (SqL.of h1)
      rw [hx] at this;cases this
      exact ⟨rx,.inl rfl⟩
theorem Qcg {K:PySem.W.Frag} {a:Addr} (hk:K.lookup a=none) (H:Hp) (xs ys:List V) (h:H a=some (.lst xs)) (h':SqL K H a ys):ys=xs:=by
 rcases h' with (h' | ⟨o,h'⟩) | ⟨o,_,_,h',_⟩
 ·rw [h] at h';cases h';rfl
 ·rw [h] at h';cases h'
 ·rw [hk] at h';cases h'
def xOf (f:DIx):DXx:=fun env=>do let ds <- f env;pure (nxD ds)
def xLs (f:DEx):DXx:=fun env=>do
  match <- f env with
  | .lst ds=>pure (nxD ds)
  | .ref n=>do
    match <- Z3 n with
    | .lst _=>pure (nxW n)
    | _=>failure
  | _=>failure
variable {tg iter:Expr}
theorem yk {g:DIx} (h:DI X tg iter g):DX X tg iter (xOf g):=L2.PI.imp h fun σ H R ⟨Z,env,ρ,B,hp,nxt,hp',S,e,k⟩=>by
 obtain ⟨ds,hp1,e1,e2⟩:=Qf e
 obtain ⟨rfl,rfl⟩:=Qj e2
 exact ⟨Z,env,ρ,B,hp,ds,hp1,S,e1,fun J ρ' B' H' g W it=>k J ρ' B' H' g W (Qbz it)⟩
theorem zO (h:DE X iter f):DX X tg iter (xLs f):=L2.PI.imp (Qdi (L2.PE.kf h)) fun σ H R ⟨Z,env,ρ,B,hp,nxt,hp',S,e,k⟩=>by
  obtain ⟨d,hp1,e1,e2⟩:=Qf e
  refine tD.run S e1 fun v ρ1 B1 H1 g1 S1 r1 kf=>?_
  cases d with
  | lst ds =>
    obtain ⟨rfl,rfl⟩:=Qj e2
    obtain ⟨a,xs,rfl,nb,sq,rl⟩:=r1.lstI
    exact ⟨a,rfl,⟨xs,sq⟩,k _ ρ1 B1 H1 g1 S1.wo (Qbz (QcU nb sq rl))⟩
  | ref n =>
    obtain ⟨o,hp2,e3,e4⟩:=Qf (show (Z3 n >>= fun o=>(match o with | .lst _=>pure (nxW n) | _=>failure:M NX)) hp1=some (nxt,hp') from e2)
    obtain ⟨e5,e6⟩:=ZZ e3
    cases o with
    | lst ds =>
      obtain ⟨rfl,z⟩:=Qj e4
      rw [<- z,<- e6] at k
      obtain ⟨a,rfl,i1,xs,h1,_⟩:=RepV.refW S1.wo r1 e5
      exact ⟨a,rfl,⟨xs,SqL.of h1⟩,k _ ρ1 B1 H1 g1 S1.wo (QeR i1 (Qcg (kf a _ h1)))⟩
    | dic _=>cases e4
    | ins _ _=>cases e4
  | non=>cases e2
  | bl _=>cases e2
  | int _=>cases e2
  | str _=>cases e2
  | tup _=>cases e2
def Vh (nxt:NX) (b:DV->DSx):Nat->Nat->DSx
  | 0,_,_=>failure
  | m+1,i,env=>do
    match <- nxt i with
    | none=>pure (.nx,env)
    | some d=>do
      let r <- b d env
      match r.1 with
      | .nx=>Vh nxt b m (i+1) r.2
      | .ct=>Vh nxt b m (i+1) r.2
      | .bk=>pure (.nx,r.2)
      | .rt x=>pure (.rt x,r.2)
def VB (f:DXx) (g:DGx) (body:DSx):DSx:=fun env=>do let nxt <- f env;Vh nxt (fun d env=>do let env' <- g d env;body env') 100000 0 env
theorem uI {body:List Stmt} {fi:DXx} {g:DGx} {sb:DSx} (hp:PassesOwn (model X.prog X.w) X.A X.env X.xe) (hc:X.calm=true) (hi:DX X tg iter fi) (hg:PG X tg (tDG X.K g)) (hb:DSs X body sb)
    (hs:∀ x,foldedSetIterable iter X.env x=pure x:=by intro _;rfl):DS X (.For tg iter body [] pos) (VB fi g sb) :=
  (QbQ hp hc hi hg hb hs).imp fun D σ H ⟨Z,env,ρ,B,hp,fl,env',hp',S,e,k⟩=>by
    obtain ⟨nxt,hp1,e1,e2⟩:=Qf e
    refine ⟨Z,env,ρ,B,hp,nxt,hp1,S,e1,fun J ρ1 B1 H1 g1 W1 it=>?_⟩
    have k1:=k.after (g1.gs S.wo.rb)
    refine ⟨fun i m σ H=>∃ env ρ B hp,SOk X.K Z env σ ρ B hp H/\Gs X.K ρ1 B1 H1 ρ B H/\Vh nxt (fun d env=>do let env' <- g d env;sb env') m i env hp=some ((fl,env'),hp'),
      ⟨100000,env,ρ1,B1,hp1,S.grow g1 W1,Gs.refl,e2⟩,?_⟩
    rintro i m σ H ⟨env2,ρ2,B2,hp2,S2,g2,e3⟩
    cases m with
    | zero=>cases e3
    | succ m =>
      obtain ⟨o,hpo,eo,e3⟩:=Qf e3
      obtain ⟨rfl,ito⟩:=it ρ2 B2 hp2 H g2 S2.wo i o hpo eo
      cases o with
      | none =>
        obtain ⟨z,rfl⟩:=Qj e3;cases z
        exact .inl ⟨ito,k1 σ ρ2 B2 H g2 S2⟩
      | some d =>
        obtain ⟨go,yl⟩:=ito
        obtain ⟨⟨f1,env4⟩,hp4,e4,e5⟩:=Qf e3
        obtain ⟨env3,hp3,e6,e7⟩:=Qf e4
        refine .inr ⟨go,fun σ' H'=>∃ env ρ B hp,SOk X.K Z env σ' ρ B hp H'/\Gs X.K ρ1 B1 H1 ρ B H'/\Vh nxt (fun d env=>do let env' <- g d env;sb env') m (i+1) env hp=some ((fl,env'),hp'),
          fun σ' H' q=>⟨m,Nat.lt_succ_self m,q⟩,fun x H' y=>?_⟩
        obtain ⟨rx,hx⟩:=yl x H' y
        have S3:SOk X.K Z env2 σ ρ2 B2 hpo H'/\Gs X.K ρ2 B2 H ρ2 B2 H':=by
          rcases hx with rfl | ⟨p,o,hn,rfl⟩
          . exact ⟨S2,Gs.refl⟩
          . exact ⟨S2.grow (Gr.laid hn) (S2.wo.laid hn),uh S2.wo.rb hn⟩
        refine ⟨Z,env2,ρ2,B2,hpo,d,env3,hp3,S3.1,rx,e6,fun σ5 ρ5 B5 H5 g5 S5=>⟨Z,env3,ρ5,B5,hp3,f1,env4,hp4,S5,e7,fun σ6 ρ6 B6 H6 g6 S6=>?_⟩⟩
        have G6:=g2.trans (S3.2.trans (g5.trans g6))
        cases f1 with
        | nx=>exact ⟨env4,ρ6,B6,hp4,S6,G6,e5⟩
        | ct=>exact ⟨env4,ρ6,B6,hp4,S6,G6,e5⟩
        | bk=>obtain ⟨z,rfl⟩:=Qj e5;cases z;exact k1 σ6 ρ6 B6 H6 G6 S6
        | rt d=>obtain ⟨z,rfl⟩:=Qj e5;cases z;exact k1 σ6 ρ6 B6 H6 G6 S6
def ZX (nxt:NX) (g:DV->M Bool) (f:DV->M DV):Nat->Nat->M (List DV)
  | 0,_=>failure
  | m+1,i=>do
    match <- nxt i with
    | none=>pure []
    | some d=>do
      if <- g d then
        let y <- f d
        let ys <- ZX nxt g f m (i+1)
        pure (y::ys)
      else ZX nxt g f m (i+1)
def Zp (nw:Bool) (src:DXx) (idx:List Nat) (t:DTx) (f:DEx):DEx:=fun env=>do
 let nxt <- src env
 let out <- ZX nxt (fun d=>t (cE idx env d)) (fun d=>f (cE idx env d)) lim 0
 if nw then XS (.lst out) else pure (.lst out)
variable {elt:Expr} {x:Str} {px:Pos} {ifs:List Expr} {scope:Scope} {cl:List (Str×Addr)} {caps:List Str} {idx:List Nat} {src:DXx} {te:DTx} {nw:Bool}
theorem Vf {K:PySem.W.Frag} {σ:St} {H:Hp} {Q:VK} (h:tD K (Zp nw src idx te f) σ H Q):gH K (tDX K src) (tDT K te) (tD K f) idx σ H Q:=by
  obtain ⟨Z,env,ρ,B,hp,d,hp',S,e,k⟩:=h
  obtain ⟨nxt,hp1,e1,e2⟩:=Qf e
  obtain ⟨out,hp3,e5,e6⟩:=Qf e2
  refine ⟨Z,env,ρ,B,hp,nxt,hp1,S,e1,fun J ρ1 B1 H1 g1 W1 it D hD hK=>?_⟩
  have g1s:=g1.gs S.wo.rb
  refine ⟨fun i m ys H2=>H2 D=some (.lst ys)/\i+m=lim/\∃ ρ2 B2 hp2 don rst,Gr K ρ1 B1 H1 ρ2 B2 H2/\WOk K ρ2 B2 hp2 H2/\B2 D/\D∉ρ2/\RepL K ρ2 B2 H2 don ys/\don.length<=i /\
    ZX nxt (fun d=>te (cE idx env d)) (fun d=>f (cE idx env d)) m i hp2=some (rst,hp3)/\don++rst=out,?_,?_⟩
  . exact ⟨lim,Zj,Nat.zero_add _,ρ1,yN B1 D,hp1,[],out,Gr.banned hD hK,W1.banned hD hK,.inr rfl,fun z=>W1.bt D (W1.rb D z) hD,RepL.nil,Nat.le_refl _,e5,rfl⟩
  . rintro i m ys H2 ⟨hDs,him,ρ2,B2,hp2,don,rst,g2,W2,bD,nD,rd,dn,e7,e8⟩
    refine ⟨hDs,?_⟩
    cases m with
    | zero=>cases e7
    | succ m =>
      obtain ⟨o,hpo,eo,e7⟩:=Qf e7
      obtain ⟨rfl,ito⟩:=it ρ2 B2 hp2 H2 (g2.gs W1.rb) W2 i o hpo eo
      cases o with
      | some d0 =>
        obtain ⟨go,yl⟩:=ito
        obtain ⟨b,hp4,e9,e10⟩:=Qf e7
        refine .inr ⟨go,fun x H3 y=>?_⟩
        obtain ⟨rx,hx⟩:=yl x H3 y
        have S3:Gr K ρ2 B2 H2 ρ2 B2 H3/\WOk K ρ2 B2 hpo H3:=by
          rcases hx with rfl | ⟨p,o,hn,rfl⟩
          . exact ⟨Gr.refl,W2⟩
          . exact ⟨Gr.laid hn,W2.laid hn⟩
        have g3:=g2.trans S3.1
        have C3:=cσ_ok (idx:=idx) S (g1s.trans (g3.gs W1.rb)) S3.2 rx
        refine tDT.run C3 e9 fun ρ4 B4 H4 g4 S4=>?_
        have hD4:H4 D=some (.lst ys):=g4.keep D _ nD (S3.1.keep D _ nD hDs)
        have nD4:D∉ρ4:=fun z=>(g4.rnew D z).elim nD fun q=>by rw [S3.1.keep D _ nD hDs] at q;cases q
        cases b with
        | false =>
          exact Gy ⟨m,Nat.lt_succ_self m,hD4,by omega,ρ4,B4,hp4,don,rst,g3.trans g4,S4.wo,g4.ban D bD,nD4,RepL.grow W2.rb (S3.1.trans g4) _ _ rd,by omega,e10,e8⟩
        | true =>
          obtain ⟨z,hp5,e11,e12⟩:=Qf e10
          obtain ⟨zs,hp6,e13,e14⟩:=Qf e12
          obtain ⟨rfl,rfl⟩:=Qj e14
          refine Gz (tD.run S4 e11 fun v ρ5 B5 H5 g5 S5 r5=>?_)
          have hD5:H5 D=some (.lst ys):=g5.keep D _ nD4 hD4
          have nD5:D∉ρ5:=fun z=>(g5.rnew D z).elim nD4 fun q=>by rw [hD4] at q;cases q
          have bD5:B5 D:=g5.ban D (g4.ban D bD)
          have G5:=g3.trans (g4.trans g5)
          have rd5:=RepL.grow W2.rb (S3.1.trans (g4.trans g5)) _ _ rd
          have trk:∀ b,(upd H5 D (.lst (ys++[v]))) b=none->H5 b=none:=fun b q=>by
            by_cases e:b=D
            . subst e;rw [Zj] at q;cases q
            . rw [Q0 e] at q;exact q
          have g6:Gs K ρ5 B5 H5 ρ5 B5 (upd H5 D (.lst (ys++[v]))):=⟨List.prefix_rfl,fun _ h=>.inl h,fun b o nb h=>by rw [Q0 (show b≠D from fun z=>nb (by rw [z];exact bD5))];exact h,trk⟩
          refine ⟨hD5,?_,m,Nat.lt_succ_self m,Zj,by omega,ρ5,B5,hp5,don++[z],zs,?_,?_,bD5,nD5,RepL.gs g6 _ _ (RepL.append rd5 (RepL.one r5)),by simp;omega,e13,by rw [<- e8];simp⟩
          . have h1:=rd5.length
            have h2:lim < sizeLine:=by decide
            omega
          . exact ⟨G5.pre,G5.ban,G5.new,G5.rnew,fun b o nb h=>by rw [Q0 (show b≠D from fun q=>by rw [q,hD] at h;cases h)];exact G5.keep b o nb h,fun b q=>G5.trk b (trk b q)⟩
          . exact ⟨S5.wo.len,S5.wo.nd,fun j b o q1 q2=>ORep.gs g6 (Q0 (show b≠D from fun z=>nD5 (by rw [<- z];exact List.mem_of_getElem? q1))) (S5.wo.obj j b o q1 q2),S5.wo.rb,fun b z q=>S5.wo.bt b z (trk b q),S5.wo.bk⟩
      | none =>
        obtain ⟨z,z'⟩:=Qj e7
        subst z
        subst z'
        refine .inl ⟨ito,?_⟩
        rw [List.append_nil] at e8
        subst e8
        cases nw with
        | false =>
          obtain ⟨rfl,rfl⟩:=Qj (show (pure (.lst don):M DV) hpo=some (d,hp') from e6)
          have gU:Gs K ρ2 B2 H2 ρ2 (fun b=>B2 b/\b≠D) H2:=⟨List.prefix_rfl,fun _ h=>.inl h.1,fun _ _ _ h=>h,fun _ h=>h⟩
          refine k (.ref D) ρ2 (fun b=>B2 b/\b≠D) H2 (g1.trans ⟨g2.pre,fun b z=>⟨g2.ban b z,fun q=>W1.bt b z (q▸hD)⟩,fun b z=>g2.new b z.1,g2.rnew,g2.keep,g2.trk⟩)
            ⟨W2.len,W2.nd,fun j b o q1 q2=>ORep.gs gU rfl (W2.obj j b o q1 q2),fun b z=>⟨W2.rb b z,fun q=>nD (q▸z)⟩,fun b z=>W2.bt b z.1,fun b z=>W2.bk b z.1⟩ (KK (fun z=>z.2 rfl) (SqL.of hDs) (RepL.gs gU _ _ rd))
        | true =>
          cases (show some (DV.ref hpo.length,hpo++[OV.lst don])=some (d,hp') from e6)
          have gU:Gs K ρ2 B2 H2 (ρ2++[D]) B2 H2:=⟨List.prefix_append _ _,fun _ h=>.inl h,fun _ _ _ h=>h,fun _ h=>h⟩
          refine k (.ref D) (ρ2++[D]) B2 H2 (g1.trans ⟨g2.pre.trans (List.prefix_append _ _),g2.ban,g2.new,fun a z=>(List.mem_append.mp z).elim (g2.rnew a) fun q=>.inr (by rw [List.mem_singleton.mp q];exact hD),g2.keep,g2.trk⟩)
            ⟨by simp [W2.len],List.nodup_append.mpr ⟨W2.nd,by simp,fun a ha b hb=>by rw [List.mem_singleton.mp hb];exact fun z=>nD (z▸ha)⟩,fun j b o q1 q2=>?_,fun b z=>(List.mem_append.mp z).elim (W2.rb b) fun q=>by rw [List.mem_singleton.mp q];exact bD,W2.bt,W2.bk⟩ ?_
          . by_cases hi:j < ρ2.length
            . rw [List.getElem?_append_left hi] at q1
              rw [List.getElem?_append_left (by rw [<- W2.len];exact hi)] at q2
              exact ORep.gs gU rfl (W2.obj j b o q1 q2)
            . rw [List.getElem?_append_right (by omega)] at q1
              rw [List.getElem?_append_right (by rw [<- W2.len];omega)] at q2
              have hi0:j - ρ2.length=0:=by
                have:=(List.getElem?_eq_some_iff.mp q1).1
                simp at this;omega
              rw [hi0] at q1
              rw [<- W2.len,hi0] at q2
              simp at q1 q2
              subst q1 q2
              exact ⟨ys,hDs,RepL.gs gU _ _ rd⟩
          . unfold RepV
            exact ⟨D,rfl,by rw [<- W2.len];simp⟩
theorem XL (S:K2 X x scope cl caps idx) (hc:X.calm=true) (hi:DX X (.Name x px) iter src)
  (ht:∀ C s₀ H₀ ex,DTs (XT X scope cl C (x::caps) s₀ H₀ ex) ifs te) (he:∀ C s₀ H₀ ex,DE (XT X scope cl C (x::caps) s₀ H₀ ex) elt f)
  (hs:∀ x,foldedSetIterable iter X.env x=pure x:=by intro _;rfl):DE X (.ListComp elt [⟨.Name x px,iter,ifs,0⟩] scope pos) (Zp nw src idx te f) :=
 L2.PE.imp (Qdb (tt:=tDT X.K te) (te:=tD X.K f) S hc hi ht he hs) fun _ _ _ h=>Vf h
theorem jU (i:Nat) {y:Str} {py spos:Pos} (hN:X.N.Nodup) (S:K2 X x scope cl caps idx) (hc:X.calm=true) (hi:DX X (.Name x px) iter src)
  (ht:∀ C s₀ H₀ ex,DTs (XT X scope cl C (x::caps) s₀ H₀ ex) ifs te) (he:∀ C s₀ H₀ ex,DE (XT X scope cl C (x::caps) s₀ H₀ ex) elt f)
  (hy:X.N[i]?=some y:=by rfl) (hx:Loc X.env.scope y:=by first | exact Or.inl rfl | exact Or.inr rfl)
  (hsw:swapsWith (.ListComp elt [⟨.Name x px,iter,ifs,0⟩] scope pos) (some (.Name y py)) spos.line X.env=pure true:=by with_unfolding_all rfl)
  (hf:X.fn y=true∨X.env.scope.names.lookup y=some .local:=by first | exact .inl rfl | exact .inr rfl | assumption)
  (hs:∀ x,foldedSetIterable iter X.env x=pure x:=by intro _;rfl):DS X (.Assign [.Name y py] (.ListComp elt [⟨.Name x px,iter,ifs,0⟩] scope pos) spos) (QC i (Zp nw src idx te f)) :=
 L2.PS.imp (Qdp (tt:=tDT X.K te) (te:=tD X.K f) S hc hi ht he hN hy hx hsw hf hs) fun _ _ _ h=>GR (fun _ _ _ q=>Vf q) h
end
end D
namespace D
open PySem PySem.Spec PyProof.Rows L2
def WP {α:Type} (m:M α) (hp:Hs) (Q:α->Hs->Prop):Prop:=∃ x hp',m hp=some (x,hp')/\Q x hp'
section
variable {α β:Type} {m:M α} {k:α->M β} {hp:Hs} {Q:α->Hs->Prop} {R:β->Hs->Prop}
theorem WP_pure {x:α}:WP (pure x) hp Q↔Q x hp:=⟨fun ⟨y,h,e,q⟩=>by obtain ⟨rfl,rfl⟩:=Qj e;exact q,fun q=>⟨x,hp,rfl,q⟩⟩
theorem Qcv:WP (m >>= k) hp R↔WP m hp fun x h=>WP (k x) h R:=⟨fun ⟨y,h,e,q⟩=>by obtain ⟨x,h1,e1,e2⟩:=Qf e;exact ⟨x,h1,e1,y,h,e2,q⟩,fun ⟨x,h1,e1,y,h,e2,q⟩=>⟨y,h,(Qg e1).trans e2,q⟩⟩
theorem WP.mono {Q':α->Hs->Prop} (h:WP m hp Q) (hq:∀ x h,Q x h->Q' x h):WP m hp Q':=let ⟨x,h1,e,q⟩:=h;⟨x,h1,e,hq x h1 q⟩
end
section
variable {hp:Hs} {env:En} {Q:Fl×En->Hs->Prop}
theorem uw {b:DV->DSx} (I:Nat->En->Hs->Prop) (ds:List DV) (h0:I 0 env hp) (hs:∀ (i:Nat) d,ds[i]?=some d->∀ env hp,I i env hp->WP (b d env) hp fun r h=>match r.1 with
    | .nx=>I (i+1) r.2 h
    | .ct=>I (i+1) r.2 h
    | .bk=>Q (.nx,r.2) h
    | .rt x=>Q (.rt x,r.2) h) (he:∀ env hp,I ds.length env hp->Q (.nx,env) hp):WP (Vg b ds env) hp Q:=by
  suffices h:∀ (m i:Nat) env hp,m+i=ds.length->I i env hp->WP (Vg b (ds.drop i) env) hp Q by simpa using h ds.length 0 env hp rfl h0
  intro m
  induction m with
  | zero =>
    intro i env hp e hI
    have:i=ds.length:=by omega
    subst this
    rw [List.drop_length]
    exact WP_pure.mpr (he env hp hI)
  | succ m ih =>
    intro i env hp e hI
    have hlt:i < ds.length:=by omega
    rw [List.drop_eq_getElem_cons hlt,Vg,Qcv]
    refine (hs i ds[i] (List.getElem?_eq_getElem hlt) env hp hI).mono fun r h q=>?_
    obtain ⟨fl,env1⟩:=r
    cases fl with
    | nx=>exact ih (i+1) env1 h (by omega) q
    | ct=>exact ih (i+1) env1 h (by omega) q
    | bk=>exact WP_pure.mpr q
    | rt x=>exact WP_pure.mpr q
theorem jw (ds:List DV) (i:Nat) (h:i<=ds.length) (hp:Hs):nxD ds i hp=some (ds[i]?,hp):=by unfold nxD;rw [if_pos h];rfl
theorem jx {n:Nat} {ds:List DV} {hp:Hs} (h:hp[n]?=some (.lst ds)) (i:Nat):nxW n i hp=some (ds[i]?,hp):=by
 unfold nxW
 have:Z3 n hp=some (.lst ds,hp):=by unfold Z3;rw [h]
 rw [Qg this];rfl
end
theorem vv {nxt:NX} {t:DV->M Bool} {f:DV->M DV} {p:Int->Bool} {g:Int->Int} {hp:Hs} (ns:List Int) (hn:∀ i,i<=ns.length->nxt i hp=some ((ns.map DV.int)[i]?,hp)) (ht:∀ x,t (.int x) hp=some (p x,hp)) (hf:∀ x,f (.int x) hp=some (.int (g x),hp)) (hl:ns.length < 100000) :
    ZX nxt t f 100000 0 hp=some (((ns.filter p).map g).map .int,hp):=by
  suffices h:∀ (m i n:Nat),m+i=ns.length->m < n->ZX nxt t f n i hp=some ((((ns.drop i).filter p).map g).map .int,hp) by simpa using h ns.length 0 100000 rfl hl
  intro m
  induction m with
  | zero =>
    intro i n e hn'
    obtain ⟨n,rfl⟩:∃ k,n=k+1:=⟨n - 1,by omega⟩
    have:i=ns.length:=by omega
    subst this
    have e1:=hn ns.length (Nat.le_refl _)
    rw [show (ns.map DV.int)[ns.length]?=none by simp] at e1
    rw [ZX,Qg e1,List.drop_length]
    rfl
  | succ m ih =>
    intro i n e hn'
    obtain ⟨n,rfl⟩:∃ k,n=k+1:=⟨n - 1,by omega⟩
    have hlt:i < ns.length:=by omega
    have e1:=hn i (by omega)
    rw [List.getElem?_map,List.getElem?_eq_getElem hlt] at e1
    have hi:=ih (i+1) n (by omega) (by omega)
    rw [ZX,Qg e1]
    simp only [Option.map_some]
    rw [Qg (ht ns[i]),List.drop_eq_getElem_cons hlt]
    cases q:p ns[i] with
    | false=>rw [List.filter_cons_of_neg (by simp [q])];simpa using hi
    | true =>
      rw [List.filter_cons_of_pos q]
      simp only [if_true]
      rw [Qg (hf ns[i]),Qg hi]
      rfl
theorem uF (n:Nat) (hp:Hs) (i:Int):drf (n+1) hp (.int i)=some (.int i):=rfl
theorem QaO (n:Nat) (hp:Hs) (b:Bool):drf (n+1) hp (.bl b)=some (.bl b):=rfl
theorem uG (n:Nat) (hp:Hs) (b:Str):drf (n+1) hp (.str b)=some (.str b):=rfl
theorem xZ {α:Type} {f:α->Option α}:∀ {xs:List α},(∀ x∈xs,f x=some x)->xs.mapM f=some xs
  | [],_=>rfl
  | x::xs,h=>by
    rw [List.mapM_cons,h x (by simp),xZ fun y hy=>h y (List.mem_cons_of_mem _ hy)];rfl
theorem uE {d d':DV} {hp:Hs} (h:drf 40 hp d=some d'):kG d hp=some (d',hp):=by unfold kG;rw [h];rfl
theorem Kp {x y x' y':DV} {hp:Hs} (hx:drf 40 hp x=some x') (hy:drf 40 hp y=some y') (s1:okP x'=true) (s2:okP y'=true):Ub x y hp=some (PyData.eqv (toP x') (toP y'),hp):=by
 unfold Ub
 simp only [okP,Bool.and_eq_true] at s1 s2
 rw [Qg (uE hx),Qg (uE hy)]
 simp only [s1.2,s2.2,Bool.and_self,Qw,if_true,pure_bind]
 rfl
theorem Go (i j:Int) (hp:Hs):Ub (.int i) (.int j) hp=some (i==j,hp):=Kp (uF 39 hp i) (uF 39 hp j) (yV i) (yV j)
end D
namespace D
open PySem PySem.Spec PyProof.Rows L2
theorem Qas (p:Key×DV) (r:List (Key×DV)) (j:Key):zZ (p::r) j=if p.1=j then some p.2 else zZ r j:=by
 by_cases e:p.1=j
 ·simp [zZ,List.find?_cons,e]
 ·simp [zZ,List.find?_cons,e]
theorem ZI {n:Nat} {o:OV} {hp:Hs} (h:hp[n]?=some o):Z3 n hp=some (o,hp):=by unfold Z3;rw [h]
theorem QbV {n:Nat} {kvs:List (Key×DV)} {hp:Hs} {i d:DV} {k:Key} (h:hp[n]?=some (.dic kvs)) (hk:qS i=some k) (hl:kvs.length < 100000):zt (.ref n) i d hp=some ((),hp.set n (.dic (GL kvs k d))):=by
 show (Z3 n >>= _) hp=_
 rw [Qg (ZI h)]
 have e1:X8 i hp=some (k,hp):=by unfold X8;rw [hk];rfl
 have e2:Qw (decide (kvs.length < lim)) hp=some ((),hp):=by rw [show decide (kvs.length < lim)=true from decide_eq_true hl];rfl
 show (X8 i >>= fun k=>Qw (decide (kvs.length < lim)) >>= fun _=>xu n (.dic (GL kvs k d))) hp=_
 rw [Qg e1,Qg e2];rfl
theorem gz {f:DEx} {g:DGx} {env env':En} {d:DV} {hp hp1 hp2:Hs} (h:f env hp=some (d,hp1)) (h':g d env hp1=some (env',hp2)):Xp f g env hp=some ((.nx,env'),hp2):=by
 unfold Xp
 rw [Qg h,Qg h'];rfl
theorem Zr {α:Type} {m:M α} {x:α} (h:m=pure x) (hp:Hs):m hp=some (x,hp):=by rw [h];rfl
theorem Qb2 {c:DTx} {f g:DSx} {env:En} {b:Bool} {hp hp1:Hs} (h:c env hp=some (b,hp1)):sIf c f g env hp=if b=true then f env hp1 else g env hp1:=by
 unfold sIf
 rw [Qg h]
 cases b<;>rfl
theorem QT {f:DEx} {env:En} {b:Bool} {hp hp1:Hs} (h:f env hp=some (.bl b,hp1)):eB f env hp=some (b,hp1):=by
 unfold eB
 rw [Qg h];rfl
theorem Qk {g:DV->DV->M DV} {f f':DEx} {env:En} {x y d:DV} {hp hp1 hp2 hp3:Hs} (h:f env hp=some (x,hp1)) (h':f' env hp1=some (y,hp2)) (hg:g x y hp2=some (d,hp3)):Ql g f f' env hp=some (d,hp3):=by
 unfold Ql
 rw [Qg h,Qg h',hg]
theorem QB {f:DEx} {env:En} {d:DV} {hp hp1:Hs} (h:f env hp=some (d,hp1)):QE f env hp=some ((.rt d,env),hp1):=by
 unfold QE
 rw [Qg h];rfl
theorem Zc {f g:DSx} {env env1:En} {d:DV} {hp hp1:Hs} (h:f env hp=some ((.rt d,env1),hp1)):Qr f g env hp=some ((.rt d,env1),hp1):=by
 unfold Qr
 rw [Qg h];rfl
theorem J3 {f:DEx} {env:En} {d:DV} {hp hp1:Hs} (h:f env hp=some (d,hp1)):ZN f env hp=some ((.nx,env),hp1):=by
 unfold ZN
 rw [Qg h];rfl
theorem Qy {n:Nat} {body:DSx} {ds:List DV} {d:DV} {env:En} {hp hp1:Hs} (h:body (ds.map .val++List.replicate (n - ds.length) .un) hp=some ((.rt d,env),hp1)):Q5 n body ds hp=some (d,hp1):=by
 unfold Q5
 rw [Qg h];rfl
theorem J5 {c:DTx} {env:En} {b:Bool} {hp hp1:Hs} (h:c env hp=some (b,hp1)):Jy c env hp=some (!b,hp1):=by
 unfold Jy
 rw [Qg h];rfl
theorem za {f g:DEx} {env:En} {b:Bool} {hp hp1:Hs} (h:f env hp=some (.bl b,hp1)):Jm f g env hp=if b=true then g env hp1 else some (.bl false,hp1):=by
 unfold Jm
 rw [Qg h]
 cases b<;>rfl
end D
namespace D
open PySem PySem.Spec PyProof.Rows L2
variable {X:Cx}
theorem zU:∀ {us:List Value} {ns:List Int},IntsAre us ns->Vals (ns.map V.int) us
 | _,_,.nil=>.nil
 | _,_,.cons n t r=>.cons ⟨t,rfl⟩ (zU r)
variable {K:PySem.W.Frag} {ρ:List Addr} {B:Addr->Prop} {H:Hp}
end D
namespace D
open PySem PySem.Spec PyProof.Rows L2
abbrev ClsN (K:PySem.W.Frag) (c:Str) (C:Addr):Prop:=PySem.W.nsIn K mainGlobals c=some (some (.ref C))
theorem ClsN.uniq {K:PySem.W.Frag} {c:Str} {C C':Addr} (h:ClsN K c C) (h':ClsN K c C'):C=C':=by
 have e:=h.symm.trans h';cases e;rfl
structure X4 (K:PySem.W.Frag) (c f:Str):Prop where
 ex:∃ C,ClsN K c C/\Cls K C/\NoAttr K C f
structure J9 (P:Program) (w:World) (K:PySem.W.Frag) (mg:Str->Option Value) (base:Heap) (c m:Str) (k n:Nat) (F:List DV->M DV):Prop where
 ex:∃ (C f:Addr) (fd:FuncData) (ps:List Str),ClsN K c C/\Cls K C/\vh K C m f/\qX P w K mg base CX0 k f fd ps (spD K n F)/\Binds K fd ps []
structure gR (P:Program) (w:World) (K:PySem.W.Frag) (mg:Str->Option Value) (base:Heap) (c:Str) (k n:Nat) (F:List DV->M DV):Prop where
 ex:∃ (C f:Addr) (fd:FuncData) (ps:List Str),ClsN K c C/\mg c=some (.ref C)/\Mk K C f/\qX P w K mg base CX0 k f fd ps (spD K n F)/\Binds K fd ps []
section
variable {K:PySem.W.Frag} {ρ:List Addr} {B:Addr->Prop} {H:Hp} {hp:Hs}
abbrev RepF (K:PySem.W.Frag) (ρ:List Addr) (B:Addr->Prop) (H:Hp):List (Str×DV)->List (Str×V)->Prop:=Paired fun p q=>p.1=q.1/\RepV K ρ B H p.2 q.2
theorem gw:∀ {fs:List (Str×DV)} {xs:List (Str×V)},xs.map (·.1)=fs.map (·.1)->RepL K ρ B H (fs.map (·.2)) (xs.map (·.2))->RepF K ρ B H fs xs
  | [],[],_,_=>.nil
  | [],_::_,e,_=>by simp at e
  | _::_,[],e,_=>by simp at e
  | p::fs,q::xs,e,r=>by
    simp only [List.map_cons,List.cons.injEq] at e
    simp only [List.map_cons] at r
    unfold RepL at r
    obtain ⟨x,t,e2,h1,h2⟩:=r
    simp only [List.cons.injEq] at e2
    obtain ⟨rfl,rfl⟩:=e2
    exact .cons ⟨e.1.symm,h1⟩ (gw e.2 h2)
theorem RepF.to {fs:List (Str×DV)} {xs:List (Str×V)} (r:RepF K ρ B H fs xs):xs.map (·.1)=fs.map (·.1)/\RepL K ρ B H (fs.map (·.2)) (xs.map (·.2)):=by
 induction r with
 | nil=>exact ⟨rfl,RepL.nil⟩
 | cons h _ ih=>exact ⟨by simp [ih.1,h.1],by simpa using RepL.cons h.2 ih.2⟩
theorem RepF.look {fs:List (Str×DV)} {xs:List (Str×V)} (r:RepF K ρ B H fs xs) (f:Str):(fs.lookup f=none/\xs.lookup f=none)∨∃ d v,fs.lookup f=some d/\xs.lookup f=some v/\RepV K ρ B H d v:=by
  induction r with
  | nil=>exact .inl ⟨rfl,rfl⟩
  | @cons p q _ _ h _ ih =>
    obtain ⟨p1,p2⟩:=p
    obtain ⟨q1,q2⟩:=q
    obtain ⟨h1,h2⟩:=h
    have h1:p1=q1:=h1
    subst h1
    cases e:f==p1 with
    | true=>exact .inr ⟨p2,q2,by simp [List.lookup,e],by simp [List.lookup,e],h2⟩
    | false=>simpa [List.lookup,e] using ih
def JR (f:Str) (d:DV):List (Str×DV)->List (Str×DV)
 | []=>[(f,d)]
 | (g,x)::r=>if g=f then (g,d)::r else (g,x)::JR f d r
theorem RepF.put {fs:List (Str×DV)} {xs:List (Str×V)} (r:RepF K ρ B H fs xs) (f:Str) {d:DV} {v:V} (rd:RepV K ρ B H d v):RepF K ρ B H (JR f d fs) (YU f v xs):=by
  induction r with
  | nil=>exact .cons ⟨rfl,rd⟩ .nil
  | @cons p q _ _ h t ih =>
    obtain ⟨p1,p2⟩:=p
    obtain ⟨q1,q2⟩:=q
    obtain ⟨h1,h2⟩:=h
    have h1:p1=q1:=h1
    subst h1
    unfold JR YU
    by_cases e:p1=f
    . rw [if_pos e,if_pos e];exact .cons ⟨rfl,rd⟩ t
    . rw [if_neg e,if_neg e];exact .cons ⟨rfl,h2⟩ ih
theorem RepF.len {fs:List (Str×DV)} {xs:List (Str×V)} (r:RepF K ρ B H fs xs):fs.length=xs.length:=Paired.length r
theorem RepF.gs {ρ':List Addr} {B':Addr->Prop} {H':Hp} {fs:List (Str×DV)} {xs:List (Str×V)} (g:Gs K ρ B H ρ' B' H') (r:RepF K ρ B H fs xs):RepF K ρ' B' H' fs xs:=L2.Paired.mapP r fun _ _ h=>⟨h.1,RepV.gs g _ _ h.2⟩
theorem ORep.ins {a:Addr} {c:Str} {fs:List (Str×DV)} (h:ORep K ρ B H a (.ins c fs)):∃ C dx xs,ClsN K c C/\H a=some (.ins C dx xs)/\RepF K ρ B H fs xs:=by
 obtain ⟨C,dx,xs,nc,e,ek,rl⟩:=h
 exact ⟨C,dx,xs,nc,e,gw ek rl⟩
theorem RepF.orep {a C dx:Addr} {c:Str} {fs:List (Str×DV)} {xs:List (Str×V)} (nc:ClsN K c C) (r:RepF K ρ B H fs xs) (e:H a=some (.ins C dx xs)):ORep K ρ B H a (.ins c fs):=⟨C,dx,xs,nc,e,r.to.1,r.to.2⟩
theorem Qct {n:Nat} {a C dx:Addr} {c:Str} {xs xs':List (Str×V)} {fs':List (Str×DV)} (W:WOk K ρ B hp H) (i:ρ[n]?=some a) (nc:ClsN K c C) (e:H a=some (.ins C dx xs)) (r:RepF K ρ B H fs' xs'):Gr K ρ B H ρ B (upd H a (.ins C dx xs'))/\WOk K ρ B (hp.set n (.ins c fs')) (upd H a (.ins C dx xs')):=by
 have g:Gr K ρ B H ρ B (upd H a (.ins C dx xs')):=Gr.wset i e
 exact ⟨g,W.wset (o':=.ins C dx xs') (v:=.ins c fs') i e ((r.gs (g.gs W.rb)).orep nc Zj)⟩
end
def onI {α:Type} (c:Str) (x:DV) (k:Nat->List (Str×DV)->M α):M α:=match x with
  | .ref n=>do
    match <- Z3 n with
    | .ins c' fs=>do Qw (decide (c'=c));k n fs
    | _=>failure
  | _=>failure
theorem xc {α:Type} {c:Str} {x:DV} {d:α} {k:Nat->List (Str×DV)->M α} {hp hp':Hs} (h:onI c x k hp=some (d,hp')):∃ n fs,x=.ref n/\hp[n]?=some (.ins c fs)/\k n fs hp=some (d,hp'):=by
  cases x with
  | ref n =>
    obtain ⟨o,hp1,e1,e2⟩:=Qf (show (Z3 n >>= fun o=>(match o with | .ins c' fs=>do Qw (decide (c'=c));k n fs | _=>failure:M α)) hp=some (d,hp') from h)
    obtain ⟨e3,rfl⟩:=ZZ e1
    cases o with
    | ins c' fs =>
      obtain ⟨_,hp2,e4,e5⟩:=Qf e2
      obtain ⟨hl,rfl⟩:=QH e4
      obtain rfl:=of_decide_eq_true hl
      exact ⟨n,fs,rfl,e3,e5⟩
    | lst _=>cases e2
    | dic _=>cases e2
  | non=>cases h
  | bl _=>cases h
  | int _=>cases h
  | str _=>cases h
  | tup _=>cases h
  | lst _=>cases h
def zg (c f:Str) (x:DV):M DV:=onI c x fun _ fs=>qG (fs.lookup f)
def zC (c f:Str) (x d:DV):M Unit:=onI c x fun n fs=>do Qw (decide (fs.length < 1000));xu n (.ins c (JR f d fs))
def Qx (c f:Str) (g:DEx):DEx:=fun env=>do let x <- g env;zg c f x
def Q1 (c f:Str) (fo fv:DEx):DSx:=fun env=>do let y <- fv env;let x <- fo env;zC c f x y;pure (.nx,env)
def Xw (c f:Str) (op:DV->DV->M DV) (fo fv:DEx):DSx:=fun env=>do let x <- fo env;let v <- zg c f x;let y <- fv env;let z <- op v y;zC c f x z;pure (.nx,env)
def Yk:DV->DV->M DV
 | .int i,.int j=>pure (.int (i+j))
 | _,_=>failure
def VV:DV->DV->M DV
 | .int i,.int j=>pure (.int (i - j))
 | _,_=>failure
def Qu (c m:Str) (n:Nat) (F:List DV->M DV) (fo:DEx) (fa:DAx):DEx:=fun env=>do
 let x <- fo env
 onI c x fun _ fs=>Qw (fs.lookup m).isNone
 let ds <- fa env
 Qw (decide (ds.length+1=n))
 F (x::ds)
def Jn (c:Str) (n:Nat) (F:List DV->M DV) (fa:DAx):DEx:=fun env=>do
 let ds <- fa env
 Qw (decide (ds.length+1=n))
 let x <- XS (.ins c [])
 let r <- F (x::ds)
 match r with
 | .non=>pure x
 | _=>failure
section
variable {X:Cx} {o e value:Expr} {c f m:Str} {pos pos' tpos apos:Pos} {fo fv:DEx}
theorem Gq {K:PySem.W.Frag} {ρ:List Addr} {B:Addr->Prop} {H:Hp} {hp hp':Hs} {x d:DV} {v:V} (W:WOk K ρ B hp H) (r:RepV K ρ B H x v) (h:zg c f x hp=some (d,hp')):hp=hp'/\∃ a C dx xs u,v=.ref a/\ClsN K c C/\H a=some (.ins C dx xs)/\xs.lookup f=some u/\RepV K ρ B H d u:=by
 obtain ⟨n,fs,rfl,e1,e2⟩:=xc h
 obtain ⟨hl,rfl⟩:=zR e2
 obtain ⟨a,rfl,i,ro⟩:=RepV.refW W r e1
 obtain ⟨C,dx,xs,nc,e,rf⟩:=ro.ins
 rcases rf.look f with ⟨z,_⟩ | ⟨d',u,z,zu,ru⟩
 ·rw [hl] at z;cases z
 ·rw [hl] at z;cases z
  exact ⟨rfl,a,C,dx,xs,u,rfl,nc,e,zu,ru⟩
theorem GV {K:PySem.W.Frag} {ρ:List Addr} {B:Addr->Prop} {H:Hp} {hp hp':Hs} {x d:DV} {v y:V} {z:Unit} (W:WOk K ρ B hp H) (r:RepV K ρ B H x v) (rd:RepV K ρ B H d y) (h:zC c f x d hp=some (z,hp')):∃ a C dx xs,v=.ref a/\ClsN K c C/\H a=some (.ins C dx xs)/\xs.length < 1000/\Gr K ρ B H ρ B (upd H a (.ins C dx (YU f y xs)))/\WOk K ρ B hp' (upd H a (.ins C dx (YU f y xs))):=by
 obtain ⟨n,fs,rfl,e1,e2⟩:=xc h
 obtain ⟨_,hp1,e3,e4⟩:=Qf e2
 obtain ⟨hl,rfl⟩:=QH e3
 cases e4
 obtain ⟨a,rfl,i,ro⟩:=RepV.refW W r e1
 obtain ⟨C,dx,xs,nc,e,rf⟩:=ro.ins
 obtain ⟨g,W'⟩:=Qct W i nc e (rf.put f rd)
 exact ⟨a,C,dx,xs,rfl,nc,e,by rw [<- rf.len];exact of_decide_eq_true hl,g,W'⟩
theorem Qv (hk:X4 X.K c f) (ho:DE X o fo) (hb:attributeBase o f X.env (eval o X.env)=eval o X.env:=by rfl):DE X (.Attribute o f pos) (Qx c f fo) :=
 L2.PE.imp (Qe4 ho hb) fun σ H Q ⟨Z,env,ρ,B,hp,d,hp',S,e,k⟩=>by
  obtain ⟨x,hp1,e1,e2⟩:=Qf e
  refine tD.run S e1 fun v ρ1 B1 H1 g1 S1 r1=>?_
  obtain ⟨rfl,a,C,dx,xs,u,rfl,nc,ea,hl,ru⟩:=Gq S1.wo r1 e2
  obtain ⟨C',nc',cl,na⟩:=hk.ex
  obtain rfl:=nc.uniq nc'
  exact ⟨a,C,dx,xs,u,rfl,ea,cl,na,hl,k u ρ1 B1 H1 g1 S1.wo ru⟩
theorem Zd (hk:X4 X.K c f) (ho:DE X o fo) (hv:DE X value fv) (hs:swapsWith value (some (.Attribute o f pos')) pos.line X.env=pure false:=by rfl):DS X (.Assign [.Attribute o f pos'] value pos) (Q1 c f fo fv) :=
 L2.PS.imp (Qfn ho hv hs) fun D σ H ⟨Z,env,ρ,B,hp,fl,env',hp',S,e,k⟩=>by
  obtain ⟨y,hp1,e1,e⟩:=Qf e
  obtain ⟨x,hp2,e2,e⟩:=Qf e
  obtain ⟨z,hp3,e3,e⟩:=Qf e
  obtain ⟨q,rfl⟩:=Qj e
  cases q
  refine tD.run S e1 fun u ρ1 B1 H1 g1 S1 r1=>tD.run S1 e2 fun v ρ2 B2 H2 g2 S2 r2=>?_
  obtain ⟨a,C,dx,xs,rfl,nc,ea,hl,g,W⟩:=GV S2.wo r2 (RepV.grow S1.wo.rb g2 _ _ r1) e3
  obtain ⟨C',nc',cl,na⟩:=hk.ex
  obtain rfl:=nc.uniq nc'
  exact ⟨a,C,dx,xs,rfl,ea,cl,na,hl,k σ ρ2 B2 _ ((g1.trans (g2.trans g)).gs S.wo.rb) (S2.grow g W)⟩
theorem zL (hk:X4 X.K c f) (ho:DE X o fo) (hv:DE X value fv):DS X (.AugAssign (.Attribute o f tpos) .Add value pos) (Xw c f Yk fo fv) :=
 L2.PS.imp (Qak ho hv Qez) fun D σ H ⟨Z,env,ρ,B,hp,fl,env',hp',S,e,k⟩=>by
  obtain ⟨x,hp1,e1,e⟩:=Qf e
  obtain ⟨v,hp2,e2,e⟩:=Qf e
  obtain ⟨y,hp3,e3,e⟩:=Qf e
  obtain ⟨z,hp4,e4,e⟩:=Qf e
  obtain ⟨_,hp5,e5,e⟩:=Qf e
  obtain ⟨q,rfl⟩:=Qj e
  cases q
  refine tD.run S e1 fun vx ρ1 B1 H1 g1 S1 r1=>?_
  obtain ⟨rfl,a,C,dx,xs,u,rfl,nc,ea,hl,ru⟩:=Gq S1.wo r1 e2
  obtain ⟨C',nc',cl,na⟩:=hk.ex
  obtain rfl:=nc.uniq nc'
  refine ⟨a,C,dx,xs,u,rfl,ea,cl,na,hl,tD.run S1 e3 fun w ρ2 B2 H2 g2 S2 r2=>?_⟩
  have ru2:=RepV.grow S1.wo.rb g2 _ _ ru
  have r12:=RepV.grow S1.wo.rb g2 _ _ r1
  unfold Yk at e4
  split at e4
  ·obtain ⟨rfl,rfl⟩:=Qj e4
   refine ⟨_,_,ru2.intI,r2.intI,?_⟩
   obtain ⟨a',C2,dx',xs',q1,nc2,ea',hl',g,W⟩:=GV S2.wo r12 JM e5
   cases q1
   obtain rfl:=nc2.uniq nc
   exact ⟨dx',xs',ea',hl',k σ ρ2 B2 _ ((g1.trans (g2.trans g)).gs S.wo.rb) (S2.grow g W)⟩
  ·cases e4
theorem Qbr {C:Addr} {n:Nat} {F:List DV->M DV} {fa:DAx} {σ:St} {H:Hp} {Q:VK} (nc:ClsN X.K c C) (h:tD X.K (Qu c m n F fo fa) σ H Q):Qcj C m (spD X.K n F) [] E0 (tD X.K fo) (tDA X.K fa) σ H Q:=by
 obtain ⟨Z,env,ρ,B,hp,d,hp',S,e,k⟩:=h
 obtain ⟨x,hp1,e1,e⟩:=Qf e
 obtain ⟨_,hp2,e2,e⟩:=Qf e
 obtain ⟨ds,hp3,e3,e⟩:=Qf e
 obtain ⟨_,hp4,e4,ef⟩:=Qf e
 obtain ⟨hl,rfl⟩:=QH e4
 refine tD.run S e1 fun v ρ1 B1 H1 g1 S1 r1=>?_
 obtain ⟨i,fs,rfl,w1,w2⟩:=xc e2
 obtain ⟨hn,rfl⟩:=QH w2
 obtain ⟨a,rfl,_,ro⟩:=RepV.refW S1.wo r1 w1
 obtain ⟨C',dx,xs,nc',ea,rf⟩:=ro.ins
 obtain rfl:=nc'.uniq nc
 have hx:xs.lookup m=none:=by
  rcases rf.look m with ⟨_,z⟩ | ⟨_,_,z,_,_⟩
  ·exact z
  ·rw [z] at hn;cases hn
 refine ⟨a,dx,xs,rfl,ea,hx,tDA.run S1 e3 fun vs ρ2 B2 H2 g2 S2 r2=>?_⟩
 refine ⟨?_,ρ2,B2,hp3,_,d,hp',S2.wo,?_,ef,k.after (g1.trans g2)⟩
 ·rw [List.append_nil,List.length_cons,<- r2.length];exact of_decide_eq_true hl
 ·rw [List.append_nil];exact RepL.cons (RepV.grow S1.wo.rb g2 _ _ r1) r2
theorem Za {k j n:Nat} {F:List DV->M DV} {es:List Expr} {fa:DAx} {pl:Sem Bool} (h:J9 X.prog X.w X.K X.mg X.base c m j n F) (hr:Room k X.A) (hj:j<=k) (hx:YN CX0 X E0) (ho:DE X o fo) (ha:DA X (e::es) fa)
  (hst:starEach (e::es) X.env=(false,eval e X.env)::starEach es X.env:=by rfl) (hpl:(backTo pos (starEach es X.env)).any (·.1)=false:=by rfl)
  (ht:eval (.Call (.Attribute o m apos) (e::es) [] pos) X.env=(do
   let ov <- eval o X.env
   standAt apos.atName
   let (f,first) <- holding [ov] (getMethod ov m pl)
   callWith pos f first (backTo pos (starEach (e::es) X.env)) (backToKw pos (keywordEach [] X.env))):=by rfl):DE X (.Call (.Attribute o m apos) (e::es) [] pos) (Qu c m n F fo fa):=by
 obtain ⟨C,g,fd,ps,nc,cl,hm,F',hb⟩:=h.ex
 exact L2.PE.imp (Qdc (pl:=pl) ho cl hm F' (hr.mono hj) hb .nil hx ha hst hpl ht) fun σ H Q q=>Qbr nc q
theorem Zn {k j n:Nat} {F:List DV->M DV} {pl:Sem Bool} (h:J9 X.prog X.w X.K X.mg X.base c m j n F) (hr:Room k X.A) (hj:j<=k) (hx:YN CX0 X E0) (ho:DE X o fo)
  (ht:eval (.Call (.Attribute o m apos) [] [] pos) X.env=(do
   let ov <- eval o X.env
   standAt apos.atName
   let (f,first) <- holding [ov] (getMethod ov m pl)
   callWith pos f first (backTo pos (starEach [] X.env)) (backToKw pos (keywordEach [] X.env))):=by rfl):DE X (.Call (.Attribute o m apos) [] [] pos) (Qu c m n F fo Qm):=by
 obtain ⟨C,g,fd,ps,nc,cl,hm,F',hb⟩:=h.ex
 refine L2.PE.imp (QbI (pl:=pl) ho cl hm F' (hr.mono hj) hb .nil hx ht) fun σ H Q q=>?_
 obtain ⟨Z,env,ρ,B,hp,d,hp',S,e,k⟩:=q
 obtain ⟨x,hp1,e1,e⟩:=Qf e
 obtain ⟨_,hp2,e2,e⟩:=Qf e
 obtain ⟨ds,hp3,e3,e⟩:=Qf e
 obtain ⟨_,hp4,e4,ef⟩:=Qf e
 obtain ⟨hl,rfl⟩:=QH e4
 obtain ⟨rfl,rfl⟩:=Qj e3
 refine tD.run S e1 fun v ρ1 B1 H1 g1 S1 r1=>?_
 obtain ⟨i,fs,rfl,w1,w2⟩:=xc e2
 obtain ⟨hn,rfl⟩:=QH w2
 obtain ⟨a,rfl,_,ro⟩:=RepV.refW S1.wo r1 w1
 obtain ⟨C',dx,xs,nc',ea,rf⟩:=ro.ins
 obtain rfl:=nc'.uniq nc
 have hx:xs.lookup m=none:=by
  rcases rf.look m with ⟨_,z⟩ | ⟨_,_,z,_,_⟩
  ·exact z
  ·rw [z] at hn;cases hn
 exact ⟨a,dx,xs,rfl,ea,hx,of_decide_eq_true hl,ρ1,B1,hp1,_,d,hp',S1.wo,RepL.cons r1 RepL.nil,ef,k.after g1⟩
theorem Qao {k:Nat} {C g:Addr} {fd:FuncData} {ps:List Str} {sp:Sp} {pins:List (Addr×Obj)} {σ:St} {H:Hp} {s:Shared} {Q:VK} {us:List Value} {vs:List V} (M:Mk X.K C g) (F:qX X.prog X.w X.K X.mg X.base CX0 k g fd ps sp) (hr:Room (k+1) X.A) (hb:Binds X.K fd ps [])
    (hx:YN CX0 X E0) (I:Inv X pins σ H s) (r:Vals vs us)
    (h:∀ x dx,H x=none->H dx=none->dx≠x->X.K.lookup x=none->sp (.ref x::vs) (upd (upd H dx (.own x)) x (.ins C dx [])) (fun v H2=>v=.non/\Q (.ref x) H2) E0) :
    wpAny (model X.prog X.w) X.A (call (.ref C) us) (EP X pins σ Q) X.xe s:=by
  have kf:X.K.lookup (s.heap.objs.size+1)=none:=by
    cases q:X.K.lookup (s.heap.objs.size+1) with
    | none=>rfl
    | some o=>exact absurd (Heap.lt_size (I.kIn _ _ q)) (Nat.not_lt.mpr (Nat.le_succ _))
  have hq:=h _ _ (I.hok.fresh (Nat.le_succ _)) (I.hok.fresh (Nat.le_refl _)) (Nat.ne_of_lt (Nat.lt_succ_self _)) kf
  have J:=Inv.made (C:=C) I
  have rr:Vals (V.ref (s.heap.objs.size+1)::vs) (Value.ref (s.heap.objs.size+1)::us):=.cons rfl r
  have ll:((Value.ref (s.heap.objs.size+1)::us)++[]).length=ps.length:=by
    rw [List.append_nil,<- rr.length];exact F.len _ _ _ _ hq
  have bb:=hb _ (Value.ref (s.heap.objs.size+1)::us) J.kIn ll
  rw [List.append_nil] at bb
  refine wpAny_call (Qbp (f:=g) I.kIn M.makes M.init (beq_iff_eq.mp M.fn) (codeAny_mono (F.run _ X.stack _ _ ⟨Value.ref (s.heap.objs.size+1)::us,[]⟩ _ _ _ E0 (hr.make C us []) (J.env0.make C us []) bb rr hq) fun q s' z=>?_))
  cases q with
  | error e=>exact hx pins σ _ _ e s' J z
  | ok fl =>
    cases fl with
    | ret u =>
      obtain ⟨v,H',I3,rv,ev,q3⟩:=J.after z
      subst ev
      exact ⟨rv,⟨V.ref (s.heap.objs.size+1),H',I3,rfl,q3⟩⟩
    | next=>exact z.elim
    | brk=>exact z.elim
    | cont=>exact z.elim
theorem Qbo {C:Addr} {n:Nat} {F:List DV->M DV} {vs:List V} {K:PySem.W.Frag} {ρ:List Addr} {B:Addr->Prop} {hp hp':Hs} {H:Hp} {ds:List DV} {d:DV} {Q:VK} (nc:ClsN K c C) (hl:ds.length+1=n) (W:WOk K ρ B hp H) (r:RepL K ρ B H ds vs)
  (e:(do let x <- XS (.ins c []);let r <- F (x::ds);match r with | .non=>pure x | _=>failure:M DV) hp=some (d,hp')) (k:Fol K ρ B H d hp' Q) :
  ∀ x dx,H x=none->H dx=none->dx≠x->K.lookup x=none->spD K n F (.ref x::vs) (upd (upd H dx (.own x)) x (.ins C dx [])) (fun v H2=>v=.non/\Q (.ref x) H2) E0:=by
 intro x dx hx hdx ne kf
 have e1:F (.ref hp.length::ds) (hp++[.ins c []])=some (.non,hp')/\d=.ref hp.length:=by
  obtain ⟨y,hp1,a1,a2⟩:=Qf e
  cases a1
  obtain ⟨y,hp2,a3,a4⟩:=Qf a2
  cases y with
  | non=>obtain ⟨rfl,rfl⟩:=Qj a4;exact ⟨a3,rfl⟩
  | bl _=>cases a4
  | int _=>cases a4
  | str _=>cases a4
  | tup _=>cases a4
  | lst _=>cases a4
  | ref _=>cases a4
 obtain ⟨e1,rfl⟩:=e1
 have hx':upd H dx (.own x) x=none:=by rw [Q0 (Ne.symm ne)];exact hx
 have g0:Gr K ρ B H ρ B (upd H dx (.own x)):=Gr.laid hdx
 have g1:Gr K ρ B (upd H dx (.own x)) (ρ++[x]) (yN B x) (upd (upd H dx (.own x)) x (.ins C dx [])):=Gr.wnew hx' kf
 have W1:WOk K (ρ++[x]) (yN B x) (hp++[.ins c []]) (upd (upd H dx (.own x)) x (.ins C dx [])):=(W.laid hdx).wnew hx' kf (RepF.orep nc .nil Zj)
 have rx:RepV K (ρ++[x]) (yN B x) (upd (upd H dx (.own x)) x (.ins C dx [])) (.ref hp.length) (.ref x):=by
  unfold RepV
  exact ⟨x,rfl,by rw [<- W.len];simp⟩
 refine ⟨?_,ρ++[x],yN B x,hp++[.ins c []],.ref hp.length::ds,.non,hp',W1,RepL.cons rx (RepL.grow W.rb (g0.trans g1) _ _ r),e1,fun v ρ' B' H' g' W' r'=>?_⟩
 ·rw [List.length_cons,<- r.length];exact hl
 ·exact ⟨r'.nonI,k _ ρ' B' H' ((g0.trans g1).trans g') W' (RepV.grow W1.rb g' _ _ rx)⟩
theorem jR {k j n:Nat} {F:List DV->M DV} {es:List Expr} {fa:DAx} {p:Pos} (h:gR X.prog X.w X.K X.mg X.base c j n F) (hr:Room k X.A) (hj:j+1<=k) (hx:YN CX0 X E0) (ha:DA X (e::es) fa) (hg:Gl X c:=by rfl)
  (hdb:(c==("__debug__" : Str))=false:=by decide) (he:starEach (e::es) X.env=(false,eval e X.env)::starEach es X.env:=by rfl) (hpl:(backTo pos (starEach es X.env)).any (·.1)=false:=by rfl):DE X (.Call (.Name c p) (e::es) [] pos) (Jn c n F fa):=by
 obtain ⟨C,g,fd,ps,nc,hm,M,F',hb⟩:=h.ex
 intro pins s σ H Q I q
 obtain ⟨Z,env,ρ,B,hp,d,hp',S,e,k⟩:=q
 obtain ⟨ds,hp1,e1,e2⟩:=Qf e
 obtain ⟨_,hp2,e3,e4⟩:=Qf e2
 obtain ⟨hl,rfl⟩:=QH e3
 refine wpAny_Call_Name_kw (KF I hg hm ?_ hdb)
 refine PySem.W.callWith_K (h₀:=X.base) I.ok.mod.kin M.kp (thn (ha pos pins s σ H _ I (tDA.run S e1 fun vs ρ1 B1 H1 g1 S1 r1=>Qbo (Q:=Q) nc (of_decide_eq_true hl) S1.wo r1 e4 (k.after g1))) fun us s1 ⟨vs,H1,I1,r,q⟩=>⟨I1.kIn,?_⟩) he hpl
 exact Qao M F' (hr.mono hj) hb hx I1 r q
end
theorem Qa1 {P:Program} {w:World} {K:PySem.W.Frag} {mg:Str->Option Value} {base:Heap} {x qual:Str} {stm:Stmt} {g:Addr} {fd:FuncData} {N ps:List Str} {k:Nat} {body:DSx} (F:Fun K x qual stm g fd) (Sc:Qt N ps (Qo stm))
  (h:∀ (cdv:Value) (A:Around) (outer:List Env) (s:Shared) (H:Hp) (E:XK),Room k (A.deeper (envOfC qual (Qo stm) s.heap.objs.size g cdv))->DSs (yO CX0 P w K mg base N qual (Qo stm) g cdv A outer s H E).nox (ZH stm) body) :
  qX P w K mg base CX0 (k+1) g fd ps (spD K ps.length (Q5 N.length body)):=by
 refine F.ok Sc (fun vs H Q E h=>h.1) (fun cdv A outer s H vs Q E hr sp=>?_)
 obtain ⟨hn,ρ,B,hp,ds,d,hp',W,r,e,k⟩:=sp
 obtain ⟨⟨fl,env'⟩,hp1,e1,e2⟩:=Qf e
 refine ⟨_,h cdv A outer s H E hr,⟨ρ,B,H⟩,_,ρ,B,hp,fl,env',hp1,yc W r,e1,fun σ' ρ' B' H' g' S'=>?_⟩
 cases fl with
 | nx=>obtain ⟨rfl,rfl⟩:=Qj e2;exact k .non ρ' B' H' S'.gr S'.wo zS
 | rt x=>obtain ⟨rfl,rfl⟩:=Qj e2;exact fun v rv=>k v ρ' B' H' S'.gr S'.wo rv
 | bk=>cases e2
 | ct=>cases e2
theorem Qbq {P:Program} {w:World} {K:PySem.W.Frag} {mg:Str->Option Value} {base:Heap} {c m qual:Str} {stm:Stmt} {C g:Addr} {fd:FuncData} {N ps:List Str} {k:Nat} {body:DSx} (nc:ClsN K c C) (cl:Cls K C) (me:vh K C m g) (F:Fun K m qual stm g fd) (Sc:Qt N ps (Qo stm))
  (hb:∀ (kV doc pm:Value) (an:Option Addr) (cdv ct:Value) (us:List Value),us.length=ps.length->bindArgs (PySem.W.fnOf m qual (JI stm) (ZH stm) (Qo stm) .none kV doc pm an cdv ct) ⟨us,[]⟩=pure (ps.zip us))
  (h:∀ (cdv:Value) (A:Around) (outer:List Env) (s:Shared) (H:Hp) (E:XK),Room k (A.deeper (envOfC qual (Qo stm) s.heap.objs.size g cdv))->DSs (yO CX0 P w K mg base N qual (Qo stm) g cdv A outer s H E).nox (ZH stm) body) :
  J9 P w K mg base c m (k+1) ps.length (Q5 N.length body):=⟨C,g,fd,ps,nc,cl,me,Qa1 F Sc h,F.binds hb⟩
theorem Qa9 {P:Program} {w:World} {K:PySem.W.Frag} {mg:Str->Option Value} {base:Heap} {c qual:Str} {stm:Stmt} {C g:Addr} {fd:FuncData} {N ps:List Str} {k:Nat} {body:DSx} (nc:ClsN K c C) (hm:mg c=some (.ref C)) (me:Mk K C g) (F:Fun K "__init__" qual stm g fd) (Sc:Qt N ps (Qo stm))
  (hb:∀ (kV doc pm:Value) (an:Option Addr) (cdv ct:Value) (us:List Value),us.length=ps.length->bindArgs (PySem.W.fnOf "__init__" qual (JI stm) (ZH stm) (Qo stm) .none kV doc pm an cdv ct) ⟨us,[]⟩=pure (ps.zip us))
  (h:∀ (cdv:Value) (A:Around) (outer:List Env) (s:Shared) (H:Hp) (E:XK),Room k (A.deeper (envOfC qual (Qo stm) s.heap.objs.size g cdv))->DSs (yO CX0 P w K mg base N qual (Qo stm) g cdv A outer s H E).nox (ZH stm) body) :
  gR P w K mg base c (k+1) ps.length (Q5 N.length body):=⟨C,g,fd,ps,nc,hm,me,Qa1 F Sc h,F.binds hb⟩
section
variable {X:Cx}
def Qb0:DSx:=fun _=>failure
theorem uH {st:Stmt}:DS X st Qb0:=L2.PS.imp QbR fun D σ H ⟨Z,env,ρ,B,hp,fl,env',hp',S,e,k⟩=>by cases e
def VA (i:Nat) (op:DV->DV->M DV) (fe:DEx):DSx:=fun env=>do let v <- Qb i env;let y <- fe env;let z <- op v y;pure (.nx,env.set i (.val z))
theorem gY {v y z:DV} {hp hp':Hs} (h:Yk v y hp=some (z,hp')):∃ a b,v=.int a/\y=.int b/\z=.int (a+b)/\hp=hp':=by
 unfold Yk at h
 split at h
 ·obtain ⟨rfl,rfl⟩:=Qj h;exact ⟨_,_,rfl,rfl,rfl,rfl⟩
 ·cases h
end
end D
namespace D
open PySem PySem.Spec PyProof.Rows L2
theorem Jr {α β:Type} (m:M α) (k:α->M β) (hp:Hs):(m >>= k) hp=(m hp).bind fun p=>k p.1 p.2:=by
 show (StateT.bind m k hp)=_
 unfold StateT.bind
 cases m hp with
 | none=>rfl
 | some p=>obtain ⟨a,h⟩:=p;rfl
theorem Xm {α β:Type} (f:α->β) (m:M α) (hp:Hs):(f <$> m) hp=(m hp).map fun p=>(f p.1,p.2):=by
 show (StateT.map f m hp)=_
 unfold StateT.map
 cases m hp with
 | none=>rfl
 | some p=>obtain ⟨a,h⟩:=p;rfl
theorem Jt {α:Type} (a:α) (hp:Hs):(pure a:M α) hp=some (a,hp):=rfl
theorem JS {α:Type} (hp:Hs):(failure:M α) hp=none:=rfl
theorem Js (b:Bool) (hp:Hs):Qw b hp=if b=true then some ((),hp) else none:=by cases b<;>rfl
theorem Xl (n:Nat) (hp:Hs):Z3 n hp=(hp[n]?).map fun o=>(o,hp):=by unfold Z3;cases hp[n]?<;>rfl
theorem Xo (n:Nat) (o:OV) (hp:Hs):xu n o hp=some ((),hp.set n o):=rfl
theorem Xn (o:OV) (hp:Hs):XS o hp=some (.ref hp.length,hp++[o]):=rfl
theorem Ze (hp:Hs) (k:Nat) (X:OV) (h:(hp[k]?).isSome=true):(hp.set k X)[k]?=some X:=by
 have:k < hp.length:=by
  rcases Nat.lt_or_ge k hp.length with q | q
  ·exact q
  ·rw [List.getElem?_eq_none q] at h;cases h
 rw [List.getElem?_set_self this]
theorem QI (hp:Hs) (k n:Nat) (X:OV) (h:k≠n):(hp.set k X)[n]?=hp[n]?:=List.getElem?_set_ne h
theorem Z1 (hp:Hs) (X:OV):(hp++[X])[hp.length]?=some X:=by simp
end D
namespace D
open PySem PySem.Spec PyProof.Rows L2
mutual
def KRep (K:PySem.W.Frag):DV->V->Prop
 | .non,v=>v=.non
 | .bl b,v=>v=.bl b
 | .int i,v=>v=.int i
 | .str x,v=>v=.str x
 | .tup ds,v=>∃ (a:Addr) (o:Obj) (its:Array Value) (n:Nat) (xs:List V),v=.ref a/\K.lookup a=some o/\o.cls=.type "tuple" /\ o.data=.seq its n/\its.size<=sizeLine/\Vals xs its.toList/\KRepL K ds xs
 | _,_=>False
def KRepL (K:PySem.W.Frag):List DV->List V->Prop
 | [],xs=>xs=[]
 | d::ds,xs=>∃ x r,xs=x::r/\KRep K d x/\KRepL K ds r
end
mutual
theorem KRep.rep {K:PySem.W.Frag} {ρ:List Addr} {B:Addr->Prop} {H:Hp} (hb:∀ a,B a->K.lookup a=none):∀ (d:DV) (v:V),KRep K d v->RepV K ρ B H d v
  | .non,_,h=>by unfold KRep at h;unfold RepV;exact h
  | .bl _,_,h=>by unfold KRep at h;unfold RepV;exact h
  | .int _,_,h=>by unfold KRep at h;unfold RepV;exact h
  | .str _,_,h=>by unfold KRep at h;unfold RepV;exact h
  | .lst _,_,h=>by unfold KRep at h;exact h.elim
  | .ref _,_,h=>by unfold KRep at h;exact h.elim
  | .tup ds,_,h=>by
    unfold KRep at h;unfold RepV
    obtain ⟨a,o,its,n,xs,rfl,h1,h2,h3,h4,h5,h6⟩:=h
    exact ⟨a,xs,rfl,fun z=>(by rw [hb a z] at h1;cases h1),.inr ⟨o,its,n,h1,h2,h3,h4,h5⟩,KRepL.rep hb ds xs h6⟩
theorem KRepL.rep {K:PySem.W.Frag} {ρ:List Addr} {B:Addr->Prop} {H:Hp} (hb:∀ a,B a->K.lookup a=none):∀ (ds:List DV) (xs:List V),KRepL K ds xs->RepL K ρ B H ds xs
  | [],_,h=>by unfold KRepL at h;unfold RepL;exact h
  | d::ds,_,h=>by
    unfold KRepL at h;unfold RepL
    obtain ⟨x,r,e,h1,h2⟩:=h
    exact ⟨x,r,e,KRep.rep hb d x h1,KRepL.rep hb ds r h2⟩
end
theorem vI {K:PySem.W.Frag} {ds:List DV} {a:Addr} {od:Option Addr} {its:Array Value} {n:Nat} {sl:Array (Option Value)} {xs:List V} (h:K.lookup a=some ⟨.type "tuple", od,.seq its n,sl⟩) (hs:its.size<=sizeLine) (hv:Vals xs its.toList) (hl:KRepL K ds xs):KRep K (.tup ds) (.ref a):=by
 unfold KRep;exact ⟨a,_,its,n,xs,rfl,h,rfl,rfl,hs,hv,hl⟩
theorem Qbf {K:PySem.W.Frag}:KRep K .non .non:=by unfold KRep;rfl
theorem QeJ {K:PySem.W.Frag} {i:Int}:KRep K (.int i) (.int i):=by unfold KRep;rfl
theorem KB {K:PySem.W.Frag}:KRepL K [] []:=by unfold KRepL;rfl
theorem zo {K:PySem.W.Frag} {d:DV} {ds:List DV} {x:V} {r:List V} (h:KRep K d x) (h':KRepL K ds r):KRepL K (d::ds) (x::r):=by unfold KRepL;exact ⟨x,r,rfl,h,h'⟩
theorem QcF {X:Cx} {x:Str} {ds:List DV} {a:Addr} {pos:Pos} (hg:Gl X x) (hm:X.mg x=some (.ref a)) (hk:KRep X.K (.tup ds) (.ref a)) (hd:(x==("__debug__" : Str))=false:=by decide):DE X (.Name x pos) (eC (.tup ds)) :=
 (gj (v:=.ref a) hg hm rfl hd).imp fun σ H Q ⟨Z,env,ρ,B,hp,d',hp',S,e,k⟩=>by
  obtain ⟨rfl,rfl⟩:=Qj e
  exact k _ ρ B H Gr.refl S.wo (KRep.rep S.wo.bk _ _ hk)
end D
namespace D
open PySem PySem.Spec PyProof.Rows L2
theorem Qa2 (hp:Hs) (x:OV) (t:Hs):(hp++x::t)[hp.length]?=some x:=by simp
theorem Qb4 (hp:Hs) (x y:OV) (t:Hs):(hp++x::t).set hp.length y=hp++y::t:=by
 rw [List.set_append_right _ _ (Nat.le_refl _)];simp
theorem gB {hp:Hs} {n:Nat} {x:OV} (h:hp[n]?=some x):hp.set n x=hp:=by
 obtain ⟨hl,rfl⟩:=List.getElem?_eq_some_iff.mp h
 exact List.set_getElem_self hl
theorem KL {n i:Nat} {d:DV} (h:(Zx 0 n)[i]?=some d):i < n/\d=.int (i:Int):=by
 obtain ⟨h1,h2⟩:=vU h
 exact ⟨h1,by rw [h2];simp⟩
theorem Qap {n:Nat} (h:n<=1000000):VU (n:Int)=true:=Qcf (by omega) (by omega)
theorem Qbv {i:Int} (h:0<=i):∃ j:Nat,i=j:=⟨i.toNat,by omega⟩
theorem uU {n i:Nat} (h:i < n):ixN n (i:Int)=some i:=by unfold ixN;rw [if_pos (by omega),if_pos (by omega)];simp
theorem US {f:DIx} {g:DGx} {body:DSx} {env:En} {hp hp1:Hs} {ds:List DV} {r:(Fl×En)×Hs} (h:f env hp=some (ds,hp1)) (h':Vg (fun d env=>do let env' <- g d env;body env') ds env hp1=some r):Qb1 f g body env hp=some r:=by
 unfold Qb1
 rw [Qg h];exact h'
theorem QdB {m:Nat} (h:m<=1000000) (hp:Hs):Qam [.int (m:Int)] hp=some (Zx 0 m,hp):=by
 have e:Qam [.int (m:Int)]=pure (Zx 0 (m:Int).toNat):=by
  simp only [Qam,Qap h,Qw,if_true,pure_bind]
 rw [e,Int.toNat_natCast];rfl
theorem yU {f:DAx} {env:En} {hp hp1:Hs} {m:Nat} (h:f env hp=some ([.int (m:Int)],hp1)) (hm:m<=1000000):yQ f env hp=some (Zx 0 m,hp1):=by
 unfold yQ
 rw [Qg h];exact QdB hm hp1
end D
namespace D
open PySem PySem.Spec PyProof.Rows L2
section
variable {X:Cx}
def xa (x:DV):List DV->M DV
 | [y]=>onL x fun n ds=>onL y fun _ es=>do Qw (decide (ds.length+es.length<=lim));xu n (.lst (ds++es));pure .non
 | _=>failure
theorem Qbn:MtR X "list.extend" (tPm X.K xa):=by
 intro pins s σ H x vs v us Q I rx rv h
 obtain ⟨ρ,B,hp,dx,es,d,hp',W,r1,r2,e,k⟩:=h
 unfold xa at e
 split at e
 ·rename_i y
  obtain ⟨n,ds,rfl,h0,e⟩:=Vr e
  obtain ⟨m,zs,rfl,h0',e⟩:=Vr e
  obtain ⟨_,hp1,e1,e2⟩:=Qf e
  obtain ⟨hl,rfl⟩:=QH e1
  cases e2
  obtain ⟨a,rfl,i1,xs,h1,l1⟩:=RepV.refW W r1 h0
  obtain ⟨w,rfl,rw'⟩:=r2.oneI
  obtain ⟨b,rfl,i2,ys,h2,l2⟩:=RepV.refW W rw' h0'
  obtain ⟨g,W'⟩:=V2 W i1 h1 (RepL.append l1 l2)
  exact kY pins s σ H _ _ v us Q I rx rv ⟨a,b,xs,ys,rfl,rfl,h1,h2,by rw [<- l1.length,<- l2.length];exact Nat.le_trans (of_decide_eq_true hl) KG,k _ ρ B _ g W' zS⟩
 ·cases e
end
end D
namespace L2
open PySem PySem.Spec PyProof.Rows
abbrev XR (h:Heap) (z p o:Addr) (f:Value) (b:Bool):Prop:=h.get? z=some { cls:=Value.type "zip", data:=Data.fields #[f,Value.bool b,Value.bool false,Value.ref p,Value.ref o] }
structure ZU (h:Heap) (z p o i j a b:Addr) (n:Nat):Prop where
 zz:∃ f fl,XR h z p o f fl/\(f=.none∨∃ T:Nat,f=rawInt T)
 pp:IsPair h p (.ref i) (.ref j)
 oo:∃ x y,IsPair h o x y
 ii:h.IsTupleIter i a n
 jj:h.IsTupleIter j b n
section
variable {prog:Program} {w:World} {A:Around} {E:Value->Shared->Prop} {s:Shared}
theorem ve {a:Addr} {Q:Option Obj->Shared->Prop} (h:Q (s.heap.get? a) s):wpAny (model prog w) A (loadIfAlive a) Q E s:=by
 intro Γ p hΓ
 unfold loadIfAlive
 rw [Sem.wp_loadIfAlive]
 exact wpAny_pure (M:=model prog w) (A:=A) (E:=E) h Γ p hΓ
theorem gP {z p o:Addr} {f:Value} {fl:Bool} {Q:Bool->Shared->Prop} (zz:XR s.heap z p o f fl) (hf:f=.none∨∃ T:Nat,f=rawInt T) (q1:Q true s) (q2:∀ g,XR g z p o f true->Heap.ExtBut z s.heap g->g.objs.size=s.heap.objs.size->Q false { s with heap:=g }) :
    wpAny (model prog w) A (Builtin.SmallTypes.ownedTupleIsFree (.ref z)) Q E s:=by
  unfold Builtin.SmallTypes.ownedTupleIsFree
  rcases hf with rfl | ⟨T,rfl⟩
  . exact wpAny_bind (wpAny_field zz rfl (x:=.none) rfl (wpAny_pure q1))
  . refine wpAny_bind (wpAny_field zz rfl (x:=rawInt T) rfl ?_)
    show wpAny _ _ (loadIfAlive (T:Int).toNat >>= _) _ _ _
    refine wpAny_bind (ve ?_)
    cases hT:s.heap.get? (T:Int).toNat with
    | none=>exact wpAny_pure q1
    | some ob =>
      show wpAny _ _ (field (.ref z) 1 >>= _) _ _ _
      refine wpAny_bind (wpAny_field zz rfl (x:=.bool fl) rfl ?_)
      cases fl with
      | true=>exact wpAny_pure (q2 _ zz (fun _ _ _ e=>e) rfl)
      | false =>
        show wpAny _ _ (setField (.ref z) 1 (.bool true) >>= _) _ _ _
        exact wpAny_bind (wpAny_setField_rec zz (by simp) fun g z1 k1=>wpAny_pure (q2 g z1 k1.extBut k1.1))
theorem QdV {z p o i j a b:Addr} {n:Nat} {xs ys:Array Value} {x y:Value} {Q:Value->Shared->Prop} (D:ZA z p o i j a b) (S:ZU s.heap z p o i j a b n) (ha:s.heap.IsTuple a xs) (hb:s.heap.IsTuple b ys) (hx:xs[n]?=some x) (hy:ys[n]?=some y)
  (k:∀ g,ZU g z p o i j a b (n+1)->IsPair g s.heap.objs.size x y->g.objs.size=s.heap.objs.size+1->(∀ c u,c≠z->c≠o->c≠i->c≠j->s.heap.get? c=some u->g.get? c=some u)->Q (.ref s.heap.objs.size) { s with heap:=g }) :
  wpAny (model prog w) A (Builtin.«zip.__next__» ⟨[.ref z],[]⟩) (fun fin s'=>∃ v,fin=.done (.ret v)/\Q v s') E s:=by
 obtain ⟨⟨f,fl,zz,hf⟩,pp,⟨u1,u2,oo⟩,ii,jj⟩:=S
 have ht:∀ {g g':Heap} {q c:Addr} {vs:Array Value},Heap.SameBut q g g'->c≠q->g.IsTuple c vs->g'.IsTuple c vs:=fun {g g' q c vs} sb hc ⟨ob,e,r⟩=>⟨ob,sb.extBut _ _ hc e,r⟩
 show wpAny _ _ (field (.ref z) 2 >>= _) _ _ _
 refine wpAny_bind (wpAny_field zz rfl (x:=.bool false) rfl ?_)
 show wpAny _ _ (field (.ref z) 3 >>= _) _ _ _
 refine wpAny_bind (wpAny_field zz rfl (x:=.ref p) rfl ?_)
 refine wpAny_bind (wpAny_seqItems pp rfl ?_)
 show wpAny _ _ (Builtin.SmallTypes.ownedTupleIsFree (.ref z) >>= _) _ _ _
 refine wpAny_bind (gP zz hf ?_ ?_)
 ·simp only [if_true]
  refine wpAny_bind (wpAny_rule ?_)
  refine wpAny_bind (wpAny_field zz rfl (x:=.ref o) rfl ?_)
  refine wpAny_bind (wpAny_setField_rec zz (by simp) fun g1 z1 k1=>?_)
  replace z1:XR g1 z p o .ellipsis fl:=z1
  refine wpAny_bind ?_
  simp only [List.zipIdx_cons,List.zipIdx_nil,List.forIn_cons,List.forIn_nil]
  refine wpAny_bind (wpAny_bind (wpAny_onRaise ?_))
  show wpAny _ _ (Builtin.SmallTypes.nextOf (.ref i) >>= _) _ _ _
  refine wpAny_bind (Yb (ii.extBut k1.extBut D.iz) (ht k1 D.az ha) hx fun g2 i2 k2=>wpAny_pure ?_)
  have o2:IsPair g2 o u1 u2:=k2.extBut _ _ D.oi (k1.extBut _ _ D.oz oo)
  refine wpAny_bind (wpAny_seqItems o2 rfl ?_)
  refine wpAny_bind (wpAny_updateSeq_pair o2 fun g3 o3 k3=>?_)
  replace o3:IsPair g3 o x u2:=o3
  refine wpAny_bind (wpAny_letGo (wpAny_pure ?_))
  refine wpAny_bind (wpAny_bind (wpAny_onRaise ?_))
  show wpAny _ _ (Builtin.SmallTypes.nextOf (.ref j) >>= _) _ _ _
  refine wpAny_bind (Yb (((jj.extBut k1.extBut D.jz).extBut k2.extBut D.ij.symm).extBut k3.extBut D.oj.symm) (ht k3 D.bo (ht k2 D.bi (ht k1 D.bz hb))) hy fun g4 j4 k4=>wpAny_pure ?_)
  have o4:IsPair g4 o x u2:=k4.extBut _ _ D.oj o3
  refine wpAny_bind (wpAny_seqItems o4 rfl ?_)
  refine wpAny_bind (wpAny_updateSeq_pair o4 fun g5 o5 k5=>?_)
  replace o5:IsPair g5 o x y:=o5
  refine wpAny_bind (wpAny_letGo (wpAny_pure (wpAny_pure ?_)))
  refine wpAny_bind (wpAny_seqItems o5 rfl ?_)
  refine wpAny_bind (wpAny_newTuple ?_)
  have sz:g5.objs.size=s.heap.objs.size:=by rw [k5.1,k4.1,k3.1,k2.1,k1.1]
  have z5:XR g5 z p o .ellipsis fl:=k5.extBut _ _ D.oz.symm (k4.extBut _ _ D.jz.symm (k3.extBut _ _ D.oz.symm (k2.extBut _ _ D.iz.symm z1)))
  have kk:∀ c u,c≠z->c≠o->c≠i->c≠j->s.heap.get? c=some u->g5.get? c=some u:=fun c u c1 c2 c3 c4 e=>k5.extBut _ _ c2 (k4.extBut _ _ c4 (k3.extBut _ _ c2 (k2.extBut _ _ c3 (k1.extBut _ _ c1 e))))
  have i5:g5.IsTupleIter i a (n+1):=((i2.extBut k3.extBut D.oi.symm).extBut k4.extBut D.ij).extBut k5.extBut D.oi.symm
  have j5:g5.IsTupleIter j b (n+1):=j4.extBut k5.extBut D.oj.symm
  have zl:z < g5.objs.size:=Heap.lt_size z5
  show wpAny _ _ (Builtin.SmallTypes.ownedTupleHandOut (.ref z) (.ref g5.objs.size) >>= _) _ _ _
  refine wpAny_bind ?_
  unfold Builtin.SmallTypes.ownedTupleHandOut
  have z6:XR (g5.push { cls:=.type "tuple", data:=.seq #[x,y] }) z p o .ellipsis fl:=Heap.get?_push_of_some _ z5
  refine wpAny_bind (wpAny_setField_rec z6 (by simp) fun g7 z7 k7=>?_)
  replace z7:XR g7 z p o (rawInt g5.objs.size) fl:=z7
  refine wpAny_setField_rec z7 (by simp) fun g8 z8 k8=>?_
  replace z8:XR g8 z p o (rawInt g5.objs.size) false:=z8
  have up:∀ c u,c≠z->g5.get? c=some u->g8.get? c=some u:=fun c u c1 e=>k8.extBut _ _ c1 (k7.extBut _ _ c1 (Heap.get?_push_of_some _ e))
  have t8:IsPair g8 g5.objs.size x y:=k8.extBut _ _ (Nat.ne_of_gt zl) (k7.extBut _ _ (Nat.ne_of_gt zl) (Heap.get?_push_size _ rfl))
  have s8:g8.objs.size=g5.objs.size+1:=by rw [k8.1,k7.1,Heap.size_push]
  refine wpAny_pure ⟨_,rfl,?_⟩
  show Q (.ref g5.objs.size) _
  rw [sz] at z8 t8 s8
  rw [sz]
  exact k g8 ⟨⟨_,_,z8,.inr ⟨_,rfl⟩⟩,up _ _ D.pz (kk _ _ D.pz D.po D.pi D.pj pp),⟨x,y,up _ _ D.oz o5⟩,i5.at fun u e=>up _ u D.iz e,j5.at fun u e=>up _ u D.jz e⟩ t8 s8 fun c u c1 c2 c3 c4 e=>up c u c1 (kk c u c1 c2 c3 c4 e)
 ·intro g1 z1 k1 sz1
  simp only [Bool.false_eq_true,if_false]
  refine wpAny_bind ?_
  have ia1:g1.IsTuple a xs:=let ⟨ob,e,r⟩:=ha;⟨ob,k1 _ _ D.az e,r⟩
  have ib1:g1.IsTuple b ys:=let ⟨ob,e,r⟩:=hb;⟨ob,k1 _ _ D.bz e,r⟩
  simp only [List.forIn_toArray,List.forIn_cons,List.forIn_nil]
  refine wpAny_bind (wpAny_bind (wpAny_holding ?_))
  show wpAny _ _ (Builtin.SmallTypes.nextOf (.ref i) >>= _) _ _ _
  refine wpAny_bind (Yb (s:={ s with heap:=g1 }) (ii.extBut k1 D.iz) ia1 hx fun g2 i2 k2=>wpAny_pure (wpAny_pure ?_))
  refine wpAny_bind (wpAny_bind (wpAny_holding ?_))
  show wpAny _ _ (Builtin.SmallTypes.nextOf (.ref j) >>= _) _ _ _
  refine wpAny_bind (Yb (s:={ s with heap:=g2 }) ((jj.extBut k1 D.jz).extBut k2.extBut D.ij.symm) (ht k2 D.bi ib1) hy fun g3 j3 k3=>wpAny_pure (wpAny_pure ?_))
  refine wpAny_pure ?_
  refine wpAny_bind (wpAny_newTuple ?_ (show (2:Nat)<=sizeLine by decide))
  have sz:g3.objs.size=s.heap.objs.size:=by rw [k3.1,k2.1,sz1]
  have kk:∀ c u,c≠z->c≠i->c≠j->s.heap.get? c=some u->(g3.push { cls:=.type "tuple", data:=.seq #[x,y] }).get? c=some u:=fun c u c1 c3 c4 e=>Heap.get?_push_of_some _ (k3.extBut _ _ c4 (k2.extBut _ _ c3 (k1 _ _ c1 e)))
  have z3:XR (g3.push { cls:=.type "tuple", data:=.seq #[x,y] }) z p o f true:=Heap.get?_push_of_some _ (k3.extBut _ _ D.jz.symm (k2.extBut _ _ D.iz.symm z1))
  refine wpAny_pure ⟨_,rfl,?_⟩
  show Q (.ref g3.objs.size) _
  rw [sz]
  refine k _ ⟨⟨f,true,z3,hf⟩,kk _ _ D.pz D.pi D.pj pp,⟨u1,u2,kk _ _ D.oz D.oi D.oj oo⟩,(i2.extBut k3.extBut D.ij).at fun u e=>Heap.get?_push_of_some _ e,j3.at fun u e=>Heap.get?_push_of_some _ e⟩ ?_ (by rw [Heap.size_push,sz]) fun c u c1 _ c3 c4 e=>kk c u c1 c3 c4 e
  rw [<- sz];exact Heap.get?_push_size _ rfl
theorem QdW {z p o i j a b:Addr} {n:Nat} {xs ys:Array Value} {Q:PySem.Fin->Shared->Prop} (hh:A.handled=none) (D:ZA z p o i j a b) (S:ZU s.heap z p o i j a b n) (ha:s.heap.IsTuple a xs) (hb:s.heap.IsTuple b ys) (he:xs[n]?=none∨ys[n]?=none)
    (k:∀ g x,(∀ c u,c≠z->c≠o->c≠i->c≠j->s.heap.get? c=some u->g.get? c=some u)->(∃ u,g.get? x=some u/\u.cls=.type "StopIteration")->E (.ref x) { s with heap:=g }) :
    wpAny (model prog w) A (Builtin.«zip.__next__» ⟨[.ref z],[]⟩) Q E s:=by
  obtain ⟨⟨f,fl,zz,hf⟩,pp,⟨u1,u2,oo⟩,ii,jj⟩:=S
  have ht:∀ {g g':Heap} {q c:Addr} {vs:Array Value},Heap.SameBut q g g'->c≠q->g.IsTuple c vs->g'.IsTuple c vs:=fun {g g' q c vs} sb hc ⟨ob,e,r⟩=>⟨ob,sb.extBut _ _ hc e,r⟩
  show wpAny _ _ (field (.ref z) 2 >>= _) _ _ _
  refine wpAny_bind (wpAny_field zz rfl (x:=.bool false) rfl ?_)
  show wpAny _ _ (field (.ref z) 3 >>= _) _ _ _
  refine wpAny_bind (wpAny_field zz rfl (x:=.ref p) rfl ?_)
  refine wpAny_bind (wpAny_seqItems pp rfl ?_)
  show wpAny _ _ (Builtin.SmallTypes.ownedTupleIsFree (.ref z) >>= _) _ _ _
  refine wpAny_bind (gP zz hf ?_ ?_)
  . simp only [if_true]
    refine wpAny_bind (wpAny_rule ?_)
    refine wpAny_bind (wpAny_field zz rfl (x:=.ref o) rfl ?_)
    refine wpAny_bind (wpAny_setField_rec zz (by simp) fun g1 z1 k1=>?_)
    replace z1:XR g1 z p o .ellipsis fl:=z1
    refine wpAny_bind ?_
    simp only [List.zipIdx_cons,List.zipIdx_nil,List.forIn_cons,List.forIn_nil]
    refine wpAny_bind (wpAny_bind (wpAny_onRaise ?_))
    show wpAny _ _ (Builtin.SmallTypes.nextOf (.ref i) >>= _) _ _ _
    cases hx:xs[n]? with
    | none =>
      refine wpAny_bind (yh hh (ii.extBut k1.extBut D.iz) (ht k1 D.az ha) hx fun g2 x k2 h2=>?_)
      obtain ⟨oe,h3,h4⟩:=h2
      have z2:XR g2 z p o .ellipsis fl:=k2 _ _ D.iz.symm z1
      have xz:x≠z:=fun q=>by subst q;rw [z2] at h3;cases h3;simp at h4
      exact wpAny_setField_rec z2 (by simp) fun g3 _ k3=>k g3 x (fun c u c1 _ c3 _ e=>k3.extBut _ _ c1 (k2 _ _ c3 (k1.extBut _ _ c1 e))) ⟨oe,k3.extBut _ _ xz h3,h4⟩
    | some x0 =>
      have hy:ys[n]?=none:=by rcases he with h | h;rw [hx] at h;cases h;exact h
      refine wpAny_bind (Yb (ii.extBut k1.extBut D.iz) (ht k1 D.az ha) hx fun g2 i2 k2=>wpAny_pure ?_)
      have o2:IsPair g2 o u1 u2:=k2.extBut _ _ D.oi (k1.extBut _ _ D.oz oo)
      refine wpAny_bind (wpAny_seqItems o2 rfl ?_)
      refine wpAny_bind (wpAny_updateSeq_pair o2 fun g3 o3 k3=>?_)
      refine wpAny_bind (wpAny_letGo (wpAny_pure ?_))
      refine wpAny_bind (wpAny_bind (wpAny_onRaise ?_))
      show wpAny _ _ (Builtin.SmallTypes.nextOf (.ref j) >>= _) _ _ _
      refine wpAny_bind (yh hh (((jj.extBut k1.extBut D.jz).extBut k2.extBut D.ij.symm).extBut k3.extBut D.oj.symm) (ht k3 D.bo (ht k2 D.bi (ht k1 D.bz hb))) hy fun g4 x k4 h2=>?_)
      obtain ⟨oe,h3,h4⟩:=h2
      have z4:XR g4 z p o .ellipsis fl:=k4 _ _ D.jz.symm (k3.extBut _ _ D.oz.symm (k2.extBut _ _ D.iz.symm z1))
      have xz:x≠z:=fun q=>by subst q;rw [z4] at h3;cases h3;simp at h4
      exact wpAny_setField_rec z4 (by simp) fun g5 _ k5=>k g5 x (fun c u c1 c2 c3 c4 e=>k5.extBut _ _ c1 (k4 _ _ c4 (k3.extBut _ _ c2 (k2.extBut _ _ c3 (k1.extBut _ _ c1 e))))) ⟨oe,k5.extBut _ _ xz h3,h4⟩
  . intro g1 z1 k1 sz1
    simp only [Bool.false_eq_true,if_false]
    refine wpAny_bind ?_
    have ia1:g1.IsTuple a xs:=let ⟨ob,e,r⟩:=ha;⟨ob,k1 _ _ D.az e,r⟩
    have ib1:g1.IsTuple b ys:=let ⟨ob,e,r⟩:=hb;⟨ob,k1 _ _ D.bz e,r⟩
    simp only [List.forIn_toArray,List.forIn_cons,List.forIn_nil]
    refine wpAny_bind (wpAny_bind (wpAny_holding ?_))
    show wpAny _ _ (Builtin.SmallTypes.nextOf (.ref i) >>= _) _ _ _
    cases hx:xs[n]? with
    | none =>
      exact wpAny_bind (yh (s:={ s with heap:=g1 }) hh (ii.extBut k1 D.iz) ia1 hx fun g2 x k2 h2=>k g2 x (fun c u c1 _ c3 _ e=>k2 _ _ c3 (k1 _ _ c1 e)) h2)
    | some x0 =>
      have hy:ys[n]?=none:=by rcases he with h | h;rw [hx] at h;cases h;exact h
      refine wpAny_bind (Yb (s:={ s with heap:=g1 }) (ii.extBut k1 D.iz) ia1 hx fun g2 i2 k2=>wpAny_pure (wpAny_pure ?_))
      refine wpAny_bind (wpAny_bind (wpAny_holding ?_))
      show wpAny _ _ (Builtin.SmallTypes.nextOf (.ref j) >>= _) _ _ _
      exact wpAny_bind (yh (s:={ s with heap:=g2 }) hh ((jj.extBut k1 D.jz).extBut k2.extBut D.ij.symm) (ht k2 D.bi ib1) hy fun g3 x k3 h2=>k g3 x (fun c u c1 _ c3 c4 e=>k3 _ _ c4 (k2.extBut _ _ c3 (k1 _ _ c1 e))) h2)
end
theorem ZU.at {h h':Heap} {z p o i j a b:Addr} {n:Nat} (S:ZU h z p o i j a b n) (k:∀ c∈[z,p,o,i,j],∀ u,h.get? c=some u->h'.get? c=some u):ZU h' z p o i j a b n:=by
 obtain ⟨⟨f,fl,zz,hf⟩,pp,⟨u1,u2,oo⟩,ii,jj⟩:=S
 exact ⟨⟨f,fl,k z (by simp) _ zz,hf⟩,k p (by simp) _ pp,⟨u1,u2,k o (by simp) _ oo⟩,ii.at fun u e=>k i (by simp) u e,jj.at fun u e=>k j (by simp) u e⟩
inductive Qax:Expr->Prop
 | nm (x:Str) (p:Pos):Qax (.Name x p)
 | tp (l:List Expr) (k:Nat) (p:Pos):Qax (.Tuple l k p)
theorem QgW {prog:Program} {w:World} {A:Around} {E:Value->Shared->Prop} {s:Shared} {tg:Expr} (ht:Qax tg) {z p o i j a b T:Addr} {n:Nat} {Q:Unit->Shared->Prop} (D:ZA z p o i j a b) (S:ZU s.heap z p o i j a b n) (hQ:∀ h',ZU h' z p o i j a b n->Heap.ExtBut z s.heap h'->Q () { s with heap:=h' }):wpAny (model prog w) A (letOwnedTupleGo tg (.ref z) (.ref T)) Q E s:=by
  cases ht with
  | nm x p'=>exact wpAny_pure (hQ s.heap S fun _ _ _ e=>e)
  | tp l k p' =>
    obtain ⟨f,fl,zz,hf⟩:=S.zz
    unfold letOwnedTupleGo
    refine wpAny_bind (wpAny_load zz ?_)
    dsimp only
    split
    . refine wpAny_bind (wpAny_rule ?_)
      show wpAny _ _ (setField (.ref z) 0 .none) Q E s
      obtain ⟨_,pp,⟨u1,u2,oo⟩,ii,jj⟩:=S
      exact wpAny_setField_rec zz (by simp) fun h' z' k'=>hQ h' ⟨⟨.none,fl,z',.inl rfl⟩,k'.extBut _ _ D.pz pp,⟨u1,u2,k'.extBut _ _ D.oz oo⟩,ii.extBut k'.extBut D.iz,jj.extBut k'.extBut D.jz⟩ k'.extBut
    . exact wpAny_pure (hQ s.heap S fun _ _ _ e=>e)
theorem U7 {P:Program} {w:World} {K:PySem.W.Frag} {tg:Expr} (ht:Qax tg) {z p o i j a b:Addr} (D:ZA z p o i j a b):gX P w K tg (Itz K a b) [z,p,o,i,j] z (fun n h=>ZU h z p o i j a b n) where
 mem:=by simp
 obj:=fun n h S c hc=>by
  obtain ⟨⟨f,fl,zz,hf⟩,pp,⟨u1,u2,oo⟩,⟨oi,ei,ci,di⟩,⟨oj,ej,cj,dj⟩⟩:=S
  simp only [List.mem_cons,List.not_mem_nil,or_false] at hc
  rcases hc with rfl | rfl | rfl | rfl | rfl
  ·exact ⟨_,zz,fun v q=>by have q':Data.fields _=Data.cell v:=q;cases q'⟩
  ·exact ⟨_,pp,fun v q=>by have q':Data.seq _ _=Data.cell v:=q;cases q'⟩
  ·exact ⟨_,oo,fun v q=>by have q':Data.seq _ _=Data.cell v:=q;cases q'⟩
  ·exact ⟨oi,ei,fun v q=>by rw [di] at q;cases q⟩
  ·exact ⟨oj,ej,fun v q=>by rw [dj] at q;cases q⟩
 keep:=fun n h h' S k=>S.at k
 item:=by
  intro X hP hw hK hc n pins s σ H E I hf S hg
  subst hP hw hK
  obtain ⟨xs,ys,x,y,qa,qb,hx,hy⟩:=hg
  obtain ⟨ia,ra,pa,_⟩:=I.tuple qa
  obtain ⟨ib,rb,pb,_⟩:=I.tuple qb
  obtain ⟨u,hu,ru⟩:=ra.get hx
  obtain ⟨v,hv,rv⟩:=rb.get hy
  obtain ⟨f0,fl0,zz0,hf0⟩:=S.zz
  have hT:s.TypeIs (.ref z) "zip" := ⟨_,zz0,rfl⟩
  unfold pyNext
  refine wpAny_bind (wpAny_attempt (wpAny_callSpecial?_slot (name:=Str.ofString "__next__") hT F.slot_zip_next (wpAny_call_entry F.slot_zip_next hT F.entry_zip_next
   (QdV D S (show s.heap.IsTuple a ia.toArray from pa) (show s.heap.IsTuple b ib.toArray from pb) (by simpa using hu) (by simpa using hv) fun g' S' tp sz kp=>wpAny_pure ?_) (F.args_zip_next_1 _))))
  refine ⟨_,rfl,QgW (s:={ s with heap:=g' }) ht D S' fun g2 S' kx=>?_⟩
  replace tp:=kx _ _ (Nat.ne_of_gt (Heap.lt_size zz0)) tp
  have kp':∀ c q,c∉[z,p,o,i,j]->s.heap.get? c=some q->g2.get? c=some q:=fun c q hc e=>by
   simp only [List.mem_cons,List.not_mem_nil,or_false,not_or] at hc
   refine kx _ _ hc.1 (kp c q hc.1 hc.2.2.1 hc.2.2.2.1 hc.2.2.2.2 e)
  have ne:∀ c∈[z,p,o,i,j],c≠s.heap.objs.size:=fun c hc e=>by
   obtain ⟨_,pp,⟨u1,u2,oo⟩,⟨oi,ei,_⟩,⟨oj,ej,_⟩⟩:=S
   simp only [List.mem_cons,List.not_mem_nil,or_false] at hc
   rcases hc with rfl | rfl | rfl | rfl | rfl
   ·exact Nat.ne_of_lt (Heap.lt_size zz0) e
   ·exact Nat.ne_of_lt (Heap.lt_size pp) e
   ·exact Nat.ne_of_lt (Heap.lt_size oo) e
   ·exact Nat.ne_of_lt (Heap.lt_size ei) e
   ·exact Nat.ne_of_lt (Heap.lt_size ej) e
  refine ⟨.ref s.heap.objs.size,upd H s.heap.objs.size (.tup [x,y]),I.turnNew (t':=s.toks) hf kp' (us:=[u,v]) (.cons ru (.cons rv .nil)) (show 2<=sizeLine by decide) ⟨_,tp,rfl,_,rfl⟩,rfl,
   ⟨_,x,y,I.hok.fresh (Nat.le_refl _),fun xs' h=>by rw [I.tuple_inj h qa];exact hx,fun ys' h=>by rw [I.tuple_inj h qb];exact hy,rfl,rfl⟩,S',fun c hc=>?_⟩
  rw [Q0 (ne c hc)];exact (hf c hc).1
 done:=by
  intro X hP hw hK hc n pins s σ H E I hf S hg
  subst hP hw hK
  obtain ⟨xs,ys,qa,qb,hs⟩:=hg
  obtain ⟨ia,ra,pa,_⟩:=I.tuple qa
  obtain ⟨ib,rb,pb,_⟩:=I.tuple qb
  have l1:=ra.length
  have l2:=rb.length
  obtain ⟨f0,fl0,zz0,hf0⟩:=S.zz
  have hT:s.TypeIs (.ref z) "zip" := ⟨_,zz0,rfl⟩
  unfold pyNext
  refine wpAny_bind (wpAny_attempt (wpAny_callSpecial?_slot (name:=Str.ofString "__next__") hT F.slot_zip_next (wpAny_call_entry F.slot_zip_next hT F.entry_zip_next
   (QdW (I.ok.hd hc) D S (show s.heap.IsTuple a ia.toArray from pa) (show s.heap.IsTuple b ib.toArray from pb) (by rcases hs with q | q;exact .inl (by simp;omega);exact .inr (by simp;omega)) fun g x kp hx=>?_) (F.args_zip_next_1 _))))
  obtain ⟨ox,h1,h2⟩:=hx
  refine wpAny_bind (wpAny_isInstance (T := "StopIteration") (b:=true) ⟨ox,h1,h2⟩ isSubtype_stop ?_)
  refine wpAny_pure ⟨rfl,I.turnL (t':=s.toks) hf fun c q hc e=>?_⟩
  simp only [List.mem_cons,List.not_mem_nil,or_false,not_or] at hc
  exact kp c q hc.1 hc.2.2.1 hc.2.2.2.1 hc.2.2.2.2 e
 self:=fun _ _ _ _ _ S h=>by
  obtain ⟨f0,fl0,zz0,hf0⟩:=S.zz
  have hT:Shared.TypeIs _ (Value.ref z) "zip" := ⟨_,zz0,rfl⟩
  refine wpAny_pyIter_slot hT F.slot_zip_iter (wpAny_call_entry F.slot_zip_iter hT F.entry_zip_iter ?_ (F.args_zip_iter_1 _))
  exact wpAny_pure ⟨_,rfl, "zip", _,hT,(F.slot_zip_next).1,h⟩
section
variable {X:Cx} {xn:Str} {p2:Pos} {pins:List (Addr×Obj)} {σ:L2.St}
theorem QfT {H:Hp} {s:Shared} {E:Value->Shared->Prop} {Q:Value->Shared->Prop} {a b:Addr} {xs ys:List V} (I:Inv X pins σ H s) (qa:SqT X.K H a xs) (qb:SqT X.K H b ys)
  (k:∀ (s':Shared) (z p o i j:Addr),Inv X pins σ H s'->ZA z p o i j a b->ZU s'.heap z p o i j a b 0->(∀ c∈[z,p,o,i,j],V3 X pins H c)->Q (.ref z) s'):wpAny (model X.prog X.w) X.A (call (.type "zip") [.ref a,.ref b]) Q E s:=by
 obtain ⟨ia,ra,pa,_⟩:=I.tuple qa
 obtain ⟨ib,rb,pb,_⟩:=I.tuple qb
 refine callType_new F.called_zip (by decide) (F.typeCall_zip_2 _ _) (F.newCall_zip_2 _ _) (fun obj=>F.args_object_init_3 obj _ _) F.entry_zip_new (gQ a b ia.toArray ib.toArray) ⟨show s.heap.IsTuple a ia.toArray from pa,show s.heap.IsTuple b ib.toArray from pb,?_⟩
 have z1:(zt1 s.heap a).objs.size=s.heap.objs.size+1:=Heap.size_push ..
 have z2:(zt2 s.heap a b).objs.size=s.heap.objs.size+2:=by rw [Heap.size_push,z1]
 have z3:(zt3 s.heap a b).objs.size=s.heap.objs.size+3:=by rw [Heap.size_push,z2]
 have z4:(zt4 s.heap a b).objs.size=s.heap.objs.size+4:=by rw [Heap.size_push,z3]
 have g5:(zt5 s.heap a b).get? (zt4 s.heap a b).objs.size=some _:=Heap.get?_push_size _ rfl
 have g4:(zt5 s.heap a b).get? (zt3 s.heap a b).objs.size=some _:=Heap.get?_push_of_some _ (Heap.get?_push_size _ rfl)
 have g3:(zt5 s.heap a b).get? (zt2 s.heap a b).objs.size=some _:=Heap.get?_push_of_some _ (Heap.get?_push_of_some _ (Heap.get?_push_size _ rfl))
 have g2:(zt5 s.heap a b).get? (zt1 s.heap a).objs.size=some _:=Heap.get?_push_of_some _ (Heap.get?_push_of_some _ (Heap.get?_push_of_some _ (Heap.get?_push_size _ rfl)))
 have g1:(zt5 s.heap a b).get? s.heap.objs.size=some _:=Heap.get?_push_of_some _ (Heap.get?_push_of_some _ (Heap.get?_push_of_some _ (Heap.get?_push_of_some _ (Heap.get?_push_size _ rfl))))
 show _/\_
 have kp:∀ c o,s.heap.get? c=some o->(zt5 s.heap a b).get? c=some o:=fun c o e=>Heap.get?_push_of_some _ (Heap.get?_push_of_some _ (Heap.get?_push_of_some _ (Heap.get?_push_of_some _ (Heap.get?_push_of_some _ e))))
 refine ⟨⟨_,g5,rfl⟩,?_⟩
 rw [z2,z3,z4] at g5
 rw [z1,z2] at g3
 rw [z3] at g4
 rw [z1] at g2
 rw [z4]
 have la:a < s.heap.objs.size:=by obtain ⟨o,e,_⟩:=pa;exact Heap.lt_size e
 have lb:b < s.heap.objs.size:=by obtain ⟨o,e,_⟩:=pb;exact Heap.lt_size e
 have D:ZA (s.heap.objs.size+4) (s.heap.objs.size+2) (s.heap.objs.size+3) s.heap.objs.size (s.heap.objs.size+1) a b:=by constructor<;>first | exact Nat.ne_of_lt la | exact Nat.ne_of_lt lb | exact Nat.ne_of_lt (Nat.lt_of_lt_of_le la (Nat.le_add_right _ _)) | exact Nat.ne_of_lt (Nat.lt_of_lt_of_le lb (Nat.le_add_right _ _)) | exact Nat.ne_of_lt (by omega) | exact Nat.ne_of_gt (by omega)
 have I1:Inv X pins σ H { s with heap:=zt5 s.heap a b }:=I.kept (t':=s.toks) kp
 have S:ZU (zt5 s.heap a b) (s.heap.objs.size+4) (s.heap.objs.size+2) (s.heap.objs.size+3) s.heap.objs.size (s.heap.objs.size+1) a b 0:=⟨⟨_,_,g5,.inl rfl⟩,g3,⟨_,_,g4⟩,⟨_,g1,rfl,rfl⟩,⟨_,g2,rfl,rfl⟩⟩
 refine k { s with heap:=zt5 s.heap a b } _ _ _ _ _ I1 D S fun c hc=>?_
 have hc':s.heap.objs.size<=c:=by
  simp only [List.mem_cons,List.not_mem_nil,or_false] at hc
  rcases hc with rfl | rfl | rfl | rfl | rfl<;>first | exact Nat.le_refl _ | exact Nat.le_add_right _ _
 exact I.fpOk hc' (I.hok.fresh hc')
theorem QdS {tg:Expr} (ht:Qax tg) {H:Hp} {s:Shared} {R:It->Hp->Prop} {E:Value->Shared->Prop} {a b:Addr} {xs ys:List V} (I:Inv X pins σ H s) (qa:SqT X.K H a xs) (qb:SqT X.K H b ys) (q:R (Itz X.K a b) H) :
  wpAny (model X.prog X.w) X.A (call (.type "zip") [.ref a,.ref b]) (fun v s1=>wpAny (model X.prog X.w) X.A (pyIter v) (PIE X pins σ tg R) E s1) E s :=
 QfT I qa qb fun s' z p o i j I1 D S hf=>(U7 (K:=X.K) ht D).self _ _ _ _ _ S ⟨_,[z,p,o,i,j],_,Itz X.K a b,H,rfl,I1,U7 ht D,S,hf,q⟩
theorem Qdj {x y:Expr} {ta:TA} {p pos:Pos} (hg:Gl X "zip") (hm:X.mg "zip" = none) (ha:PA X [x,y] ta) (hs:starEach [x,y] X.env=[(false,eval x X.env),(false,eval y X.env)]:=by rfl) (hs2:starEach [y] X.env=[(false,eval y X.env)]:=by rfl) :
    PI X (.Name xn p2) (.Call (.Name "zip" p) [x,y] [] pos) (Qd7 X.K ta):=by
  intro pins s σ H R I h
  refine Call_ (xY I hg hm boot_zip (PyProof.Rows.callWith_type1 (thn (ha pos pins s σ H _ I h) fun us s1 ⟨vs,H1,I1,r1,q1⟩=>?_) (by rw [hs,hs2]) (by rw [hs2];rfl)))
  obtain ⟨a,b,xs,ys,e,qa,qb,q⟩:=q1
  subst e
  cases r1 with
  | cons r rr =>
    cases rr with
    | cons r' rr =>
      cases rr
      cases r
      cases r'
      exact QdS (.nm ..) I1 qa qb q
end
end L2
namespace D
open PySem PySem.Spec PyProof.Rows L2
section
variable {X:Cx} {xn:Str} {p2:Pos} {f g:DEx}
theorem QcI {x y:Expr} {p pos:Pos} (hg:Gl X "zip") (hm:X.mg "zip" = none) (hx:DE X x f) (hy:DE X y g) (hs:starEach [x,y] X.env=[(false,eval x X.env),(false,eval y X.env)]:=by rfl) (hs2:starEach [y] X.env=[(false,eval y X.env)]:=by rfl) :
  DI X (.Name xn p2) (.Call (.Name "zip" p) [x,y] [] pos) (Kx f g) :=
 L2.PI.imp (Qdj hg hm (X9 hx (X9 hy pa_nil (by rw [hs2];rfl)) (by rw [hs,hs2])) hs hs2) fun σ H R ⟨Z,env,ρ,B,hp,ds,hp',S,e,k⟩=>by
  obtain ⟨d1,hp1,e1,e⟩:=Qf e
  obtain ⟨xs,hp2,e2,e⟩:=Qf e
  obtain ⟨rfl,rfl⟩:=Yg e2
  obtain ⟨d2,hp3,e3,e⟩:=Qf e
  obtain ⟨ys,hp4,e4,e⟩:=Qf e
  obtain ⟨rfl,rfl⟩:=Yg e4
  obtain ⟨rfl,rfl⟩:=Qj e
  refine tD.run S e1 fun v ρ1 B1 H1 g1 S1 r1=>tD.run S1 e3 fun u ρ2 B2 H2 g2 S2 r2=>?_
  obtain ⟨a,vs,rfl,na,qa,la⟩:=(RepV.grow S1.wo.rb g2 _ _ r1).tupI
  obtain ⟨b,us,rfl,nb,qb,lb⟩:=r2.tupI
  exact ⟨a,b,vs,us,rfl,qa,qb,k _ ρ2 B2 H2 (g1.trans g2) S2.wo (Qbc na qa la nb qb lb)⟩
end
end D
namespace TR
structure Pg where
 lv:Nat
 ks:List Int
 ps:List Int
 hi:Option Int
 sd:Option Nat
structure Sh where
 room:Nat
 pg:List Pg
 top:Nat
 rd:Int
 wr:Int
inductive Deed where
 | find (k:Int) | put (k w:Int) | cut (k:Int) | stretch (l h:Int)
def Deed.key:Deed->Int
 | .find k=>k
 | .put k _=>k
 | .cut k=>k
 | .stretch l _=>l
structure Wk where
 deed:Deed
 aim:Int
 goal:Nat
 place:Option Nat
 forks:List (Nat×Nat)
 newp:Option Nat
 worth:Option Int
 pairs:List (Int×Int)
 ended:Bool
inductive Row where
 | non
 | side (n t:Nat)
 | down (n t:Nat)
 | found (n:Nat) (w:Option Int)
 | put (n:Nat) (w:Option Int) (k:Option Nat)
 | cut (n:Nat) (w:Option Int)
 | read (n:Nat) (ps:List (Int×Int)) (t:Option (Nat×Int))
 | told (n:Nat) (k:Option Nat)
 | raised (n t:Nat)
def cLe (ks:List Int) (k:Int):Nat:=(ks.filter fun x=>decide (x<=k)).length
def cLt (ks:List Int) (k:Int):Nat:=(ks.filter fun x=>decide (x < k)).length
def JV (fs:List (Nat×Nat)) (k:Nat):Option Nat:=(fs.find? fun p=>decide (p.1=k)).map (·.2)
def zx (fs:List (Nat×Nat)) (k v:Nat):List (Nat×Nat):=if (fs.any fun p=>decide (p.1=k))=true then fs.map (fun p=>if p.1=k then (p.1,v) else p) else fs++[(k,v)]
def JU (p:Pg) (k:Int):Bool:=match p.hi with
 | none=>false
 | some h=>decide (h<=k)
def QX (p:Pg) (k:Int):Option Int:=if cLt p.ks k=cLe p.ks k then none else p.ps[cLt p.ks k]?
def QZ (p:Pg) (k w:Int):Pg:={ p with ks:=p.ks.take (cLt p.ks k)++k::p.ks.drop (cLe p.ks k),ps:=p.ps.take (cLt p.ks k)++w::p.ps.drop (cLe p.ks k) }
def without (p:Pg) (k:Int):Pg:={ p with ks:=p.ks.take (cLt p.ks k)++p.ks.drop (cLe p.ks k),ps:=p.ps.take (cLt p.ks k)++p.ps.drop (cLe p.ks k) }
def Zv (p:Pg) (k:Int) (c:Nat):Pg:={ p with ks:=p.ks.take (cLe p.ks k)++k::p.ks.drop (cLe p.ks k),ps:=p.ps.take (cLe p.ks k+1)++(c:Int)::p.ps.drop (cLe p.ks k+1) }
def mid (p:Pg):Nat:=p.ks.length / 2
def Zk (p:Pg):Nat:=if p.lv=0 then mid p else mid p+1
def Xa (p:Pg):Int:=p.ks.getD (mid p) 0
def Q6 (p:Pg) (n:Nat):Pg:=⟨p.lv,p.ks.take (mid p),p.ps.take (Zk p),some (Xa p),some n⟩
def QU (p:Pg):Pg:=⟨p.lv,p.ks.drop (Zk p),p.ps.drop (Zk p),p.hi,p.sd⟩
def QD (S:Sh) (w:Wk) (n:Nat) (p:Pg):Option Nat×Sh×Wk :=
 if p.ks.length<=S.room then (none,{ S with pg:=S.pg.set n p,wr:=S.wr+1 },{ w with ended:=true })
 else (some S.pg.length,{ S with pg:=(S.pg++[QU p]).set n (Q6 p S.pg.length),wr:=S.wr+1+1 },{ w with newp:=some S.pg.length,aim:=Xa p,goal:=p.lv+1,place:=JV w.forks (p.lv+1) })
def QW (p:Pg) (l h:Int):List (Int×Int):=(p.ks.zip p.ps).filter fun q=>decide (l<=q.1)&&decide (q.1 < h)
def Jf (S:Sh) (w:Wk) (n:Nat) (p:Pg):Row×Sh×Wk:=match w.deed with
  | .find _=>(.found n (QX p w.aim),S,{ w with worth:=QX p w.aim,ended:=true })
  | .put _ x=>match QD S { w with worth:=QX p w.aim } n (QZ p w.aim x) with
    | (r,S2,w2)=>(.put n (QX p w.aim) r,S2,w2)
  | .cut _=>(.cut n (QX p w.aim),if (QX p w.aim).isSome=true then { S with pg:=S.pg.set n (without p w.aim),wr:=S.wr+1 } else S,{ w with worth:=QX p w.aim,ended:=true })
  | .stretch l h=>match p.hi,p.sd with
    | some x,some s=>if h<=x then (.read n (QW p l h) none,S,{ w with pairs:=w.pairs++QW p l h,ended:=true })
        else (.read n (QW p l h) (some (s,x)),S,{ w with pairs:=w.pairs++QW p l h,aim:=x,place:=some s })
    | _,_=>(.read n (QW p l h) none,S,{ w with pairs:=w.pairs++QW p l h,ended:=true })
def JY (S:Sh) (w:Wk):Option (Row×Sh×Wk) :=
  if w.ended=true then some (.non,S,w) else
  match S.pg[w.place.getD S.top]? with
  | none=>none
  | some p =>
    if w.place=none/\p.lv < w.goal then
      match w.newp with
      | none=>none
      | some k=>some (.raised S.top S.pg.length,{ S with rd:=S.rd+1,pg:=S.pg++[⟨p.lv+1,[w.aim],[(S.top:Int),(k:Int)],none,none⟩],top:=S.pg.length,wr:=S.wr+1 },{ w with ended:=true })
    else if JU p w.aim=true then
      match p.sd with
      | none=>none
      | some s=>some (.side (w.place.getD S.top) s,{ S with rd:=S.rd+1 },{ w with place:=some s })
    else if w.goal < p.lv then
      match p.ps[cLe p.ks w.aim]? with
      | none=>none
      | some c=>some (.down (w.place.getD S.top) c.toNat,{ S with rd:=S.rd+1 },{ w with forks:=zx w.forks p.lv (w.place.getD S.top),place:=some c.toNat })
    else if 0 < w.goal then
      match w.newp with
      | none=>none
      | some k=>match QD { S with rd:=S.rd+1 } w (w.place.getD S.top) (Zv p w.aim k) with
        | (r,S2,w2)=>some (.told (w.place.getD S.top) r,S2,w2)
    else some (Jf { S with rd:=S.rd+1 } w (w.place.getD S.top) p)
theorem zG {ks:List Int} (h:ks.Pairwise (· < ·)) (k:Int):ks.take (cLe ks k)=ks.filter (fun x=>decide (x<=k))/\ks.drop (cLe ks k)=ks.filter (fun x=>decide (k < x)):=by
  unfold cLe
  induction ks with
  | nil=>simp
  | cons x xs ih =>
    obtain ⟨h1,h2⟩:=List.pairwise_cons.mp h
    by_cases q:x<=k
    . obtain ⟨i1,i2⟩:=ih h2
      have q':¬ k < x:=by omega
      simp [List.filter_cons,q,q',i1,i2]
    . have e:xs.filter (fun y=>decide (y<=k))=[]:=by
        rw [List.filter_eq_nil_iff]
        intro y hy;have:=h1 y hy;simp;omega
      have e2:xs.filter (fun y=>decide (k < y))=xs:=by
        rw [List.filter_eq_self]
        intro y hy;have:=h1 y hy;simp;omega
      have q':k < x:=by omega
      simp [List.filter_cons,q,q',e,e2]
theorem xB {ks:List Int} (h:ks.Pairwise (· < ·)) (k:Int):ks.take (cLt ks k)=ks.filter (fun x=>decide (x < k))/\ks.drop (cLt ks k)=ks.filter (fun x=>decide (k<=x)):=by
  unfold cLt
  induction ks with
  | nil=>simp
  | cons x xs ih =>
    obtain ⟨h1,h2⟩:=List.pairwise_cons.mp h
    by_cases q:x < k
    . obtain ⟨i1,i2⟩:=ih h2
      have q':¬ k<=x:=by omega
      simp [List.filter_cons,q,q',i1,i2]
    . have e:xs.filter (fun y=>decide (y < k))=[]:=by
        rw [List.filter_eq_nil_iff]
        intro y hy;have:=h1 y hy;simp;omega
      have e2:xs.filter (fun y=>decide (k<=y))=xs:=by
        rw [List.filter_eq_self]
        intro y hy;have:=h1 y hy;simp;omega
      have q':k<=x:=by omega
      simp [List.filter_cons,q,q',e,e2]
theorem Xz (ks:List Int) (k:Int):cLe ks k<=ks.length:=List.length_filter_le _ _
theorem xM (ks:List Int) (k:Int):cLt ks k<=ks.length:=List.length_filter_le _ _
theorem Kl (ks:List Int) (k:Int):cLt ks k<=cLe ks k:=by
  unfold cLt cLe
  induction ks with
  | nil=>simp
  | cons x xs ih =>
    by_cases q:x < k
    . have:x<=k:=by omega
      simp [List.filter_cons,q,this,ih]
    . by_cases q2:x<=k
      . simp [List.filter_cons,q,q2];omega
      . simp [List.filter_cons,q,q2,ih]
theorem Qf0 {ks:List Int} (h:ks.Pairwise (· < ·)) (k:Int):cLe ks k<=cLt ks k+1:=by
  unfold cLt cLe
  induction ks with
  | nil=>simp
  | cons x xs ih =>
    obtain ⟨h1,h2⟩:=List.pairwise_cons.mp h
    by_cases q:x < k
    . have:x<=k:=by omega
      have:=ih h2
      simp [List.filter_cons,q, *]
    . have e:xs.filter (fun y=>decide (y<=k))=[]:=by
        rw [List.filter_eq_nil_iff]
        intro y hy;have:=h1 y hy;simp;omega
      by_cases q2:x<=k<;>simp [List.filter_cons,q,q2,e]
theorem Vk {ks:List Int} (h:ks.Pairwise (· < ·)) (k:Int):(ks.take (cLt ks k)++k::ks.drop (cLe ks k)).Pairwise (· < ·):=by
 rw [(xB h k).1,(zG h k).2]
 rw [List.pairwise_append]
 refine ⟨h.filter _,List.pairwise_cons.mpr ⟨fun y hy=>?_,h.filter _⟩,fun x hx y hy=>?_⟩
 ·simpa using (List.mem_filter.mp hy).2
 ·have h1:x < k:=by simpa using (List.mem_filter.mp hx).2
  rcases List.mem_cons.mp hy with rfl | hy
  ·exact h1
  ·have h2:k < y:=by simpa using (List.mem_filter.mp hy).2
   omega
theorem j6 {ks:List Int} (h:ks.Pairwise (· < ·)) {k x:Int} (hx:x∈ks.take (cLt ks k)++k::ks.drop (cLe ks k)):x=k∨x∈ks:=by
 rcases List.mem_append.mp hx with hx | hx
 ·exact .inr (List.mem_of_mem_take hx)
 ·rcases List.mem_cons.mp hx with rfl | hx
  ·exact .inl rfl
  ·exact .inr (List.mem_of_mem_drop hx)
theorem vA {ks:List Int} (h:ks.Pairwise (· < ·)) (k:Int):(ks.take (cLt ks k)++ks.drop (cLe ks k)).Pairwise (· < ·):=by
 rw [(xB h k).1,(zG h k).2]
 rw [List.pairwise_append]
 refine ⟨h.filter _,h.filter _,fun x hx y hy=>?_⟩
 have h1:x < k:=by simpa using (List.mem_filter.mp hx).2
 have h2:k < y:=by simpa using (List.mem_filter.mp hy).2
 omega
theorem uD {ks:List Int} {k x:Int} (hx:x∈ks.take (cLt ks k)++ks.drop (cLe ks k)):x∈ks:=by
 rcases List.mem_append.mp hx with hx | hx
 ·exact List.mem_of_mem_take hx
 ·exact List.mem_of_mem_drop hx
theorem Qen {ks:List Int} (h:k∉ks):cLt ks k=cLe ks k:=by
 unfold cLt cLe
 congr 1
 apply List.filter_congr
 intro x hx
 have:x≠k:=fun e=>h (e▸hx)
 by_cases q:x < k
 ·have:x<=k:=by omega
  simp [q,this]
 ·have:¬ x<=k:=by omega
  simp [q,this]
theorem zh (fs:List (Nat×Nat)) (k v j:Nat):JV (zx fs k v) j=if j=k then some v else JV fs j:=by
  unfold zx JV
  by_cases h:(fs.any fun p=>decide (p.1=k))=true
  . rw [if_pos h]
    induction fs with
    | nil=>simp at h
    | cons p fs ih =>
      simp only [List.map_cons,List.find?_cons]
      by_cases q:p.1=k
      . by_cases e:j=k
        . subst e;simp [q]
        . have:¬ k=j:=fun z=>e z.symm
          simp only [q,if_true,this,decide_false]
          by_cases h2:(fs.any fun p=>decide (p.1=k))=true
          . have:=ih h2;simpa [e] using this
          . have hid:fs.map (fun p=>if p.1=k then (p.1,v) else p)=fs:=by
              conv=>rhs;rw [<- List.map_id fs]
              apply List.map_congr_left
              intro x hx
              have:¬ x.1=k:=fun z=>h2 (by rw [List.any_eq_true];exact ⟨x,hx,by simpa using z⟩)
              simp [this]
            rw [hid,if_neg e]
      . have h2:(fs.any fun p=>decide (p.1=k))=true:=by simpa [List.any_cons,q] using h
        have:=ih h2
        simp only [q,if_false]
        by_cases e:p.1=j
        . have:¬ j=k:=fun z=>q (e.trans z)
          simp [e,this]
        . simpa [e] using this
  . rw [if_neg h,List.find?_append]
    have hn:∀ p∈fs,¬ p.1=k:=fun p hp z=>h (by rw [List.any_eq_true];exact ⟨p,hp,by simpa using z⟩)
    by_cases e:j=k
    . subst e
      have:fs.find? (fun p=>decide (p.1=j))=none:=by
        rw [List.find?_eq_none];intro p hp;simpa using hn p hp
      simp [this]
    . have:¬ k=j:=fun z=>e z.symm
      simp [this,e]
end TR
namespace TR
abbrev Bg:=Nat->Option Int
def leB (b:Option Int) (x:Int):Prop:=∀ v,b=some v->v<=x
def ltB (b:Option Int) (x:Int):Prop:=∀ v,b=some v->v < x
def ltH (x:Int) (h:Option Int):Prop:=∀ v,h=some v->x < v
def leBB (b c:Option Int):Prop:=∀ v,b=some v->∃ u,c=some u/\v<=u
theorem leBB.refl (b:Option Int):leBB b b:=fun v h=>⟨v,h,Int.le_refl _⟩
theorem leBB.trans {a b c:Option Int} (h:leBB a b) (g:leBB b c):leBB a c:=fun v e=>by
 obtain ⟨u,e1,l1⟩:=h v e
 obtain ⟨x,e2,l2⟩:=g u e1
 exact ⟨x,e2,by omega⟩
def Jl (b:Option Int) (ks:List Int):Nat->Option Int
 | 0=>b
 | j+1=>ks[j]?
structure JO (room:Nat) (b:Option Int) (p:Pg):Prop where
 sorted:p.ks.Pairwise (· < ·)
 few:p.ks.length<=room
 parts:p.ps.length=p.ks.length+(if p.lv=0 then 0 else 1)
 low:∀ k∈p.ks,leB b k
 lowF:0 < p.lv->∀ k∈p.ks,ltB b k
 high:∀ k∈p.ks,ltH k p.hi
 wide:∀ h,p.hi=some h->ltB b h
structure Tree (S:Sh) (bg:Bg):Prop where
 room2:2<=S.room
 root:∃ r:Pg,S.pg[S.top]?=some r/\∀ (n:Nat) (p:Pg),S.pg[n]?=some p->p.lv<=r.lv
 rbg:bg S.top=none
 page:∀ (n:Nat) (p:Pg),S.pg[n]?=some p->JO S.room (bg n) p
 link:∀ (n:Nat) (p:Pg),S.pg[n]?=some p->(p.hi=none/\p.sd=none)∨∃ (h:Int) (s:Nat) (q:Pg),p.hi=some h/\p.sd=some s/\S.pg[s]?=some q/\q.lv=p.lv/\bg s=some h
 kid:∀ (n:Nat) (p:Pg),S.pg[n]?=some p->0 < p.lv->∀ j k,p.ps[j]?=some k->∃ (c:Nat) (q:Pg),k=(c:Int)/\S.pg[c]?=some q/\q.lv+1=p.lv/\bg c=Jl (bg n) p.ks j
 dis:∀ (n m:Nat) (p q:Pg),S.pg[n]?=some p->S.pg[m]?=some q->p.lv=q.lv->n≠m->(∃ h v,p.hi=some h/\bg m=some v/\h<=v)∨(∃ h v,q.hi=some h/\bg n=some v/\h<=v)
 pred:∀ (n:Nat) (p:Pg),S.pg[n]?=some p->∀ v,bg n=some v->∃ (m:Nat) (q:Pg),S.pg[m]?=some q/\q.lv=p.lv/\q.hi=some v
theorem Tree.uniq {S:Sh} {bg:Bg} (T:Tree S bg) {n m:Nat} {p q:Pg} (hn:S.pg[n]?=some p) (hm:S.pg[m]?=some q) (hl:p.lv=q.lv) (hb:bg n=bg m):n=m:=by
 rcases Nat.decEq n m with h | h
 ·exfalso
  rcases T.dis n m p q hn hm hl h with ⟨x,v,h1,h2,h3⟩ | ⟨x,v,h1,h2,h3⟩
  ·have:=(T.page n p hn).wide x h1 v (hb.trans h2);omega
  ·have:=(T.page m q hm).wide x h1 v (hb.symm.trans h2);omega
 ·exact h
structure YX (S:Sh) (bg:Bg) (S':Sh) (bg':Bg):Prop where
 old:∀ (n:Nat) (p:Pg),S.pg[n]?=some p->bg' n=bg n/\∃ p':Pg,S'.pg[n]?=some p'/\p'.lv=p.lv
def Untold (S:Sh) (k:Nat):Prop:=∀ (n:Nat) (p:Pg),S.pg[n]?=some p->0 < p.lv->(k:Int)∉p.ps
structure WOk (S:Sh) (bg:Bg) (w:Wk):Prop where
 at_:∀ n:Nat,w.place=some n->∃ p:Pg,S.pg[n]?=some p/\w.goal<=p.lv/\leB (bg n) w.aim
 none_:w.place=none->∀ l f,JV w.forks l=some f->l < w.goal
 kept:∀ l f,JV w.forks l=some f->∃ p:Pg,S.pg[f]?=some p/\p.lv=l
 above:∀ (n:Nat) (p:Pg),w.place=some n->S.pg[n]?=some p->∀ l f,JV w.forks l=some f->p.lv < l->leBB (bg f) (bg n)
 chain:∀ l f l' f',JV w.forks l=some f->JV w.forks l'=some f'->w.goal<=l->l < l'->leBB (bg f') (bg f)
 gap:∀ (n:Nat) (p:Pg),w.place=some n->S.pg[n]?=some p->w.goal < p.lv->∀ l f,JV w.forks l=some f->l < w.goal∨p.lv < l
 full:∀ (n:Nat) (p:Pg),w.place=some n->S.pg[n]?=some p->∀ l' f',JV w.forks l'=some f'->∀ l,p.lv < l->l<=l'->∃ f,JV w.forks l=some f
 tell:0 < w.goal->∃ (k:Nat) (q:Pg),w.newp=some k/\S.pg[k]?=some q/\q.lv+1=w.goal/\bg k=some w.aim
theorem WOk.grow {S S':Sh} {bg bg':Bg} {w:Wk} (W:WOk S bg w) (g:YX S bg S' bg'):WOk S' bg' w where
 at_:=fun n h=>by
  obtain ⟨p,h1,h2,h3⟩:=W.at_ n h
  obtain ⟨e,p',h4,h5⟩:=g.old n p h1
  exact ⟨p',h4,by omega,by rw [e];exact h3⟩
 none_:=W.none_
 kept:=fun l f h=>by
  obtain ⟨p,h1,h2⟩:=W.kept l f h
  obtain ⟨e,p',h4,h5⟩:=g.old f p h1
  exact ⟨p',h4,by omega⟩
 above:=fun n p' hp hn l f hf hl=>by
  obtain ⟨p,h1,_⟩:=W.at_ n hp
  obtain ⟨e,p2,h4,h5⟩:=g.old n p h1
  rw [h4] at hn;cases hn
  obtain ⟨pf,h6,_⟩:=W.kept l f hf
  rw [e,(g.old f pf h6).1]
  exact W.above n p hp h1 l f hf (by omega)
 chain:=fun l f l' f' h h' a b=>by
  obtain ⟨p,h1,_⟩:=W.kept l f h
  obtain ⟨p',h1',_⟩:=W.kept l' f' h'
  rw [(g.old f p h1).1,(g.old f' p' h1').1]
  exact W.chain l f l' f' h h' a b
 gap:=fun n p' hp hn a l f hf=>by
  obtain ⟨p,h1,_⟩:=W.at_ n hp
  obtain ⟨e,p2,h4,h5⟩:=g.old n p h1
  rw [h4] at hn;cases hn
  rw [h5]
  exact W.gap n p hp h1 (by omega) l f hf
 full:=fun n p' hp hn l' f' hf l a b=>by
  obtain ⟨p,h1,_⟩:=W.at_ n hp
  obtain ⟨e,p2,h4,h5⟩:=g.old n p h1
  rw [h4] at hn;cases hn
  exact W.full n p hp h1 l' f' hf l (by omega) b
 tell:=fun h=>by
  obtain ⟨k,q,h1,h2,h3,h4⟩:=W.tell h
  obtain ⟨e,p',h5,h6⟩:=g.old k q h2
  exact ⟨k,p',h1,h5,by omega,by rw [e];exact h4⟩
theorem WOk.fresh {S:Sh} {bg:Bg} {w:Wk} (h1:w.place=none) (h2:w.forks=[]) (h3:w.goal=0):WOk S bg w where
 at_:=fun n h=>by rw [h1] at h;cases h
 none_:=fun _ l f h=>by rw [h2] at h;cases h
 kept:=fun l f h=>by rw [h2] at h;cases h
 above:=fun n p h=>by rw [h1] at h;cases h
 chain:=fun l f l' f' h=>by rw [h2] at h;cases h
 gap:=fun n p h=>by rw [h1] at h;cases h
 full:=fun n p h=>by rw [h1] at h;cases h
 tell:=fun h=>by omega
theorem QK {α:Type} {xs:List α} {n m:Nat} {x y:α} (h:(xs.set n x)[m]?=some y):(m=n/\y=x/\n < xs.length)∨(m≠n/\xs[m]?=some y):=by
 by_cases e:m=n
 ·subst e
  by_cases hl:m < xs.length
  ·rw [List.getElem?_set_self hl] at h;cases h;exact .inl ⟨rfl,rfl,hl⟩
  ·rw [List.getElem?_eq_none (by simpa using hl)] at h;cases h
 ·rw [List.getElem?_set_ne (Ne.symm e)] at h;exact .inr ⟨e,h⟩
theorem gC {α:Type} {xs:List α} {n m:Nat} {x y:α} (h:xs[m]?=some y):(xs.set n x)[m]?=some (if m=n then x else y):=by
 have hl:=(List.getElem?_eq_some_iff.mp h).1
 by_cases e:m=n
 ·subst e;rw [List.getElem?_set_self hl,if_pos rfl]
 ·rw [List.getElem?_set_ne (Ne.symm e),h,if_neg e]
theorem Tree.write {S:Sh} {bg:Bg} (T:Tree S bg) {n:Nat} {p p':Pg} {x y:Int} (hn:S.pg[n]?=some p) (hl:p'.lv=p.lv) (hh:p'.hi=p.hi) (hs:p'.sd=p.sd) (ok:JO S.room (bg n) p')
  (hk:0 < p.lv->∀ j k,p'.ps[j]?=some k->∃ (c:Nat) (q:Pg),k=(c:Int)/\S.pg[c]?=some q/\q.lv+1=p.lv/\bg c=Jl (bg n) p'.ks j) :
  Tree { S with pg:=S.pg.set n p',rd:=x,wr:=y } bg/\YX S bg { S with pg:=S.pg.set n p',rd:=x,wr:=y } bg:=by
 have old:∀ (m:Nat) (q:Pg),S.pg[m]?=some q->∃ q':Pg,(S.pg.set n p')[m]?=some q'/\q'.lv=q.lv/\q'.hi=q.hi/\q'.sd=q.sd:=fun m q h=>by
  refine ⟨_,gC h,?_⟩
  by_cases e:m=n
  ·subst e;rw [hn] at h;cases h;simp [hl,hh,hs]
  ·simp [e]
 have new:∀ (m:Nat) (q':Pg),(S.pg.set n p')[m]?=some q'->∃ q:Pg,S.pg[m]?=some q/\q'.lv=q.lv/\q'.hi=q.hi/\q'.sd=q.sd:=fun m q' h=>by
  rcases QK h with ⟨rfl,rfl,_⟩ | ⟨_,h⟩
  ·exact ⟨p,hn,hl,hh,hs⟩
  ·exact ⟨q',h,rfl,rfl,rfl⟩
 refine ⟨⟨T.room2,?_,T.rbg,fun m q h=>?_,fun m q h=>?_,fun m q h h0 j k hj=>?_,fun a b q r ha hb hab e=>?_,fun m q h v hv=>?_⟩,⟨fun m q h=>⟨rfl,by obtain ⟨q',h1,h2,_⟩:=old m q h;exact ⟨q',h1,h2⟩⟩⟩⟩
 ·obtain ⟨r,h1,h2⟩:=T.root
  obtain ⟨r',h3,h4,_⟩:=old _ _ h1
  exact ⟨r',h3,fun m q h=>by obtain ⟨q0,h5,h6,_⟩:=new m q h;rw [h6,h4];exact h2 m q0 h5⟩
 ·rcases QK h with ⟨rfl,rfl,_⟩ | ⟨_,h⟩
  ·exact ok
  ·exact T.page m q h
 ·obtain ⟨q0,h1,h2,h3,h4⟩:=new m q h
  rcases T.link m q0 h1 with ⟨a,b⟩ | ⟨x,s,r,a,b,c,d,e⟩
  ·exact .inl ⟨h3.trans a,h4.trans b⟩
  ·obtain ⟨r',c1,c2,_⟩:=old s r c
   exact .inr ⟨x,s,r',h3.trans a,h4.trans b,c1,by rw [c2,d,h2],e⟩
 ·rcases QK h with ⟨rfl,rfl,_⟩ | ⟨_,h⟩
  ·obtain ⟨c,r,h1,h2,h3,h4⟩:=hk (by omega) j k hj
   obtain ⟨r',c1,c2,_⟩:=old c r h2
   exact ⟨c,r',h1,c1,by omega,h4⟩
  ·obtain ⟨c,r,h1,h2,h3,h4⟩:=T.kid m q h h0 j k hj
   obtain ⟨r',c1,c2,_⟩:=old c r h2
   exact ⟨c,r',h1,c1,by omega,h4⟩
 ·obtain ⟨q0,h1,h2,h3,_⟩:=new a q ha
  obtain ⟨r0,h5,h6,h7,_⟩:=new b r hb
  rw [h3,h7]
  exact T.dis a b q0 r0 h1 h5 (by omega) e
 ·obtain ⟨q0,h1,h2,_⟩:=new m q h
  obtain ⟨a,r,h3,h4,h5⟩:=T.pred m q0 h1 v hv
  obtain ⟨r',c1,c2,c3,_⟩:=old a r h3
  exact ⟨a,r',c1,by omega,c3.trans h5⟩
end TR
namespace TR
theorem JW {α:Type} {xs:List α} {x:α} {m:Nat} {y:α} (h:(xs++[x])[m]?=some y):(m=xs.length/\y=x)∨xs[m]?=some y:=by
 rcases Nat.lt_or_ge m xs.length with q | q
 ·rw [List.getElem?_append_left q] at h;exact .inr h
 ·rw [List.getElem?_append_right q] at h
  by_cases e:m - xs.length=0
  ·rw [e] at h;simp at h;exact .inl ⟨by omega,h.symm⟩
  ·rw [List.getElem?_eq_none (by simp;omega)] at h;cases h
theorem X5 {α:Type} {xs:List α} {x:α} {m:Nat} {y:α} (h:xs[m]?=some y):(xs++[x])[m]?=some y:=by
 rw [List.getElem?_append_left (List.getElem?_eq_some_iff.mp h).1];exact h
theorem QO {α:Type} {xs:List α} {m:Nat} {y:α} (h:xs[m]?=some y):m < xs.length:=(List.getElem?_eq_some_iff.mp h).1
def XY (bg:Bg) (l:Nat) (k:Option Int):Bg:=fun i=>if i=l then k else bg i
theorem Ur {bg:Bg} {l:Nat} {k:Option Int} {i:Nat} (h:i < l):XY bg l k i=bg i:=by unfold XY;rw [if_neg (by omega)]
theorem Z6 {bg:Bg} {l:Nat} {k:Option Int}:XY bg l k l=k:=by unfold XY;rw [if_pos rfl]
section
variable {S:Sh} {bg:Bg} {n:Nat} {p P:Pg}
theorem qC (h3:1<=P.ks.length):P.ks[mid P]?=some (Xa P):=by
 have:mid P < P.ks.length:=by unfold mid;omega
 unfold Xa
 rw [List.getD_eq_getElem?_getD,List.getElem?_eq_getElem this];rfl
theorem qH {ks:List Int} (h:ks.Pairwise (· < ·)) {i j:Nat} {x y:Int} (hi:ks[i]?=some x) (hj:ks[j]?=some y) (hij:i < j):x < y:=by
 obtain ⟨a,rfl⟩:=List.getElem?_eq_some_iff.mp hi
 obtain ⟨b,rfl⟩:=List.getElem?_eq_some_iff.mp hj
 exact List.pairwise_iff_getElem.mp h i j a b hij
theorem Kz (ok:JO P.ks.length (bg n) P) (h3:3<=P.ks.length):ltB (bg n) (Xa P):=by
 intro v hv
 have h0:P.ks[0]?=some (P.ks[0]'(by omega)):=List.getElem?_eq_getElem _
 have a:=ok.low _ (List.getElem_mem (by omega:0 < P.ks.length)) v hv
 have b:=qH ok.sorted h0 (qC (P:=P) (by omega)) (by unfold mid;omega)
 omega
theorem QeS (ok:JO P.ks.length (bg n) P) (h3:3<=P.ks.length) (hr:P.ks.length<=S.room+1) (l:Nat):JO S.room (bg n) (Q6 P l) where
 sorted:=ok.sorted.sublist (List.take_sublist _ _)
 few:=by show (P.ks.take (mid P)).length<=_;rw [List.length_take];unfold mid;omega
 parts:=by
  show (P.ps.take (Zk P)).length=(P.ks.take (mid P)).length+(if P.lv=0 then 0 else 1)
  have:=ok.parts
  rw [List.length_take,List.length_take]
  unfold Zk mid
  split at this<;>split<;>simp_all<;>omega
 low:=fun k hk=>ok.low k (List.mem_of_mem_take hk)
 lowF:=fun h k hk=>ok.lowF h k (List.mem_of_mem_take hk)
 high:=fun k hk v hv=>by
  cases hv
  obtain ⟨i,hi,e⟩:=List.mem_iff_getElem.mp hk
  simp only [Q6,List.getElem_take] at e
  have hi':i < mid P:=by have:=hi;rw [show (Q6 P l).ks=P.ks.take (mid P) from rfl,List.length_take] at this;omega
  exact qH ok.sorted (i:=i) (by rw [<- e];exact List.getElem?_eq_getElem _) (qC (P:=P) (by omega)) hi'
 wide:=fun h hh=>by cases hh;exact Kz ok h3
theorem QeQ (ok:JO P.ks.length (bg n) P) (h3:3<=P.ks.length) (hr:P.ks.length<=S.room+1):JO S.room (some (Xa P)) (QU P) where
 sorted:=ok.sorted.sublist (List.drop_sublist _ _)
 few:=by show (P.ks.drop (Zk P)).length<=_;rw [List.length_drop];unfold Zk mid;split<;>omega
 parts:=by
  show (P.ps.drop (Zk P)).length=(P.ks.drop (Zk P)).length+(if P.lv=0 then 0 else 1)
  have:=ok.parts
  rw [List.length_drop,List.length_drop]
  unfold Zk mid
  split at this<;>split<;>simp_all<;>omega
 low:=fun k hk v hv=>by
  cases hv
  obtain ⟨i,hi,e⟩:=List.mem_iff_getElem.mp hk
  rw [show (QU P).ks=P.ks.drop (Zk P) from rfl] at hi
  have hi2:Zk P+i < P.ks.length:=by rw [List.length_drop] at hi;omega
  have e':P.ks[Zk P+i]?=some k:=by rw [<- e];rw [List.getElem?_eq_getElem hi2];simp [QU]
  rcases Nat.lt_or_ge (mid P) (Zk P+i) with q | q
  ·exact Int.le_of_lt (qH ok.sorted (qC (P:=P) (by omega)) e' q)
  ·have:mid P=Zk P+i:=by unfold Zk at q ⊢;split<;>simp_all<;>omega
   rw [<- this,qC (P:=P) (by omega)] at e';cases e';omega
 lowF:=fun h k hk v hv=>by
  cases hv
  obtain ⟨i,hi,e⟩:=List.mem_iff_getElem.mp hk
  rw [show (QU P).ks=P.ks.drop (Zk P) from rfl] at hi
  have hi2:Zk P+i < P.ks.length:=by rw [List.length_drop] at hi;omega
  have e':P.ks[Zk P+i]?=some k:=by rw [<- e];rw [List.getElem?_eq_getElem hi2];simp [QU]
  have h':0 < P.lv:=h
  exact qH ok.sorted (qC (P:=P) (by omega)) e' (by unfold Zk;rw [if_neg (by omega)];omega)
 high:=fun k hk=>ok.high k (List.mem_of_mem_drop hk)
 wide:=fun h hh v hv=>by
  cases hv
  exact ok.high _ (List.mem_of_getElem? (qC (P:=P) (by omega))) h hh
theorem Tree.split (T:Tree S bg) {x y:Int} (hn:S.pg[n]?=some p) (hl:P.lv=p.lv) (hh:P.hi=p.hi) (hs:P.sd=p.sd) (ok:JO P.ks.length (bg n) P) (h1:S.room < P.ks.length) (h2:P.ks.length<=S.room+1)
  (hk:0 < p.lv->∀ j k,P.ps[j]?=some k->∃ (c:Nat) (q:Pg),k=(c:Int)/\S.pg[c]?=some q/\q.lv+1=p.lv/\bg c=Jl (bg n) P.ks j) :
  Tree { S with pg:=(S.pg++[QU P]).set n (Q6 P S.pg.length),rd:=x,wr:=y } (XY bg S.pg.length (some (Xa P)))/\YX S bg { S with pg:=(S.pg++[QU P]).set n (Q6 P S.pg.length),rd:=x,wr:=y } (XY bg S.pg.length (some (Xa P))):=by
 have r2:=T.room2
 have h3:3<=P.ks.length:=by omega
 have hnl:=QO hn
 have kg:=qC (P:=P) (by omega)
 have kl:=Kz ok h3
 have kh:∀ h,p.hi=some h->Xa P < h:=fun h e=>ok.high _ (List.mem_of_getElem? kg) h (hh.trans e)
 have bo:∀ m q,S.pg[m]?=some q->XY bg S.pg.length (some (Xa P)) m=bg m:=fun m q h=>Ur (QO h)
 have old:∀ (m:Nat) (q:Pg),S.pg[m]?=some q->∃ q':Pg,((S.pg++[QU P]).set n (Q6 P S.pg.length))[m]?=some q'/\q'.lv=q.lv/\(m≠n->q'=q)/\(m=n->q'=Q6 P S.pg.length):=fun m q h=>by
  refine ⟨_,gC (X5 h),?_,fun e=>by rw [if_neg e],fun e=>by rw [if_pos e]⟩
  by_cases e:m=n
  ·subst e;rw [hn] at h;cases h;rw [if_pos rfl];exact hl
  ·rw [if_neg e]
 have gl:((S.pg++[QU P]).set n (Q6 P S.pg.length))[S.pg.length]?=some (QU P):=by
  rw [List.getElem?_set_ne (by omega),List.getElem?_append_right (Nat.le_refl _)];simp
 have gn:((S.pg++[QU P]).set n (Q6 P S.pg.length))[n]?=some (Q6 P S.pg.length):=by
  rw [List.getElem?_set_self (by simp;omega)]
 have new:∀ (m:Nat) (q:Pg),((S.pg++[QU P]).set n (Q6 P S.pg.length))[m]?=some q->(m=n/\q=Q6 P S.pg.length)∨(m=S.pg.length/\q=QU P)∨(m≠n/\S.pg[m]?=some q):=fun m q h=>by
  rcases QK h with ⟨a,b,_⟩ | ⟨a,b⟩
  ·exact .inl ⟨a,b⟩
  ·rcases JW b with c | c
   ·exact .inr (.inl c)
   ·exact .inr (.inr ⟨a,c⟩)
 have olv:(Q6 P S.pg.length).lv=p.lv:=hl
 have nlv:(QU P).lv=p.lv:=hl
 refine ⟨⟨r2,?_,?_,fun m q h=>?_,fun m q h=>?_,fun m q h h0 j k hj=>?_,fun a b q r ha hb hab e=>?_,fun m q h v hv=>?_⟩,⟨fun m q h=>⟨bo m q h,by obtain ⟨q',a,b,_⟩:=old m q h;exact ⟨q',a,b⟩⟩⟩⟩
 ·obtain ⟨r,a,b⟩:=T.root
  obtain ⟨r',c,d,_⟩:=old _ _ a
  refine ⟨r',c,fun m q h=>?_⟩
  rcases new m q h with ⟨_,rfl⟩ | ⟨_,rfl⟩ | ⟨_,h⟩
  ·rw [olv,d];exact b n p hn
  ·rw [nlv,d];exact b n p hn
  ·rw [d];exact b m q h
 ·obtain ⟨r,a,_⟩:=T.root
  rw [show XY bg S.pg.length (some (Xa P)) S.top=bg S.top from bo _ _ a];exact T.rbg
 ·rcases new m q h with ⟨rfl,rfl⟩ | ⟨rfl,rfl⟩ | ⟨_,h⟩
  ·rw [bo _ _ hn];exact QeS ok h3 h2 _
  ·rw [Z6];exact QeQ ok h3 h2
  ·rw [bo _ _ h];exact T.page m q h
 ·rcases new m q h with ⟨rfl,rfl⟩ | ⟨rfl,rfl⟩ | ⟨_,h⟩
  ·exact .inr ⟨Xa P,S.pg.length,QU P,rfl,rfl,gl,rfl,Z6⟩
  ·rcases T.link n p hn with ⟨a,b⟩ | ⟨z,s,r,a,b,c,d,e⟩
   ·exact .inl ⟨hh.trans a,hs.trans b⟩
   ·obtain ⟨r',c1,c2,_⟩:=old s r c
    exact .inr ⟨z,s,r',hh.trans a,hs.trans b,c1,by rw [c2,d,nlv],by rw [bo _ _ c];exact e⟩
  ·rcases T.link m q h with ⟨a,b⟩ | ⟨z,s,r,a,b,c,d,e⟩
   ·exact .inl ⟨a,b⟩
   ·obtain ⟨r',c1,c2,_⟩:=old s r c
    exact .inr ⟨z,s,r',a,b,c1,by rw [c2,d],by rw [bo _ _ c];exact e⟩
 ·have lift:∀ {b0:Option Int} {ks0:List Int} {j0:Nat} {b1:Option Int} {ks1:List Int} {l1:Nat},Jl b0 ks0 j0=Jl b1 ks1 j->l1=p.lv->(∃ (c:Nat) (q:Pg),k=(c:Int)/\S.pg[c]?=some q/\q.lv+1=p.lv/\bg c=Jl b0 ks0 j0)->∃ (c:Nat) (q:Pg),k=(c:Int)/\((S.pg++[QU P]).set n (Q6 P S.pg.length))[c]?=some q/\q.lv+1=l1/\XY bg S.pg.length (some (Xa P)) c=Jl b1 ks1 j:=fun {b0 ks0 j0 b1 ks1 l1} e el ⟨c,q,a1,a2,a3,a4⟩=>by
   obtain ⟨q',c1,c2,_⟩:=old c q a2
   exact ⟨c,q',a1,c1,by omega,by rw [bo _ _ a2,a4,e]⟩
  rcases new m q h with ⟨rfl,rfl⟩ | ⟨rfl,rfl⟩ | ⟨_,h⟩
  ·rw [olv] at h0
   have hc:Zk P=mid P+1:=by unfold Zk;rw [if_neg (by omega)]
   have hjl:j < mid P+1:=by
    have:=QO hj
    rw [show (Q6 P S.pg.length).ps=P.ps.take (Zk P) from rfl,List.length_take,hc] at this;omega
   have hj':P.ps[j]?=some k:=by
    rw [show (Q6 P S.pg.length).ps=P.ps.take (Zk P) from rfl,List.getElem?_take_of_lt (by omega)] at hj;exact hj
   refine lift ?_ olv (hk h0 j k hj')
   rw [bo _ _ hn]
   cases j with
   | zero=>rfl
   | succ i=>show P.ks[i]?=(P.ks.take (mid P))[i]?;rw [List.getElem?_take_of_lt (by omega)]
  ·rw [nlv] at h0
   have hc:Zk P=mid P+1:=by unfold Zk;rw [if_neg (by omega)]
   have hj':P.ps[mid P+1+j]?=some k:=by
    rw [show (QU P).ps=P.ps.drop (Zk P) from rfl,List.getElem?_drop,hc] at hj;exact hj
   refine lift ?_ nlv (hk h0 _ k hj')
   rw [Z6]
   cases j with
   | zero=>show P.ks[mid P+0]?=some (Xa P);exact kg
   | succ i=>show P.ks[mid P+1+i]?=(P.ks.drop (Zk P))[i]?;rw [List.getElem?_drop,hc]
  ·obtain ⟨c,r,a1,a2,a3,a4⟩:=T.kid m q h h0 j k hj
   obtain ⟨r',c1,c2,_⟩:=old c r a2
   exact ⟨c,r',a1,c1,by omega,by rw [bo _ _ a2,bo _ _ h,a4]⟩
 ·have on:∀ (b:Nat) (r:Pg),b≠n->S.pg[b]?=some r->p.lv=r.lv->(∃ h v,(Q6 P S.pg.length).hi=some h/\XY bg S.pg.length (some (Xa P)) b=some v/\h<=v)∨(∃ h v,r.hi=some h/\XY bg S.pg.length (some (Xa P)) n=some v/\h<=v):=fun b r hbn hb hlv=>by
   rcases T.dis n b p r hn hb hlv (Ne.symm hbn) with ⟨h,v,a1,a2,a3⟩ | ⟨h,v,a1,a2,a3⟩
   ·exact .inl ⟨Xa P,v,rfl,by rw [bo _ _ hb];exact a2,by have:=kh h a1;omega⟩
   ·exact .inr ⟨h,v,a1,by rw [bo _ _ hn];exact a2,a3⟩
  have nn:∀ (b:Nat) (r:Pg),b≠n->S.pg[b]?=some r->p.lv=r.lv->(∃ h v,(QU P).hi=some h/\XY bg S.pg.length (some (Xa P)) b=some v/\h<=v)∨(∃ h v,r.hi=some h/\XY bg S.pg.length (some (Xa P)) S.pg.length=some v/\h<=v):=fun b r hbn hb hlv=>by
   rcases T.dis n b p r hn hb hlv (Ne.symm hbn) with ⟨h,v,a1,a2,a3⟩ | ⟨h,v,a1,a2,a3⟩
   ·exact .inl ⟨h,v,hh.trans a1,by rw [bo _ _ hb];exact a2,a3⟩
   ·exact .inr ⟨h,Xa P,a1,Z6,by have:=kl v a2;omega⟩
  rcases new a q ha with ⟨rfl,rfl⟩ | ⟨rfl,rfl⟩ | ⟨na,ha2⟩
  ·rcases new b r hb with ⟨rfl,rfl⟩ | ⟨rfl,rfl⟩ | ⟨nb,hb2⟩
   ·exact absurd rfl e
   ·exact .inl ⟨Xa P,Xa P,rfl,Z6,Int.le_refl _⟩
   ·exact on b r nb hb2 (by rw [<- hab,olv])
  ·rcases new b r hb with ⟨rfl,rfl⟩ | ⟨rfl,rfl⟩ | ⟨nb,hb2⟩
   ·exact .inr ⟨Xa P,Xa P,rfl,Z6,Int.le_refl _⟩
   ·exact absurd rfl e
   ·exact nn b r nb hb2 (by rw [<- hab,nlv])
  ·rcases new b r hb with ⟨rfl,rfl⟩ | ⟨rfl,rfl⟩ | ⟨nb,hb2⟩
   ·exact (on a q na ha2 (by rw [hab,olv])).symm
   ·exact (nn a q na ha2 (by rw [hab,nlv])).symm
   ·rcases T.dis a b q r ha2 hb2 hab e with ⟨h,v,a1,a2,a3⟩ | ⟨h,v,a1,a2,a3⟩
    ·exact .inl ⟨h,v,a1,by rw [bo _ _ hb2];exact a2,a3⟩
    ·exact .inr ⟨h,v,a1,by rw [bo _ _ ha2];exact a2,a3⟩
 ·have pr:∀ (l:Nat) (z:Pg),S.pg[l]?=some z->z.hi=some v->∃ (m:Nat) (q:Pg),((S.pg++[QU P]).set n (Q6 P S.pg.length))[m]?=some q/\q.lv=z.lv/\q.hi=some v:=fun l z hz hv=>by
   by_cases e:l=n
   ·subst e;rw [hn] at hz;cases hz
    exact ⟨_,_,gl,nlv,hh.trans hv⟩
   ·obtain ⟨z',c1,c2,c3,_⟩:=old l z hz
    exact ⟨l,z',c1,c2,by rw [c3 e];exact hv⟩
  rcases new m q h with ⟨rfl,rfl⟩ | ⟨rfl,rfl⟩ | ⟨nm,h⟩
  ·rw [bo _ _ hn] at hv
   obtain ⟨a,z,b1,b2,b3⟩:=T.pred m p hn v hv
   obtain ⟨c,z',d1,d2,d3⟩:=pr a z b1 b3
   exact ⟨c,z',d1,by rw [d2,b2,olv],d3⟩
  ·rw [Z6] at hv
   exact ⟨n,_,gn,by rw [olv,nlv],hv⟩
  ·rw [bo _ _ h] at hv
   obtain ⟨a,z,b1,b2,b3⟩:=T.pred m q h v hv
   obtain ⟨c,z',d1,d2,d3⟩:=pr a z b1 b3
   exact ⟨c,z',d1,by rw [d2,b2],d3⟩
end
end TR
namespace TR
section
variable {S:Sh} {bg:Bg} {n:Nat} {p:Pg}
theorem Tree.raise (T:Tree S bg) {r q:Pg} {k:Nat} {aim x y:Int} (hr:S.pg[S.top]?=some r) (hk:S.pg[k]?=some q) (hl:q.lv=r.lv) (hb:bg k=some aim) :
    Tree { S with rd:=x,pg:=S.pg++[⟨r.lv+1,[aim],[(S.top:Int),(k:Int)],none,none⟩],top:=S.pg.length,wr:=y } (XY bg S.pg.length none)/\YX S bg { S with rd:=x,pg:=S.pg++[⟨r.lv+1,[aim],[(S.top:Int),(k:Int)],none,none⟩],top:=S.pg.length,wr:=y } (XY bg S.pg.length none):=by
  have r2:=T.room2
  have lev:∀ (m:Nat) (z:Pg),S.pg[m]?=some z->z.lv<=r.lv:=fun m z h=>by
    obtain ⟨r',a,b⟩:=T.root
    rw [hr] at a;cases a;exact b m z h
  have bo:∀ (m:Nat) (z:Pg),S.pg[m]?=some z->XY bg S.pg.length none m=bg m:=fun m z h=>Ur (QO h)
  have gl:(S.pg++[(⟨r.lv+1,[aim],[(S.top:Int),(k:Int)],none,none⟩:Pg)])[S.pg.length]?=some ⟨r.lv+1,[aim],[(S.top:Int),(k:Int)],none,none⟩:=by simp
  refine ⟨⟨r2,⟨_,gl,fun m z h=>?_⟩,Z6,fun m z h=>?_,fun m z h=>?_,fun m z h h0 j c hj=>?_,fun a b z z' ha hb' hab e=>?_,fun m z h v hv=>?_⟩,⟨fun m z h=>⟨bo m z h,z,X5 h,rfl⟩⟩⟩
  . rcases JW h with ⟨_,rfl⟩ | h
    . exact Nat.le_refl _
    . exact Nat.le_succ_of_le (lev m z h)
  . rcases JW h with ⟨rfl,rfl⟩ | h
    . rw [Z6]
      exact ⟨by simp,by show 1<=S.room;omega,by simp,fun k hk v hv=>(by cases hv),fun _ k hk v hv=>(by cases hv),fun k hk v hv=>(by cases hv),fun h hh=>(by cases hh)⟩
    . rw [bo _ _ h];exact T.page m z h
  . rcases JW h with ⟨rfl,rfl⟩ | h
    . exact .inl ⟨rfl,rfl⟩
    . rcases T.link m z h with a | ⟨z1,s,z2,a,b,c,d,e⟩
      . exact .inl a
      . exact .inr ⟨z1,s,z2,a,b,X5 c,d,by rw [bo _ _ c];exact e⟩
  . rcases JW h with ⟨rfl,rfl⟩ | h
    . match j,hj with
      | 0,hj =>
        cases hj
        exact ⟨S.top,r,rfl,X5 hr,rfl,by rw [bo _ _ hr,Z6];exact T.rbg⟩
      | 1,hj =>
        cases hj
        exact ⟨k,q,rfl,X5 hk,by show q.lv+1=r.lv+1;omega,by rw [bo _ _ hk];exact hb⟩
      | j+2,hj=>simp at hj
    . obtain ⟨c',z',a1,a2,a3,a4⟩:=T.kid m z h h0 j c hj
      exact ⟨c',z',a1,X5 a2,a3,by rw [bo _ _ a2,bo _ _ h,a4]⟩
  . rcases JW ha with ⟨rfl,rfl⟩ | ha2
    . rcases JW hb' with ⟨rfl,rfl⟩ | hb2
      . exact absurd rfl e
      . have:=lev b z' hb2;have:r.lv+1=z'.lv:=hab;omega
    . rcases JW hb' with ⟨rfl,rfl⟩ | hb2
      . have:=lev a z ha2;have:z.lv=r.lv+1:=hab;omega
      . rcases T.dis a b z z' ha2 hb2 hab e with ⟨h,v,a1,a2,a3⟩ | ⟨h,v,a1,a2,a3⟩
        . exact .inl ⟨h,v,a1,by rw [bo _ _ hb2];exact a2,a3⟩
        . exact .inr ⟨h,v,a1,by rw [bo _ _ ha2];exact a2,a3⟩
  . rcases JW h with ⟨rfl,rfl⟩ | h
    . rw [Z6] at hv;cases hv
    . rw [bo _ _ h] at hv
      obtain ⟨a,z1,b1,b2,b3⟩:=T.pred m z h v hv
      exact ⟨a,z1,X5 b1,b2,b3⟩
theorem vp {k:Int} (h:JU p k=false):ltH k p.hi:=fun v hv=>by
 unfold JU at h;rw [hv] at h;simp at h;omega
theorem vb {room:Nat} (ok:JO room (bg n) p) (hl:p.lv=0) {k x:Int} (h1:leB (bg n) k) (h2:ltH k p.hi):JO (QZ p k x).ks.length (bg n) (QZ p k x) where
 sorted:=Vk ok.sorted k
 few:=Nat.le_refl _
 parts:=by
  have a:=ok.parts
  rw [if_pos hl] at a
  have b:=xM p.ks k
  have c:=Xz p.ks k
  show (p.ps.take (cLt p.ks k)++x::p.ps.drop (cLe p.ks k)).length=(p.ks.take (cLt p.ks k)++k::p.ks.drop (cLe p.ks k)).length+(if p.lv=0 then 0 else 1)
  rw [if_pos hl]
  simp only [List.length_append,List.length_cons,List.length_take,List.length_drop];omega
 low:=fun y hy=>by
  rcases j6 ok.sorted hy with rfl | hy
  ·exact h1
  ·exact ok.low y hy
 lowF:=fun h=>by have:0 < p.lv:=h;omega
 high:=fun y hy=>by
  rcases j6 ok.sorted hy with rfl | hy
  ·exact h2
  ·exact ok.high y hy
 wide:=ok.wide
theorem xE {room:Nat} (ok:JO room (bg n) p) {k x:Int}:(QZ p k x).ks.length<=room+1:=by
 have b:=xM p.ks k
 have c:=Xz p.ks k
 have d:=Kl p.ks k
 have e:=ok.few
 show (p.ks.take (cLt p.ks k)++k::p.ks.drop (cLe p.ks k)).length<=_
 simp only [List.length_append,List.length_cons,List.length_take,List.length_drop];omega
theorem ul {room:Nat} (ok:JO room (bg n) p) (hl:p.lv=0) {k:Int}:JO room (bg n) (without p k) where
 sorted:=vA ok.sorted k
 few:=by
  have b:=xM p.ks k
  have c:=Xz p.ks k
  have d:=Kl p.ks k
  have e:=ok.few
  show (p.ks.take (cLt p.ks k)++p.ks.drop (cLe p.ks k)).length<=_
  simp only [List.length_append,List.length_take,List.length_drop];omega
 parts:=by
  have a:=ok.parts
  rw [if_pos hl] at a
  have b:=xM p.ks k
  have c:=Xz p.ks k
  show (p.ps.take (cLt p.ks k)++p.ps.drop (cLe p.ks k)).length=(p.ks.take (cLt p.ks k)++p.ks.drop (cLe p.ks k)).length+(if p.lv=0 then 0 else 1)
  rw [if_pos hl]
  simp only [List.length_append,List.length_take,List.length_drop];omega
 low:=fun y hy=>ok.low y (uD hy)
 lowF:=fun h=>by have:0 < p.lv:=h;omega
 high:=fun y hy=>ok.high y (uD hy)
 wide:=ok.wide
theorem Qck (T:Tree S bg) (hn:S.pg[n]?=some p) {k:Nat} {q:Pg} {aim:Int} (hk:S.pg[k]?=some q) (hl:q.lv+1=p.lv) (hb:bg k=some aim) (hu:Untold S k):aim∉p.ks/\bg n≠some aim:=by
 have ok:=T.page n p hn
 have h0:0 < p.lv:=by omega
 have pl:=ok.parts
 rw [if_neg (by omega)] at pl
 have key:∀ j,Jl (bg n) p.ks j=some aim->j < p.ps.length->False:=fun j e hj=>by
  obtain ⟨c,z,a1,a2,a3,a4⟩:=T.kid n p hn h0 j _ (List.getElem?_eq_getElem hj)
  have:c=k:=T.uniq a2 hk (by omega) (by rw [a4,e,hb])
  subst this
  exact hu n p hn h0 (by rw [<- a1];exact List.getElem_mem hj)
 refine ⟨fun hm=>?_,fun e=>key 0 e (by omega)⟩
 obtain ⟨i,hi,e⟩:=List.mem_iff_getElem.mp hm
 exact key (i+1) (by show p.ks[i]?=some aim;rw [List.getElem?_eq_getElem hi,e]) (by omega)
theorem qI {k:Int} {c:Nat} (h:k∉p.ks):(Zv p k c).ks=p.ks.take (cLt p.ks k)++k::p.ks.drop (cLe p.ks k):=by
 show p.ks.take (cLe p.ks k)++k::p.ks.drop (cLe p.ks k)=_
 rw [Qen h]
theorem uj {room:Nat} (ok:JO room (bg n) p) (hl:0 < p.lv) {k:Int} {c:Nat} (hk:k∉p.ks) (h1:ltB (bg n) k) (h2:ltH k p.hi):JO (Zv p k c).ks.length (bg n) (Zv p k c) where
 sorted:=by rw [qI hk];exact Vk ok.sorted k
 few:=Nat.le_refl _
 parts:=by
  have a:=ok.parts
  rw [if_neg (by omega)] at a
  have d:=Xz p.ks k
  show (p.ps.take (cLe p.ks k+1)++(c:Int)::p.ps.drop (cLe p.ks k+1)).length=(p.ks.take (cLe p.ks k)++k::p.ks.drop (cLe p.ks k)).length+(if p.lv=0 then 0 else 1)
  rw [if_neg (by omega)]
  simp only [List.length_append,List.length_cons,List.length_take,List.length_drop];omega
 low:=fun y hy=>by
  rw [qI hk] at hy
  rcases j6 ok.sorted hy with rfl | hy
  ·exact fun v hv=>Int.le_of_lt (h1 v hv)
  ·exact ok.low y hy
 lowF:=fun h y hy=>by
  rw [qI hk] at hy
  rcases j6 ok.sorted hy with rfl | hy
  ·exact h1
  ·exact ok.lowF hl y hy
 high:=fun y hy=>by
  rw [qI hk] at hy
  rcases j6 ok.sorted hy with rfl | hy
  ·exact h2
  ·exact ok.high y hy
 wide:=ok.wide
theorem yG {room:Nat} (ok:JO room (bg n) p) {k:Int} {c:Nat}:(Zv p k c).ks.length<=room+1:=by
 have d:=Xz p.ks k
 have e:=ok.few
 show (p.ks.take (cLe p.ks k)++k::p.ks.drop (cLe p.ks k)).length<=_
 simp only [List.length_append,List.length_cons,List.length_take,List.length_drop];omega
theorem KZ (T:Tree S bg) (hn:S.pg[n]?=some p) {k:Nat} {q:Pg} {aim:Int} (hk:S.pg[k]?=some q) (hl:q.lv+1=p.lv) (hb:bg k=some aim) :
    ∀ j c,(Zv p aim k).ps[j]?=some c->∃ (c':Nat) (q:Pg),c=(c':Int)/\S.pg[c']?=some q/\q.lv+1=p.lv/\bg c'=Jl (bg n) (Zv p aim k).ks j:=by
  intro j c hj
  have ok:=T.page n p hn
  have h0:0 < p.lv:=by omega
  have pl:=ok.parts
  rw [if_neg (by omega)] at pl
  have d:=Xz p.ks aim
  have hj:(p.ps.take (cLe p.ks aim+1)++(k:Int)::p.ps.drop (cLe p.ks aim+1))[j]?=some c:=hj
  show ∃ (c':Nat) (q:Pg),c=(c':Int)/\S.pg[c']?=some q/\q.lv+1=p.lv/\bg c'=Jl (bg n) (p.ks.take (cLe p.ks aim)++aim::p.ks.drop (cLe p.ks aim)) j
  have lt:(p.ps.take (cLe p.ks aim+1)).length=cLe p.ks aim+1:=by rw [List.length_take];omega
  have lk:(p.ks.take (cLe p.ks aim)).length=cLe p.ks aim:=by rw [List.length_take];omega
  rcases Nat.lt_or_ge j (cLe p.ks aim+1) with h | h
  . rw [List.getElem?_append_left (by omega),List.getElem?_take_of_lt h] at hj
    obtain ⟨c',z,a1,a2,a3,a4⟩:=T.kid n p hn h0 j c hj
    refine ⟨c',z,a1,a2,a3,?_⟩
    rw [a4]
    cases j with
    | zero=>rfl
    | succ i =>
      show p.ks[i]?=(p.ks.take (cLe p.ks aim)++aim::p.ks.drop (cLe p.ks aim))[i]?
      rw [List.getElem?_append_left (by omega),List.getElem?_take_of_lt (by omega)]
  . rw [List.getElem?_append_right (by omega),lt] at hj
    rcases Nat.lt_or_ge (cLe p.ks aim+1) j with h2 | h2
    . obtain ⟨i,rfl⟩:∃ i,j=cLe p.ks aim+2+i:=⟨j - (cLe p.ks aim+2),by omega⟩
      rw [show cLe p.ks aim+2+i - (cLe p.ks aim+1)=i+1 by omega,List.getElem?_cons_succ,List.getElem?_drop] at hj
      obtain ⟨c',z,a1,a2,a3,a4⟩:=T.kid n p hn h0 _ c hj
      refine ⟨c',z,a1,a2,a3,?_⟩
      rw [a4]
      rw [show cLe p.ks aim+1+i=(cLe p.ks aim+i)+1 by omega,show cLe p.ks aim+2+i=(cLe p.ks aim+1+i)+1 by omega]
      show p.ks[cLe p.ks aim+i]?=(p.ks.take (cLe p.ks aim)++aim::p.ks.drop (cLe p.ks aim))[cLe p.ks aim+1+i]?
      rw [List.getElem?_append_right (by omega),lk,show cLe p.ks aim+1+i - cLe p.ks aim=i+1 by omega,List.getElem?_cons_succ,List.getElem?_drop]
    . have e:j=cLe p.ks aim+1:=by omega
      subst e
      rw [show cLe p.ks aim+1 - (cLe p.ks aim+1)=0 by omega] at hj
      cases hj
      refine ⟨k,q,rfl,hk,hl,?_⟩
      rw [hb]
      show some aim=(p.ks.take (cLe p.ks aim)++aim::p.ks.drop (cLe p.ks aim))[cLe p.ks aim]?
      rw [List.getElem?_append_right (by omega),lk];simp
end
end TR
namespace TR
structure All (S:Sh) (bg:Bg) (ws:List Wk):Prop where
 ok:∀ (i:Nat) (w:Wk),ws[i]?=some w->w.ended=false->WOk S bg w
 unt:∀ (i:Nat) (w:Wk) (k:Nat),ws[i]?=some w->w.ended=false->0 < w.goal->w.newp=some k->Untold S k
 diff:∀ (i j:Nat) (w v:Wk) (k:Nat),i≠j->ws[i]?=some w->ws[j]?=some v->w.ended=false->v.ended=false->0 < w.goal->0 < v.goal->w.newp=some k->v.newp≠some k
structure Stp (S:Sh) (bg:Bg) (w:Wk) (S':Sh) (bg':Bg) (w':Wk):Prop where
 tree:Tree S' bg'
 grow:YX S bg S' bg'
 wok:w'.ended=false->WOk S' bg' w'
 unt:∀ k v,Untold S k->bg k=some v->(0 < w.goal->w.newp≠some k)->Untold S' k
 new:∀ k,w'.ended=false->0 < w'.goal->w'.newp=some k->Untold S' k/\((0 < w.goal/\w.newp=some k)∨S.pg.length<=k)
 room:S'.room=S.room
 len:S'.pg.length<=S.pg.length+1
theorem All.step {S S':Sh} {bg bg':Bg} {ws:List Wk} {i:Nat} {w w':Wk} (A:All S bg ws) (hi:ws[i]?=some w) (hw:w.ended=false) (st:Stp S bg w S' bg' w'):All S' bg' (ws.set i w') where
 ok:=fun j v hj hv=>by
  rcases QK hj with ⟨rfl,rfl,_⟩ | ⟨_,h⟩
  ·exact st.wok hv
  ·exact (A.ok j v h hv).grow st.grow
 unt:=fun j v k hj hv hg hk=>by
  rcases QK hj with ⟨rfl,rfl,_⟩ | ⟨e,h⟩
  ·exact (st.new k hv hg hk).1
  ·obtain ⟨k',q,a1,a2,a3,a4⟩:=(A.ok j v h hv).tell hg
   rw [hk] at a1;cases a1
   exact st.unt k _ (A.unt j v k h hv hg hk) a4 fun g0=>(A.diff j i v w k e h hi hv hw hg g0 hk)
 diff:=fun a b u v k e ha hb hu hv gu gv hk hk'=>by
  have key:∀ (c:Nat) (x:Wk),c≠i->ws[c]?=some x->x.ended=false->0 < x.goal->x.newp=some k->w'.ended=false->0 < w'.goal->w'.newp=some k->False:=fun c x hc hx he hg hk he' hg' hk'=>by
   rcases (st.new k he' hg' hk').2 with ⟨g0,n0⟩ | l
   ·exact A.diff c i x w k hc hx hi he hw hg g0 hk n0
   ·obtain ⟨k',q,a1,a2,_⟩:=(A.ok c x hx he).tell hg
    rw [hk] at a1;cases a1
    have:=QO a2;omega
  rcases QK ha with ⟨rfl,rfl,_⟩ | ⟨ea,ha2⟩
  ·rcases QK hb with ⟨rfl,rfl,_⟩ | ⟨eb,hb2⟩
   ·exact e rfl
   ·exact key b v eb hb2 hv gv hk' hu gu hk
  ·rcases QK hb with ⟨rfl,rfl,_⟩ | ⟨eb,hb2⟩
   ·exact key a u ea ha2 hu gu hk hv gv hk'
   ·exact A.diff a b u v k e ha2 hb2 hu hv gu gv hk hk'
theorem All.put {S:Sh} {bg:Bg} {ws:List Wk} {i:Nat} {w:Wk} (A:All S bg ws) (h1:w.place=none) (h2:w.forks=[]) (h3:w.goal=0):All S bg (ws.set i w) where
 ok:=fun j v hj hv=>by
  rcases QK hj with ⟨rfl,rfl,_⟩ | ⟨_,h⟩
  ·exact WOk.fresh h1 h2 h3
  ·exact A.ok j v h hv
 unt:=fun j v k hj hv hg hk=>by
  rcases QK hj with ⟨rfl,rfl,_⟩ | ⟨_,h⟩
  ·omega
  ·exact A.unt j v k h hv hg hk
 diff:=fun a b u v k e ha hb hu hv gu gv hk=>by
  rcases QK ha with ⟨rfl,rfl,_⟩ | ⟨_,ha⟩
  ·omega
  ·rcases QK hb with ⟨rfl,rfl,_⟩ | ⟨_,hb⟩
   ·omega
   ·exact A.diff a b u v k e ha hb hu hv gu gv hk
theorem Tree.rd {S:Sh} {bg:Bg} (T:Tree S bg) (x y:Int):Tree { S with rd:=x,wr:=y } bg:=⟨T.room2,T.root,T.rbg,T.page,T.link,T.kid,T.dis,T.pred⟩
section
variable {S:Sh} {bg:Bg} {n:Nat} {p P:Pg} {w:Wk}
theorem Untold.set {S:Sh} {n:Nat} {p P:Pg} {k:Nat} {x y:Int} (h:Untold S k) (hn:S.pg[n]?=some p) (hl:P.lv=p.lv) (hs:0 < p.lv->(k:Int)∈P.ps->(k:Int)∈p.ps):Untold { S with pg:=S.pg.set n P,rd:=x,wr:=y } k:=fun m q hm h0 hk=>by
 rcases QK hm with ⟨rfl,rfl,_⟩ | ⟨_,hm⟩
 ·exact h m p hn (by omega) (hs (by omega) hk)
 ·exact h m q hm h0 hk
theorem Untold.halves {S:Sh} {n:Nat} {p P:Pg} {k l:Nat} {x y:Int} (h:Untold S k) (hn:S.pg[n]?=some p) (hl:P.lv=p.lv) (hs:0 < p.lv->(k:Int)∈P.ps->(k:Int)∈p.ps):Untold { S with pg:=(S.pg++[QU P]).set n (Q6 P l),rd:=x,wr:=y } k:=fun m q hm h0 hk=>by
 rcases QK hm with ⟨rfl,rfl,_⟩ | ⟨_,hm⟩
 ·have h0':0 < P.lv:=h0
  exact h m p hn (by omega) (hs (by omega) (List.mem_of_mem_take hk))
 ·rcases JW hm with ⟨rfl,rfl⟩ | hm
  ·have h0':0 < P.lv:=h0
   exact h n p hn (by omega) (hs (by omega) (List.mem_of_mem_drop hk))
  ·exact h m q hm h0 hk
theorem Tree.untold_new (T:Tree S bg) {k:Nat} (h:S.pg.length<=k):Untold S k:=fun m q hm h0 hk=>by
 obtain ⟨j,hj,e⟩:=List.mem_iff_getElem.mp hk
 obtain ⟨c,z,a1,a2,_⟩:=T.kid m q hm h0 j _ (List.getElem?_eq_getElem hj)
 rw [e] at a1
 have:k=c:=by omega
 have:=QO a2;omega
theorem U1 (T:Tree S bg) (hn:S.pg[n]?=some p) (hl:P.lv=p.lv) (hh:P.hi=p.hi) (hs:P.sd=p.sd) (ok:JO P.ks.length (bg n) P) (h2:P.ks.length<=S.room+1)
  (hk:0 < p.lv->∀ j k,P.ps[j]?=some k->∃ (c:Nat) (q:Pg),k=(c:Int)/\S.pg[c]?=some q/\q.lv+1=p.lv/\bg c=Jl (bg n) P.ks j)
  (W:WOk S bg w) (hw:w.ended=false) (hpl:w.place=some n∨w.place=none) (hg:p.lv=w.goal) (hsub:∀ k:Nat,0 < p.lv->(k:Int)∈P.ps->(k:Int)∈p.ps∨(0 < w.goal/\w.newp=some k)) :
  ∃ bg',Stp S bg w (QD S w n P).2.1 bg' (QD S w n P).2.2:=by
 unfold QD
 by_cases hr:P.ks.length<=S.room
 ·rw [if_pos hr]
  obtain ⟨T',G⟩:=T.write (x:=S.rd) (y:=S.wr+1) (p':=P) hn hl hh hs ⟨ok.sorted,hr,ok.parts,ok.low,ok.lowF,ok.high,ok.wide⟩ hk
  refine ⟨bg,T',G,fun h=>(by cases h),fun k v hu hb hne=>hu.set hn hl fun h0 hm=>?_,fun k h=>(by cases h),rfl,(by simp)⟩
  rcases hsub k h0 hm with a | ⟨a,b⟩
  ·exact a
  ·exact absurd b (hne a)
 ·rw [if_neg hr]
  obtain ⟨T',G⟩:=T.split (x:=S.rd) (y:=S.wr+1+1) hn hl hh hs ok (by omega) h2 hk
  have r2:=T.room2
  have kl:=Kz ok (by omega)
  have gl:((S.pg++[QU P]).set n (Q6 P S.pg.length))[S.pg.length]?=some (QU P):=by
   rw [List.getElem?_set_ne (by have:=QO hn;omega),List.getElem?_append_right (Nat.le_refl _)];simp
  have pln:∀ f,JV w.forks (p.lv+1)=some f->w.place=some n:=fun f hf=>by
   rcases hpl with h | h
   ·exact h
   ·have:=W.none_ h _ f hf;omega
  refine ⟨_,T',G,fun _=>?_,fun k v hu hb hne=>hu.halves hn hl fun h0 hm=>?_,fun k _ _ e=>?_,rfl,by simp⟩
  ·have lv':P.lv=w.goal:=hl.trans hg
   refine ⟨fun f hf=>?_,fun hnone l f hf=>?_,fun l f hf=>?_,fun f q hf hq l f' hf' hlt=>?_,fun l f l' f' hf hf' a b=>?_,fun f q hf hq hlt=>?_,fun f q hf hq l' f' hf' l a b=>?_,fun _=>⟨S.pg.length,QU P,rfl,gl,rfl,Z6⟩⟩
   ·have hf:JV w.forks (P.lv+1)=some f:=hf
    rw [hl] at hf
    obtain ⟨q,a1,a2⟩:=W.kept _ f hf
    obtain ⟨e,q',a3,a4⟩:=G.old f q a1
    refine ⟨q',a3,?_,?_⟩
    ·show P.lv+1<=q'.lv;omega
    ·rw [e]
     intro v hv
     obtain ⟨u,b1,b2⟩:=W.above n p (pln f hf) hn _ f hf (by omega) v hv
     have:=kl u b1;show v<=Xa P;omega
   ·have hnone:JV w.forks (P.lv+1)=none:=hnone
    show l < P.lv+1
    rcases Nat.lt_or_ge l (P.lv+1) with h | h
    ·exact h
    ·exfalso
     rcases hpl with hp | hp
     ·obtain ⟨f0,hf0⟩:=W.full n p hp hn l f hf (P.lv+1) (by omega) h
      rw [hnone] at hf0;cases hf0
     ·have:=W.none_ hp l f hf;omega
   ·obtain ⟨q,a1,a2⟩:=W.kept l f hf
    obtain ⟨e,q',a3,a4⟩:=G.old f q a1
    exact ⟨q',a3,by omega⟩
   ·have hf:JV w.forks (P.lv+1)=some f:=hf
    obtain ⟨q0,a1,a2⟩:=W.kept _ f hf
    obtain ⟨q1,b1,b2⟩:=W.kept _ f' hf'
    obtain ⟨e,q',a3,a4⟩:=G.old f q0 a1
    rw [e,(G.old f' q1 b1).1]
    rw [a3] at hq;cases hq
    exact W.chain _ f l f' hf hf' (by omega) (by omega)
   ·obtain ⟨q0,a1,a2⟩:=W.kept _ f hf
    obtain ⟨q1,b1,b2⟩:=W.kept _ f' hf'
    rw [(G.old f q0 a1).1,(G.old f' q1 b1).1]
    have a:P.lv+1<=l:=a
    exact W.chain l f l' f' hf hf' (by omega) b
   ·have hf:JV w.forks (P.lv+1)=some f:=hf
    obtain ⟨q0,a1,a2⟩:=W.kept _ f hf
    obtain ⟨e,q',a3,a4⟩:=G.old f q0 a1
    have hlt2:P.lv+1 < q.lv:=hlt
    rw [a3] at hq;cases hq
    omega
   ·have hf:JV w.forks (P.lv+1)=some f:=hf
    obtain ⟨q0,a1,a2⟩:=W.kept _ f hf
    obtain ⟨e,q',a3,a4⟩:=G.old f q0 a1
    rw [a3] at hq;cases hq
    rw [hl] at hf
    exact W.full n p (pln f hf) hn l' f' hf' l (by omega) b
  ·rcases hsub k h0 hm with a | ⟨a,b⟩
   ·exact a
   ·exact absurd b (hne a)
  ·have e:S.pg.length=k:=Option.some.inj e
   subst e
   refine ⟨(T.untold_new (Nat.le_refl _)).halves hn hl fun h0 hm=>?_,.inr (Nat.le_refl _)⟩
   obtain ⟨j,hj,e⟩:=List.mem_iff_getElem.mp hm
   obtain ⟨c,z,a1,a2,_⟩:=hk h0 j _ (List.getElem?_eq_getElem hj)
   rw [e] at a1
   have:S.pg.length=c:=by omega
   have:=QO a2;omega
end
end TR
namespace TR
section
variable {S:Sh} {bg:Bg} {n:Nat} {p:Pg} {w:Wk}
theorem kS {ks:List Int} (h:ks.Pairwise (· < ·)) {k x:Int} {i:Nat} (hi:i < cLe ks k) (hx:ks[i]?=some x):x<=k:=by
 have e:(ks.take (cLe ks k))[i]?=some x:=by rw [List.getElem?_take_of_lt hi];exact hx
 rw [(zG h k).1] at e
 simpa using (List.mem_filter.mp (List.mem_of_getElem? e)).2
theorem uP (T:Tree S bg) (W:WOk S bg w) (hpl:w.place=some n∨w.place=none) (hn:S.pg[n]?=some p) (hg:w.goal<=p.lv) {s:Nat} {q:Pg} {h:Int} (hh:p.hi=some h) (hs:S.pg[s]?=some q) (hl:q.lv=p.lv) (hb:bg s=some h) {w':Wk} (e1:w'.place=some s) (e2:w'.forks=w.forks) (e3:w'.goal=w.goal) (e4:h<=w'.aim) (e5:0 < w.goal->w'.newp=w.newp/\w'.aim=w.aim):WOk S bg w' where
 at_:=fun m hm=>by
  rw [e1] at hm;cases hm
  exact ⟨q,hs,by omega,fun v hv=>by rw [hb] at hv;cases hv;exact e4⟩
 none_:=fun hm=>by rw [e1] at hm;cases hm
 kept:=fun l f hf=>W.kept l f (e2▸hf)
 above:=fun m z hm hz l f hf hlt=>by
  rw [e1] at hm;cases hm
  rw [hs] at hz;cases hz
  rw [e2] at hf
  rcases hpl with hp | hp
  ·refine (W.above n p hp hn l f hf (by omega)).trans fun v hv=>⟨h,hb,?_⟩
   have:=(T.page n p hn).wide h hh v hv;omega
  ·have:=W.none_ hp l f hf;omega
 chain:=fun l f l' f' hf hf' a b=>W.chain l f l' f' (e2▸hf) (e2▸hf') (e3▸a) b
 gap:=fun m z hm hz hlt l f hf=>by
  rw [e1] at hm;cases hm
  rw [hs] at hz;cases hz
  rw [e2] at hf
  rcases hpl with hp | hp
  ·rcases W.gap n p hp hn (by omega) l f hf with a | a
   ·exact .inl (by omega)
   ·exact .inr (by omega)
  ·exact .inl (by have:=W.none_ hp l f hf;omega)
 full:=fun m z hm hz l' f' hf' l a b=>by
  rw [e1] at hm;cases hm
  rw [hs] at hz;cases hz
  rw [e2] at hf' ⊢
  rcases hpl with hp | hp
  ·exact W.full n p hp hn l' f' hf' l (by omega) b
  ·have:=W.none_ hp l' f' hf';omega
 tell:=fun h0=>by
  rw [e3] at h0 ⊢
  obtain ⟨k,z,a1,a2,a3,a4⟩:=W.tell h0
  obtain ⟨b1,b2⟩:=e5 h0
  exact ⟨k,z,b1.trans a1,a2,a3,by rw [b2];exact a4⟩
theorem QcR (T:Tree S bg) (W:WOk S bg w) (hpl:w.place=some n∨(w.place=none/\n=S.top)) (hn:S.pg[n]?=some p) (hg:w.goal < p.lv) {c:Nat} {q:Pg} (hc:S.pg[c]?=some q) (hl:q.lv+1=p.lv) (hb:bg c=Jl (bg n) p.ks (cLe p.ks w.aim)):WOk S bg { w with forks:=zx w.forks p.lv n,place:=some c }:=by
  have ok:=T.page n p hn
  have lb:leBB (bg n) (bg c):=by
    rw [hb]
    cases e:cLe p.ks w.aim with
    | zero=>exact leBB.refl _
    | succ i =>
      intro v hv
      have hi:i < p.ks.length:=by have:=Xz p.ks w.aim;omega
      refine ⟨p.ks[i],List.getElem?_eq_getElem hi,Int.le_of_lt (ok.lowF (by omega) _ (List.getElem_mem hi) v hv)⟩
  have la:leB (bg n) w.aim:=by
    rcases hpl with hp | ⟨_,rfl⟩
    . obtain ⟨p',a1,a2,a3⟩:=W.at_ n hp
      exact a3
    . intro v hv;rw [T.rbg] at hv;cases hv
  have ca:leB (bg c) w.aim:=by
    rw [hb]
    cases e:cLe p.ks w.aim with
    | zero=>exact la
    | succ i=>intro v hv;exact kS ok.sorted (by omega) hv
  have old:∀ l f,JV w.forks l=some f->l≠p.lv->l < w.goal∨(p.lv < l/\w.place=some n):=fun l f hf hne=>by
    rcases hpl with hp | ⟨hp,_⟩
    . rcases W.gap n p hp hn hg l f hf with a | a
      . exact .inl a
      . exact .inr ⟨a,hp⟩
    . exact .inl (W.none_ hp l f hf)
  have gp:∀ l f,JV (zx w.forks p.lv n) l=some f->(l=p.lv/\f=n)∨(l≠p.lv/\JV w.forks l=some f):=fun l f hf=>by
    rw [zh] at hf
    by_cases e:l=p.lv
    . rw [if_pos e] at hf;cases hf;exact .inl ⟨e,rfl⟩
    . rw [if_neg e] at hf;exact .inr ⟨e,hf⟩
  refine ⟨fun m hm=>?_,fun hm=>(by cases hm),fun l f hf=>?_,fun m z hm hz l f hf hlt=>?_,fun l f l' f' hf hf' a b=>?_,fun m z hm hz hlt l f hf=>?_,fun m z hm hz l' f' hf' l a b=>?_,W.tell⟩
  . cases hm
    refine ⟨q,hc,?_,ca⟩
    show w.goal<=q.lv;omega
  . rcases gp l f hf with ⟨rfl,rfl⟩ | ⟨_,h⟩
    . exact ⟨p,hn,rfl⟩
    . exact W.kept l f h
  . cases hm
    rw [hc] at hz;cases hz
    rcases gp l f hf with ⟨rfl,rfl⟩ | ⟨hne,h⟩
    . exact lb
    . rcases old l f h hne with a | ⟨a,hp⟩
      . omega
      . exact (W.above n p hp hn l f h a).trans lb
  . have a:w.goal<=l:=a
    rcases gp l f hf with ⟨rfl,rfl⟩ | ⟨hne,h⟩
    . rcases gp l' f' hf' with ⟨rfl,rfl⟩ | ⟨hne',h'⟩
      . omega
      . rcases old l' f' h' hne' with c1 | ⟨c1,hp⟩
        . omega
        . exact W.above _ p hp hn l' f' h' c1
    . rcases gp l' f' hf' with ⟨rfl,rfl⟩ | ⟨hne',h'⟩
      . rcases old l f h hne with c1 | ⟨c1,hp⟩<;>omega
      . exact W.chain l f l' f' h h' a b
  . cases hm
    rw [hc] at hz;cases hz
    show l < w.goal∨_
    rcases gp l f hf with ⟨rfl,rfl⟩ | ⟨hne,h⟩
    . exact .inr (by omega)
    . rcases old l f h hne with c1 | ⟨c1,hp⟩
      . exact .inl c1
      . exact .inr (by omega)
  . cases hm
    rw [hc] at hz;cases hz
    by_cases e:l=p.lv
    . exact ⟨n,by rw [zh,if_pos e]⟩
    . rcases gp l' f' hf' with ⟨rfl,rfl⟩ | ⟨hne,h⟩
      . omega
      . rcases old l' f' h hne with c1 | ⟨c1,hp⟩
        . omega
        . obtain ⟨f,hf⟩:=W.full n p hp hn l' f' h l (by omega) b
          exact ⟨f,by rw [zh,if_neg e];exact hf⟩
theorem Stp.of_rd {S':Sh} {bg':Bg} {w':Wk} {x y:Int} (h:Stp { S with rd:=x,wr:=y } bg w S' bg' w'):Stp S bg w S' bg' w':=⟨h.tree,⟨h.grow.old⟩,h.wok,h.unt,h.new,h.room,h.len⟩
theorem Stp.still (T:Tree S bg) {w':Wk} {x y:Int} (hu:0 < w.goal->∀ k,w.newp=some k->Untold S k) (h:w'.ended=false->WOk S bg w'/\(w'.goal=w.goal/\(0 < w.goal->w'.newp=w.newp))):Stp S bg w { S with rd:=x,wr:=y } bg w' where
 tree:=T.rd x y
 grow:=⟨fun n p h=>⟨rfl,p,h,rfl⟩⟩
 wok:=fun e=>let W:=(h e).1;⟨W.at_,W.none_,W.kept,W.above,W.chain,W.gap,W.full,W.tell⟩
 unt:=fun k v hu _ _=>hu
 new:=fun k e g0 hk=>by
  obtain ⟨_,e1,e2⟩:=h e
  rw [e1] at g0
  rw [e2 g0] at hk
  exact ⟨hu g0 k hk,.inl ⟨g0,hk⟩⟩
 room:=rfl
 len:=Nat.le_succ _
theorem WOk.rd (W:WOk S bg w) (x y:Int):WOk { S with rd:=x,wr:=y } bg w:=⟨W.at_,W.none_,W.kept,W.above,W.chain,W.gap,W.full,W.tell⟩
theorem QdJ (T:Tree S bg) (W:WOk S bg w) (hw:w.ended=false) (hu:0 < w.goal->∀ k,w.newp=some k->Untold S k):∃ r S' w' bg',JY S w=some (r,S',w')/\Stp S bg w S' bg' w':=by
  obtain ⟨n,hn0,hpl⟩:∃ n,w.place.getD S.top=n/\(w.place=some n∨(w.place=none/\n=S.top)):=by
    cases e:w.place with
    | none=>exact ⟨S.top,rfl,.inr ⟨rfl,rfl⟩⟩
    | some m=>exact ⟨m,rfl,.inl rfl⟩
  obtain ⟨p,hn⟩:∃ p,S.pg[n]?=some p:=by
    rcases hpl with hp | ⟨_,rfl⟩
    . obtain ⟨p,a,_⟩:=W.at_ n hp;exact ⟨p,a⟩
    . obtain ⟨p,a,_⟩:=T.root;exact ⟨p,a⟩
  have hpl':w.place=some n∨w.place=none:=hpl.imp id And.left
  have ok:=T.page n p hn
  have la:leB (bg n) w.aim:=by
    rcases hpl with hp | ⟨_,rfl⟩
    . obtain ⟨p',a1,a2,a3⟩:=W.at_ n hp
      exact a3
    . intro v hv;rw [T.rbg] at hv;cases hv
  unfold JY
  rw [if_neg (by rw [hw];simp),hn0]
  simp only [hn]
  by_cases hr:w.place=none/\p.lv < w.goal
  . rw [if_pos hr]
    have htop:n=S.top:=by
      rcases hpl with hp | ⟨_,e⟩
      . rw [hr.1] at hp;cases hp
      . exact e
    subst htop
    obtain ⟨k,q,a1,a2,a3,a4⟩:=W.tell (by omega)
    simp only [a1]
    have lev:q.lv<=p.lv:=by
      obtain ⟨r,b1,b2⟩:=T.root
      rw [hn] at b1;cases b1;exact b2 k q a2
    obtain ⟨T',G⟩:=T.raise (x:=S.rd+1) (y:=S.wr+1) hn a2 (by omega) a4
    refine ⟨_,_,_,_,rfl,T',G,fun h=>(by cases h),fun k' v hu' hb hne m z hm h0 hk'=>?_,fun k' h=>(by cases h),rfl,by simp⟩
    rcases JW hm with ⟨rfl,rfl⟩ | hm
    . have hk2:(k':Int)=(S.top:Int)∨(k':Int)=(k:Int):=by simpa using hk'
      rcases hk2 with e | e
      . have:k'=S.top:=by omega
        subst this;rw [T.rbg] at hb;cases hb
      . have:k'=k:=by omega
        subst this;exact hne (by omega) a1
    . exact hu' m z hm h0 hk'
  . rw [if_neg hr]
    have hg:w.goal<=p.lv:=by
      rcases hpl with hp | ⟨hp,_⟩
      . obtain ⟨p',b1,b2,_⟩:=W.at_ n hp
        rw [hn] at b1;cases b1;exact b2
      . exact Nat.le_of_not_lt fun h=>hr ⟨hp,h⟩
    cases hb:JU p w.aim with
    | true =>
      rw [if_pos rfl]
      rcases T.link n p hn with ⟨a,b⟩ | ⟨h,s,q,a,b,c,d,e⟩
      . unfold JU at hb;rw [a] at hb;cases hb
      . simp only [b]
        have ha:h<=w.aim:=by unfold JU at hb;rw [a] at hb;simpa using hb
        exact ⟨_,_,_,bg,rfl,Stp.still T hu fun _=>⟨uP T W hpl' hn hg a c d e rfl rfl rfl ha fun _=>⟨rfl,rfl⟩,rfl,fun _=>rfl⟩⟩
    | false =>
      have lh:=vp hb
      rw [if_neg (by simp)]
      by_cases hd:w.goal < p.lv
      . rw [if_pos hd]
        have pl:=ok.parts
        rw [if_neg (by omega)] at pl
        have hc:cLe p.ks w.aim < p.ps.length:=by have:=Xz p.ks w.aim;omega
        obtain ⟨c,q,a1,a2,a3,a4⟩:=T.kid n p hn (by omega) _ _ (List.getElem?_eq_getElem hc)
        rw [List.getElem?_eq_getElem hc,a1]
        simp only [Int.toNat_natCast]
        exact ⟨_,_,_,bg,rfl,Stp.still T hu fun _=>⟨QcR T W hpl hn hd a2 a3 a4,rfl,fun _=>rfl⟩⟩
      . rw [if_neg hd]
        have hlv:p.lv=w.goal:=by omega
        by_cases h0:0 < w.goal
        . rw [if_pos h0]
          obtain ⟨k,q,a1,a2,a3,a4⟩:=W.tell h0
          simp only [a1]
          obtain ⟨n1,n2⟩:=Qck T hn a2 (by omega) a4 (hu h0 k a1)
          have lt:ltB (bg n) w.aim:=fun v hv=>by
            have:=la v hv
            have:v≠w.aim:=fun e=>n2 (by rw [hv,e])
            omega
          obtain ⟨bg',st⟩:=U1 (S:={ S with rd:=S.rd+1,wr:=S.wr }) (P:=Zv p w.aim k) (T.rd _ _) hn rfl rfl rfl (uj ok (by omega) n1 lt lh) (yG ok) (fun _=>KZ T hn a2 (by omega) a4) (W.rd _ _) hw hpl' hlv (fun k' _ hm=>by
            rcases List.mem_append.mp hm with hm | hm
            . exact .inl (List.mem_of_mem_take hm)
            . rcases List.mem_cons.mp hm with e | hm
              . have:k'=k:=by omega
                subst this;exact .inr ⟨h0,a1⟩
              . exact .inl (List.mem_of_mem_drop hm))
          exact ⟨_,_,_,bg',rfl,st.of_rd⟩
        . rw [if_neg h0]
          have hz:p.lv=0:=by omega
          have g0:w.goal=0:=by omega
          unfold Jf
          cases hdd:w.deed with
          | find k=>exact ⟨_,_,_,bg,rfl,Stp.still T hu fun h=>(by cases h)⟩
          | put k x =>
            have W1:WOk { S with rd:=S.rd+1,wr:=S.wr } bg ({ deed:=.put k x,aim:=w.aim,goal:=w.goal,place:=w.place,forks:=w.forks,newp:=w.newp,worth:=QX p w.aim,pairs:=w.pairs,ended:=w.ended }:Wk):=⟨W.at_,W.none_,W.kept,W.above,W.chain,W.gap,W.full,W.tell⟩
            obtain ⟨bg',st⟩:=U1 (S:={ S with rd:=S.rd+1,wr:=S.wr }) (w:=({ deed:=.put k x,aim:=w.aim,goal:=w.goal,place:=w.place,forks:=w.forks,newp:=w.newp,worth:=QX p w.aim,pairs:=w.pairs,ended:=w.ended }:Wk)) (P:=QZ p w.aim x) (T.rd _ _) hn rfl rfl rfl (vb ok hz la lh) (xE ok) (fun h=>(by omega)) W1 hw hpl' hlv (fun k' h=>(by omega))
            exact ⟨_,_,_,bg',rfl,⟨st.tree,⟨st.grow.old⟩,st.wok,st.unt,st.new,st.room,st.len⟩⟩
          | cut k =>
            dsimp only
            by_cases hs:(QX p w.aim).isSome=true
            . rw [if_pos hs]
              obtain ⟨T',G⟩:=T.write (x:=S.rd+1) (y:=S.wr+1) (p':=without p w.aim) hn rfl rfl rfl (ul ok hz) (fun h=>(by omega))
              exact ⟨_,_,_,bg,rfl,T',G,fun h=>(by cases h),fun k' v hu' _ _=>hu'.set hn rfl fun h=>(by omega),fun k' h=>(by cases h),rfl,by simp⟩
            . rw [if_neg hs]
              exact ⟨_,_,_,bg,rfl,Stp.still T hu fun h=>(by cases h)⟩
          | stretch l h =>
            dsimp only
            rcases T.link n p hn with ⟨a,b⟩ | ⟨x,s,q,a,b,c,d,e⟩
            . simp only [a,b]
              exact ⟨_,_,_,bg,rfl,Stp.still T hu fun h=>(by cases h)⟩
            . simp only [a,b]
              by_cases hx:h<=x
              . rw [if_pos hx]
                exact ⟨_,_,_,bg,rfl,Stp.still T hu fun h=>(by cases h)⟩
              . rw [if_neg hx]
                exact ⟨_,_,_,bg,rfl,Stp.still T hu fun _=>⟨uP T W hpl' hn hg a c d e rfl rfl rfl (Int.le_refl _) (fun z=>(by omega)),rfl,fun _=>rfl⟩⟩
end
end TR
namespace TR
def ltO:Option Int->Option Int->Bool
 | none,some _=>true
 | some v,some u=>decide (v < u)
 | _,none=>false
theorem kX {a b c:Option Int} (h:ltO a b=true) (g:ltO b c=true):ltO a c=true:=by
 cases a<;>cases b<;>cases c<;>simp_all [ltO];omega
theorem uY (a:Option Int):ltO a a=false:=by cases a<;>simp [ltO]
theorem Qbm {b:Option Int} {h:Int} (w:ltB b h):ltO b (some h)=true:=by
 cases b with
 | none=>rfl
 | some v=>simpa [ltO] using w v rfl
theorem Kq {α:Type} (p q:α->Bool):∀ l:List α,(∀ x∈l,q x=true->p x=true)->(l.filter q).length<=(l.filter p).length
  | [],_=>Nat.le_refl _
  | x::l,h=>by
    have ih:=Kq p q l fun y hy=>h y (List.mem_cons_of_mem _ hy)
    have hx:=h x (by simp)
    by_cases a:q x=true
    . simp [List.filter_cons,a,hx a,ih]
    . by_cases b:p x=true
      . simp [List.filter_cons,a,b];omega
      . simp [List.filter_cons,a,b,ih]
theorem Kr {α:Type} (p q:α->Bool):∀ l:List α,(∀ x∈l,q x=true->p x=true)->(∃ a∈l,p a=true/\q a=false)->(l.filter q).length < (l.filter p).length
  | [],_,h=>by obtain ⟨a,h,_⟩:=h;cases h
  | x::l,h,⟨a,ha,pa,qa⟩=>by
    have le:=Kq p q l fun y hy=>h y (List.mem_cons_of_mem _ hy)
    rcases List.mem_cons.mp ha with rfl | ha
    . simp [List.filter_cons,pa,qa];omega
    . have ih:=Kr p q l (fun y hy=>h y (List.mem_cons_of_mem _ hy)) ⟨a,ha,pa,qa⟩
      have hx:=h x (by simp)
      by_cases a:q x=true
      . simp [List.filter_cons,a,hx a];omega
      . by_cases b:p x=true
        . simp [List.filter_cons,a,b];omega
        . simp [List.filter_cons,a,b];omega
section
variable {S:Sh} {bg:Bg}
theorem gE (T:Tree S bg) {n s:Nat} {p:Pg} (hn:S.pg[n]?=some p) (hs:p.sd=some s):∃ h q,p.hi=some h/\S.pg[s]?=some q/\q.lv=p.lv/\bg s=some h/\ltO (bg n) (bg s)=true:=by
 rcases T.link n p hn with ⟨_,b⟩ | ⟨h,s',q,a,b,c,d,e⟩
 ·rw [hs] at b;cases b
 ·rw [hs] at b;cases b
  exact ⟨h,q,a,c,d,e,by rw [e];exact Qbm ((T.page n p hn).wide h a)⟩
def lvB (S:Sh) (f:Nat->Bool) (n:Nat):Bool:=match S.pg[n]? with
 | some p=>f p.lv
 | none=>false
theorem zJ (S:Sh) (j:Nat):∀ l:List Nat,(l.filter (lvB S fun x=>decide (x < j+1))).length=(l.filter (lvB S fun x=>decide (x < j))).length+(l.filter (lvB S fun x=>decide (x=j))).length
  | []=>rfl
  | n::l=>by
    have ih:=zJ S j l
    have e:∀ f:Nat->Bool,((n::l).filter (lvB S f)).length=(if lvB S f n=true then 1 else 0)+(l.filter (lvB S f)).length:=fun f=>by
      by_cases h:lvB S f n=true
      . simp [List.filter_cons,h];omega
      . simp [List.filter_cons,h]
    rw [e,e,e,ih]
    unfold lvB
    cases S.pg[n]? with
    | none=>simp
    | some p =>
      simp only [decide_eq_true_eq]
      rcases Nat.lt_trichotomy p.lv j with h | h | h
      . rw [if_pos (by omega),if_pos h,if_neg (by omega)];omega
      . rw [if_pos (by omega),if_neg (by omega),if_pos h];omega
      . rw [if_neg (by omega),if_neg (by omega),if_neg (by omega)];omega
theorem Vb (S:Sh) (l:List Nat):(l.filter (lvB S fun x=>decide (x < 0))).length=0:=by
 rw [List.length_eq_zero_iff,List.filter_eq_nil_iff]
 intro n _
 unfold lvB
 cases S.pg[n]?<;>simp
theorem Ux {L:Nat} (h:∀ (n:Nat) (p:Pg),S.pg[n]?=some p->p.lv<=L):((List.range S.pg.length).filter (lvB S fun x=>decide (x < L+1))).length=S.pg.length:=by
 rw [List.filter_eq_self.mpr,List.length_range]
 intro n hn
 rw [List.mem_range] at hn
 unfold lvB
 rw [List.getElem?_eq_getElem hn]
 have:=h n _ (List.getElem?_eq_getElem hn)
 simp;omega
inductive Lefts (S:Sh) (bg:Bg):Nat->List Nat->Prop
 | leaf {n:Nat} {p:Pg}:S.pg[n]?=some p->p.lv=0->bg n=none->Lefts S bg n [n]
 | fork {n c:Nat} {p:Pg} {r:List Nat}:S.pg[n]?=some p->0 < p.lv->bg n=none->p.ps[0]?=some (c:Int)->Lefts S bg c r->Lefts S bg n (n::r)
theorem GB (T:Tree S bg):∀ (l n:Nat) (p:Pg),p.lv=l->S.pg[n]?=some p->bg n=none->∃ r,Lefts S bg n r/\r.length=l+1
  | 0,n,p,h,hn,hb=>⟨_,.leaf hn h hb,rfl⟩
  | l+1,n,p,h,hn,hb=>by
    have ok:=T.page n p hn
    have pl:=ok.parts
    rw [if_neg (by omega)] at pl
    have h0:0 < p.ps.length:=by omega
    obtain ⟨c,q,a1,a2,a3,a4⟩:=T.kid n p hn (by omega) 0 _ (List.getElem?_eq_getElem h0)
    obtain ⟨r,b1,b2⟩:=GB T l c q (by omega) a2 (by rw [a4];exact hb)
    exact ⟨_,.fork hn (by omega) hb (by rw [List.getElem?_eq_getElem h0,a1]) b1,by simp [b2]⟩
theorem Lefts.get {n:Nat} {r:List Nat} (h:Lefts S bg n r):∀ (T:Tree S bg) (p:Pg),S.pg[n]?=some p->r.length=p.lv+1/\∀ i c,r[i]?=some c->∃ q,S.pg[c]?=some q/\q.lv+i=p.lv/\bg c=none:=by
  induction h with
  | @leaf n p0 hn h0 hb =>
    intro T p hp
    rw [hn] at hp;cases hp
    refine ⟨by simp [h0],fun i c hc=>?_⟩
    match i,hc with
    | 0,hc=>cases hc;exact ⟨_,hn,rfl,hb⟩
    | i+1,hc=>simp at hc
  | @fork n c p0 r hn h0 hb hc l ih =>
    intro T p hp
    rw [hn] at hp;cases hp
    obtain ⟨c',q,a1,a2,a3,a4⟩:=T.kid n p0 hn h0 0 _ hc
    have:c=c':=by omega
    subst this
    obtain ⟨i1,i2⟩:=ih T q a2
    refine ⟨by simp [i1];omega,fun i d hd=>?_⟩
    match i,hd with
    | 0,hd=>cases hd;exact ⟨_,hn,rfl,hb⟩
    | i+1,hd =>
      obtain ⟨z,b1,b2,b3⟩:=i2 i d (by simpa using hd)
      exact ⟨z,b1,by omega,b3⟩
end
end TR
namespace TR
theorem QbW (fs:List (Nat×Nat)) (k v:Nat):(zx fs k v).length<=fs.length+1:=by
 unfold zx;split<;>simp
theorem xx (S:Sh) (w:Wk) (n:Nat) (P:Pg):(QD S w n P).2.2.forks=w.forks/\(QD S w n P).2.2.pairs=w.pairs:=by
 unfold QD;split<;>exact ⟨rfl,rfl⟩
theorem GJ (p:Pg) (l h:Int):(QW p l h).length<=p.ks.length:=by
 unfold QW
 refine Nat.le_trans (List.length_filter_le _ _) ?_
 rw [List.length_zip];omega
theorem vK (S:Sh) (w:Wk) (n:Nat) (p:Pg):(Jf S w n p).2.2.forks=w.forks/\(Jf S w n p).2.2.pairs.length<=w.pairs.length+p.ks.length:=by
  obtain ⟨deed,aim,goal,place,forks,newp,worth,pairs,ended⟩:=w
  cases deed with
  | find k=>exact ⟨rfl,by simp [Jf]⟩
  | put k x =>
    have:=xx S ⟨.put k x,aim,goal,place,forks,newp,QX p aim,pairs,ended⟩ n (QZ p aim x)
    refine ⟨this.1,?_⟩
    show (QD S ⟨.put k x,aim,goal,place,forks,newp,QX p aim,pairs,ended⟩ n (QZ p aim x)).2.2.pairs.length<=_
    rw [this.2]
    exact Nat.le_add_right _ _
  | cut k=>exact ⟨rfl,by simp [Jf]⟩
  | stretch l h =>
    have pl:=GJ p l h
    unfold Jf
    dsimp only
    split
    . split
      . exact ⟨rfl,by simp;omega⟩
      . exact ⟨rfl,by simp;omega⟩
    . exact ⟨rfl,by simp;omega⟩
theorem ub {S S':Sh} {w w':Wk} {r:Row} {m:Nat} (hk:∀ (n:Nat) (p:Pg),S.pg[n]?=some p->p.ks.length<=m) (h:JY S w=some (r,S',w')):w'.forks.length<=w.forks.length+1/\w'.pairs.length<=w.pairs.length+m:=by
 unfold JY at h
 split at h
 ·cases h;exact ⟨by omega,by omega⟩
 ·split at h
  ·cases h
  ·rename_i p hp
   have kl:=hk _ p hp
   split at h
   ·split at h
    ·cases h
    ·cases h;exact ⟨by simp,by simp⟩
   ·split at h
    ·split at h
     ·cases h
     ·cases h;exact ⟨by simp,by simp⟩
    ·split at h
     ·split at h
      ·cases h
      ·cases h;exact ⟨QbW _ _ _,by simp⟩
     ·split at h
      ·split at h
       ·cases h
       ·rename_i c hc
        have z:=xx { S with rd:=S.rd+1 } w (w.place.getD S.top) (Zv p w.aim c)
        have e:=Option.some.inj h
        have e2:(QD { S with rd:=S.rd+1 } w (w.place.getD S.top) (Zv p w.aim c)).2.2=w':=congrArg (fun t=>t.2.2) e
        rw [e2] at z
        exact ⟨by rw [z.1];omega,by rw [z.2];omega⟩
      ·have e:=Option.some.inj h
       have z:=vK { S with rd:=S.rd+1 } w (w.place.getD S.top) p
       rw [e] at z
       have z2:w'.pairs.length<=w.pairs.length+p.ks.length:=z.2
       have z1:w'.forks=w.forks:=z.1
       exact ⟨by rw [z1];omega,by omega⟩
def fresh (d:Deed):Wk:=⟨d,d.key,0,none,[],none,none,[],false⟩
end TR
namespace D
open PySem PySem.Spec PyProof.Rows L2
def oN:Option Nat->DV
 | none=>.non
 | some n=>.int n
def pgD (p:TR.Pg):DV:=.tup [.int p.lv,.tup (p.ks.map .int),.tup (p.ps.map .int),opt p.hi,oN p.sd]
def Q3:TR.Deed->DV
 | .find k=>.tup [.str "find", .int k]
 | .put k w=>.tup [.str "put", .int k,.int w]
 | .cut k=>.tup [.str "cut", .int k]
 | .stretch l h=>.tup [.str "stretch", .int l,.int h]
def fkD (fs:List (Nat×Nat)):List (Key×DV):=fs.map fun p=>(.inl p.1,.int p.2)
def prD (ps:List (Int×Int)):List DV:=ps.map fun p=>.tup [.int p.1,.int p.2]
def wkF (s f q:Nat) (d a g p n w e:DV):List (Str×DV):=[("shelf", .ref s),("deed", d),("aim", a),("goal", g),("place", p),("forks", .ref f),("new_page", n),("worth", w),("pairs", .ref q),("ended", e)]
def wkO (s f q:Nat) (w:TR.Wk):OV:=.ins "Walk" (wkF s f q (Q3 w.deed) (.int w.aim) (.int w.goal) (oN w.place) (oN w.newp) (opt w.worth) (.bl w.ended))
def xi:TR.Row->DV
 | .non=>.non
 | .side n t=>.tup [.str "side", .int n,.int t]
 | .down n t=>.tup [.str "down", .int n,.int t]
 | .found n w=>.tup [.str "found", .int n,opt w]
 | .put n w k=>.tup [.str "put", .int n,opt w,oN k]
 | .cut n w=>.tup [.str "cut", .int n,opt w]
 | .read n ps none=>.tup [.str "read", .int n,.tup (prD ps),.non,.non]
 | .read n ps (some (t,a))=>.tup [.str "read", .int n,.tup (prD ps),.int t,.int a]
 | .told n k=>.tup [.str "told", .int n,oN k]
 | .raised n t=>.tup [.str "raised", .int n,.int t]
section
variable (s f q:Nat) (d a g p n w e x:DV)
theorem Qau:List.lookup ("shelf" : Str) (wkF s f q d a g p n w e)=some (.ref s):=by rfl
theorem xF:List.lookup ("deed" : Str) (wkF s f q d a g p n w e)=some d:=by rfl
theorem YM:List.lookup ("aim" : Str) (wkF s f q d a g p n w e)=some a:=by rfl
theorem vc:List.lookup ("goal" : Str) (wkF s f q d a g p n w e)=some g:=by rfl
theorem qk:List.lookup ("place" : Str) (wkF s f q d a g p n w e)=some p:=by rfl
theorem U8:List.lookup ("forks" : Str) (wkF s f q d a g p n w e)=some (.ref f):=by rfl
theorem K0:List.lookup ("new_page" : Str) (wkF s f q d a g p n w e)=some n:=by rfl
theorem qm:List.lookup ("worth" : Str) (wkF s f q d a g p n w e)=some w:=by rfl
theorem Qat:List.lookup ("pairs" : Str) (wkF s f q d a g p n w e)=some (.ref q):=by rfl
theorem yg:List.lookup ("ended" : Str) (wkF s f q d a g p n w e)=some e:=by rfl
theorem QdQ:(wkF s f q d a g p n w e).length=10:=rfl
theorem Qcp:List.lookup ("go_on" : Str) (wkF s f q d a g p n w e)=none:=by rfl
theorem QfK:List.lookup ("do_deed" : Str) (wkF s f q d a g p n w e)=none:=by rfl
theorem QfL:List.lookup ("tell_fork" : Str) (wkF s f q d a g p n w e)=none:=by rfl
theorem QfM:List.lookup ("raise_root_over" : Str) (wkF s f q d a g p n w e)=none:=by rfl
theorem Qcq:List.lookup ("settle" : Str) (wkF s f q d a g p n w e)=none:=by rfl
theorem QfN:List.lookup ("find_worth" : Str) (wkF s f q d a g p n w e)=none:=by rfl
theorem QfO:List.lookup ("put_pair" : Str) (wkF s f q d a g p n w e)=none:=by rfl
theorem QfP:List.lookup ("cut_key" : Str) (wkF s f q d a g p n w e)=none:=by rfl
theorem QfQ:List.lookup ("read_pairs" : Str) (wkF s f q d a g p n w e)=none:=by rfl
theorem gI:List.lookup ("step" : Str) (wkF s f q d a g p n w e)=none:=by rfl
theorem gJ:List.lookup ("over" : Str) (wkF s f q d a g p n w e)=none:=by rfl
end
theorem QcN (fs:List (Nat×Nat)) (k v:Nat):GL (fkD fs) (.inl (k:Int)) (.int v)=fkD (TR.zx fs k v):=by
 unfold GL TR.zx
 have e:((fkD fs).any fun kv=>decide (kv.1=(.inl (k:Int):Key)))=fs.any fun p=>decide (p.1=k):=by
  unfold fkD
  rw [List.any_map]
  congr 1
  funext p
  simp only [Function.comp]
  congr 1
  simp
  omega
 rw [e]
 by_cases h:(fs.any fun p=>decide (p.1=k))=true
 ·rw [if_pos h,if_pos h]
  unfold fkD
  rw [List.map_map,List.map_map]
  apply List.map_congr_left
  intro p _
  simp only [Function.comp]
  by_cases q:p.1=k
  ·simp [q]
  ·have:¬ ((p.1:Int)=(k:Int)):=by omega
   simp [q,this]
 ·rw [if_neg h,if_neg h]
  simp [fkD]
theorem QcO (fs:List (Nat×Nat)) (k:Nat):zZ (fkD fs) (.inl (k:Int))=(TR.JV fs k).map fun v=>.int v:=by
  induction fs with
  | nil=>rfl
  | cons p r ih =>
    rw [show fkD (p::r)=(.inl (p.1:Int),.int p.2)::fkD r from rfl,Qas,ih]
    unfold TR.JV
    rw [List.find?_cons]
    by_cases q:p.1=k
    . simp [q]
    . have:¬ ((p.1:Int)=(k:Int)):=by omega
      simp [q,this]
theorem QcM (fs:List (Nat×Nat)):(fkD fs).length=fs.length:=List.length_map _
end D
namespace D
open PySem PySem.Spec PyProof.Rows L2
section
variable {c f m:Str} {o e:DEx} {fa:DAx} {env:En} {hp hp1 hp2:Hs} {a n:Nat} {fs:List (Str×DV)} {d v:DV} {ds:List DV} {F:List DV->M DV}
theorem xb {α:Type} {k:Nat->List (Str×DV)->M α} (h:hp[a]?=some (.ins c fs)):onI c (.ref a) k hp=k a fs hp:=by
 show (Z3 a >>= _) hp=_
 rw [Qg (ZI h)]
 show (Qw (decide (c=c)) >>= fun _=>k a fs) hp=_
 rw [decide_eq_true rfl];rfl
theorem Jh (he:e env hp=some (v,hp1)) (ho:o env hp1=some (.ref a,hp1)) (h:hp1[a]?=some (.ins c fs)) (hl:fs.length < 1000):Q1 c f o e env hp=some ((.nx,env),hp1.set a (.ins c (JR f v fs))):=by
 unfold Q1
 rw [Qg he,Qg ho]
 unfold zC
 have:onI c (.ref a) (fun n fs=>do Qw (decide (fs.length < 1000));xu n (.ins c (JR f v fs))) hp1=some ((),hp1.set a (.ins c (JR f v fs))):=by
  rw [xb h,decide_eq_true hl];rfl
 rw [Qg this];rfl
theorem QP (ho:o env hp=some (.ref a,hp1)) (h:hp1[a]?=some (.ins c fs)) (hf:fs.lookup f=some d):Qx c f o env hp=some (d,hp1):=by
 unfold Qx
 rw [Qg ho]
 unfold zg
 rw [xb h,hf];rfl
theorem QS (ho:o env hp=some (.ref a,hp)) (h:hp[a]?=some (.ins c fs)) (hm:fs.lookup m=none) (ha:fa env hp=some (ds,hp1)) (hn:ds.length+1=n) (hF:F (.ref a::ds) hp1=some (d,hp2)):Qu c m n F o fa env hp=some (d,hp2):=by
 unfold Qu
 rw [Qg ho]
 have:onI c (.ref a) (fun _ fs=>Qw (fs.lookup m).isNone) hp=some ((),hp):=by rw [xb h,hm];rfl
 rw [Qg this,Qg ha,decide_eq_true hn]
 show (Qw true >>= fun _=>F (.ref a::ds)) hp1=_
 exact hF
theorem Xe:Qm env hp=some ([],hp):=rfl
theorem ZD (h:e env hp=some (v,hp1)):Qc e Qm env hp=some ([v],hp1):=by unfold Qc;rw [Qg h];rfl
theorem Z4 {e':DEx} {v':DV} (h:e env hp=some (v,hp1)) (h':e' env hp1=some (v',hp2)):Qc e (Qc e' Qm) env hp=some ([v,v'],hp2):=by
 have:=ZD h'
 unfold Qc at this ⊢;rw [Qg h,Qg this];rfl
theorem Xt {e' e'':DEx} {v' v'':DV} {hp3:Hs} (h:e env hp=some (v,hp1)) (h':e' env hp1=some (v',hp2)) (h'':e'' env hp2=some (v'',hp3)):Qc e (Qc e' (Qc e'' Qm)) env hp=some ([v,v',v''],hp3):=by
 have:=Z4 h' h''
 unfold Qc at this ⊢;rw [Qg h,Qg this];rfl
theorem Qe {i:Nat} (h:env[i]?=some (.val d)):Qb i env hp=some (d,hp):=by unfold Qb;rw [h];rfl
theorem ZG {k:Nat} (ha:fa env hp=some (ds,hp1)) (hk:ds.length=k) (hF:F ds hp1=some (d,hp2)):QG k F fa env hp=some (d,hp2):=by
 unfold QG;rw [Qg ha,decide_eq_true hk];exact hF
theorem Zq {c:DTx} {f g:DSx} (h:c env hp=some (true,hp1)):sIf c f g env hp=f env hp1:=by rw [Qb2 h];rfl
theorem QL {c:DTx} {f g:DSx} (h:c env hp=some (false,hp1)):sIf c f g env hp=g env hp1:=by rw [Qb2 h];rfl
theorem QM:Zb env hp=some ((.nx,env),hp):=rfl
theorem X7 {i:Nat} (h:hp[a]?=some (.lst ds)) (hd:ds[i]?=some d):ixG (.ref a) (.int i) hp=some (d,hp):=by
 show (Z3 a >>= _) hp=_
 rw [Qg (ZI h)]
 show (asI (.int (i:Int)) >>= fun i=>qG (atI ds i)) hp=_
 simp only [asI,pure_bind,qt hd];rfl
end
theorem QcH {o:DEx} {fa:DAx} {env:En} {hp:Hs} {a:Nat} {fs:List (Nat×Nat)} {j:Nat} (ho:o env hp=some (.ref a,hp)) (h:hp[a]?=some (.dic (fkD fs))) (ha:fa env hp=some ([.int (j:Int)],hp)):JZ "dict" XZ o fa env hp=some (oN (TR.JV fs j),hp):=by
 unfold JZ
 rw [Qg ho]
 have e2:Xv "dict" (.ref a) hp=some ((),hp):=by
  show (Z3 a >>= _) hp=_
  rw [Qg (ZI h)];rfl
 rw [Qg e2,Qg ha]
 show (Z3 a >>= _) hp=_
 rw [Qg (ZI h)]
 show some (((zZ (fkD fs) (.inl (j:Int))).getD .non),hp)=_
 rw [QcO]
 cases TR.JV fs j<;>rfl
theorem wl {s f q:Nat} {d a g p n w e:DV}:(wkF s f q d a g p n w e).length < 1000:=by rw [QdQ];decide
theorem JG {xs:List DV} {i:Nat} {d:DV} (h:xs[i]?=some d) (hp:Hs):ixG (.tup xs) (.int i) hp=some (d,hp):=by
 show ixD (.tup xs) (.int i) hp=_
 simp only [ixD,qt h];rfl
theorem QbK (p:TR.Pg) (hp:Hs):ixG (pgD p) (.int 0) hp=some (.int p.lv,hp):=JG (i:=0) rfl hp
theorem Qfd (p:TR.Pg) (hp:Hs):ixG (pgD p) (.int 1) hp=some (.tup (p.ks.map .int),hp):=JG (i:=1) rfl hp
theorem Qfe (p:TR.Pg) (hp:Hs):ixG (pgD p) (.int 2) hp=some (.tup (p.ps.map .int),hp):=JG (i:=2) rfl hp
theorem Qfc (p:TR.Pg) (hp:Hs):ixG (pgD p) (.int 3) hp=some (opt p.hi,hp):=JG (i:=3) rfl hp
theorem QbL (p:TR.Pg) (hp:Hs):ixG (pgD p) (.int 4) hp=some (oN p.sd,hp):=JG (i:=4) rfl hp
theorem QaL (d:TR.Deed) (hp:Hs):ixG (Q3 d) (.int 1) hp=some (.int d.key,hp):=by cases d<;>exact JG (i:=1) rfl hp
end D
namespace D
open PySem PySem.Spec PyProof.Rows L2
section
variable {e e' e'' e3 e4:DEx} {fa:DAx} {env:En} {hp hp1 hp2 hp3 hp4 hp5:Hs} {v v' v'' v3 v4 d:DV} {ds:List DV}
theorem Je (ha:fa env hp=some (ds,hp1)) (hs:ds.length<=100000):Zu fa env hp=some (.tup ds,hp1):=by
 unfold Zu
 rw [Qg ha]
 have:qR ds=true:=decide_eq_true hs
 rw [this];rfl
theorem Qay (h:e env hp=some (v,hp1)) (h':e' env hp1=some (v',hp2)) (h'':e'' env hp2=some (v'',hp3)) (h3:e3 env hp3=some (v3,hp4)):Qc e (Qc e' (Qc e'' (Qc e3 Qm))) env hp=some ([v,v',v'',v3],hp4):=by
 have:=Xt h' h'' h3
 unfold Qc at this ⊢;rw [Qg h,Qg this];rfl
theorem QdX (h:e env hp=some (v,hp1)) (h':e' env hp1=some (v',hp2)) (h'':e'' env hp2=some (v'',hp3)) (h3:e3 env hp3=some (v3,hp4)) (h4:e4 env hp4=some (v4,hp5)):Qc e (Qc e' (Qc e'' (Qc e3 (Qc e4 Qm)))) env hp=some ([v,v',v'',v3,v4],hp5):=by
 have:=Qay h' h'' h3 h4
 unfold Qc at this ⊢;rw [Qg h,Qg this];rfl
end
theorem kB {t:DV->M Bool} {f:DV->M DV} {p:DV->Bool} {hp:Hs} (ds:List DV) (ht:∀ d∈ds,t d hp=some (p d,hp)) (hf:∀ d∈ds,f d hp=some (d,hp)) (hl:ds.length < 100000):ZX (nxD ds) t f 100000 0 hp=some (ds.filter p,hp):=by
  suffices h:∀ (m i n:Nat),m+i=ds.length->m < n->ZX (nxD ds) t f n i hp=some ((ds.drop i).filter p,hp) by simpa using h ds.length 0 100000 rfl hl
  intro m
  induction m with
  | zero =>
    intro i n e hn'
    obtain ⟨n,rfl⟩:∃ k,n=k+1:=⟨n - 1,by omega⟩
    have:i=ds.length:=by omega
    subst this
    have e1:=jw ds ds.length (Nat.le_refl _) hp
    rw [show ds[ds.length]?=none by simp] at e1
    rw [ZX,Qg e1,List.drop_length]
    rfl
  | succ m ih =>
    intro i n e hn'
    obtain ⟨n,rfl⟩:∃ k,n=k+1:=⟨n - 1,by omega⟩
    have hlt:i < ds.length:=by omega
    have e1:=jw ds i (by omega) hp
    rw [List.getElem?_eq_getElem hlt] at e1
    have hi:=ih (i+1) n (by omega) (by omega)
    rw [ZX,Qg e1]
    simp only
    rw [Qg (ht ds[i] (List.getElem_mem hlt)),List.drop_eq_getElem_cons hlt]
    cases q:p ds[i] with
    | false=>rw [List.filter_cons_of_neg (by simp [q])];simpa using hi
    | true =>
      rw [List.filter_cons_of_pos q]
      simp only [if_true]
      rw [Qg (hf ds[i] (List.getElem_mem hlt)),Qg hi]
      rfl
theorem gO:∀ (ks ps:List Int),zI (ks.map .int) (ps.map .int)=prD (ks.zip ps)
  | [],_=>by cases ‹List Int› <;> rfl
  | _::_,[]=>rfl
  | k::ks,p::ps=>by
    show .tup [.int k,.int p]::zI (ks.map .int) (ps.map .int)=_
    rw [gO ks ps];rfl
def Qdn (l h:Int):DV->Bool
 | .tup [.int x,_]=>decide (l<=x)&&decide (x < h)
 | _=>false
theorem vT (l h:Int) (zs:List (Int×Int)):(prD zs).filter (Qdn l h)=prD (zs.filter fun q=>decide (l<=q.1)&&decide (q.1 < h)):=by
 unfold prD
 rw [List.filter_map];rfl
theorem kK {o:DEx} {fa:DAx} {env:En} {hp:Hs} {a b:Nat} {ds es:List DV} (ho:o env hp=some (.ref a,hp)) (h:hp[a]?=some (.lst ds)) (ha:fa env hp=some ([.ref b],hp)) (hb:hp[b]?=some (.lst es)) (hl:ds.length+es.length<=100000):JZ "list" xa o fa env hp=some (.non,hp.set a (.lst (ds++es))):=by
 unfold JZ
 rw [Qg ho]
 have e2:Xv "list" (.ref a) hp=some ((),hp):=by
  show (Z3 a >>= _) hp=_
  rw [Qg (ZI h)];rfl
 rw [Qg e2,Qg ha]
 show (Z3 a >>= _) hp=_
 rw [Qg (ZI h)]
 show (Z3 b >>= _) hp=_
 rw [Qg (ZI hb)]
 show (Qw (decide (ds.length+es.length<=lim)) >>= fun _=>xu a (.lst (ds++es)) >>= fun _=>pure DV.non) hp=_
 rw [show decide (ds.length+es.length<=lim)=true from decide_eq_true hl];rfl
theorem KJ (zs:List (Int×Int)):(prD zs).length=zs.length:=List.length_map _
theorem Qdm (zs ys:List (Int×Int)):prD zs++prD ys=prD (zs++ys):=by simp [prD]
theorem x6 (o:Option Int):isD (opt o) .non=pure (.bl o.isNone):=by cases o<;>rfl
theorem vP (o:Option Int):qB (opt o) .non=pure (.bl o.isSome):=by cases o<;>rfl
theorem Vp (o:Option Nat):isD (oN o) .non=pure (.bl o.isNone):=by cases o<;>rfl
theorem gc {x:Str} (h:PyData.strOk x=true):okP (.str x)=true:=by simp [okP,UO,toP,SeqAt.shaped,PyData.canLay0,PyData.depth,h]
theorem eqS {x y:Str} (hp:Hs) (h1:PyData.strOk x=true) (h2:PyData.strOk y=true) {b:Bool} (h:(x==y)=b):eqG (.str x) (.str y) hp=some (.bl b,hp):=by
 unfold eqG
 have e:Ub (.str x) (.str y) hp=some (x==y,hp):=by
  rw [Kp (uG 39 hp x) (uG 39 hp y) (gc h1) (gc h2)];rfl
 rw [Qg e,h];rfl
section
variable {c c':DTx} {e e':DEx} {env:En} {hp hp1:Hs} {b:Bool}
theorem Qd5 (h:c env hp=some (true,hp1)):eOr c c' env hp=some (true,hp1):=by unfold eOr;rw [Qg h];rfl
theorem jV (h:c env hp=some (false,hp1)):eOr c c' env hp=c' env hp1:=by unfold eOr;rw [Qg h];rfl
theorem QaT (h:c env hp=some (true,hp1)):Yo c c' env hp=c' env hp1:=by unfold Yo;rw [Qg h];rfl
theorem QaS (h:c env hp=some (false,hp1)):Yo c c' env hp=some (false,hp1):=by unfold Yo;rw [Qg h];rfl
theorem Qgb (h:c env hp=some (true,hp1)):eIf c e e' env hp=e env hp1:=by unfold eIf;rw [Qg h];rfl
theorem Qga (h:c env hp=some (false,hp1)):eIf c e e' env hp=e' env hp1:=by unfold eIf;rw [Qg h];rfl
end
theorem Vm {S:TR.Sh} {w:TR.Wk} {i:Nat} {p:TR.Pg} {k:Int} (h:w.deed=.find k):TR.Jf S w i p=(.found i (TR.QX p w.aim),S,{ w with worth:=TR.QX p w.aim,ended:=true }):=by
 cases w;simp only at h;subst h;rfl
theorem UL {S:TR.Sh} {w:TR.Wk} {i:Nat} {p:TR.Pg} {k x:Int} (h:w.deed=.put k x):TR.Jf S w i p=(.put i (TR.QX p w.aim) (TR.QD S { w with worth:=TR.QX p w.aim } i (TR.QZ p w.aim x)).1,(TR.QD S { w with worth:=TR.QX p w.aim } i (TR.QZ p w.aim x)).2.1,(TR.QD S { w with worth:=TR.QX p w.aim } i (TR.QZ p w.aim x)).2.2):=by
 cases w;simp only at h;subst h;rfl
theorem UK {S:TR.Sh} {w:TR.Wk} {i:Nat} {p:TR.Pg} {k:Int} (h:w.deed=.cut k):TR.Jf S w i p=(.cut i (TR.QX p w.aim),if (TR.QX p w.aim).isSome=true then { S with pg:=S.pg.set i (TR.without p w.aim),wr:=S.wr+1 } else S,{ w with worth:=TR.QX p w.aim,ended:=true }):=by
 cases w;simp only at h;subst h;rfl
theorem kT {S:TR.Sh} {w:TR.Wk} {i:Nat} {p:TR.Pg} {l h:Int} (e:w.deed=.stretch l h) (h1:p.hi=none):TR.Jf S w i p=(.read i (TR.QW p l h) none,S,{ w with pairs:=w.pairs++TR.QW p l h,ended:=true }):=by
 cases w;cases p;simp only at e h1;subst e h1;rfl
theorem Qbk {S:TR.Sh} {w:TR.Wk} {i:Nat} {p:TR.Pg} {l h x:Int} {s:Nat} (e:w.deed=.stretch l h) (h1:p.hi=some x) (h2:p.sd=some s):TR.Jf S w i p=if h<=x then (.read i (TR.QW p l h) none,S,{ w with pairs:=w.pairs++TR.QW p l h,ended:=true }) else (.read i (TR.QW p l h) (some (s,x)),S,{ w with pairs:=w.pairs++TR.QW p l h,aim:=x,place:=some s }):=by
 cases w;cases p;simp only at e h1 h2;subst e h1 h2;rfl
theorem QfA {e o j:DEx} {env:En} {hp:Hs} {a l v:Nat} {fs:List (Nat×Nat)} (he:e env hp=some (.int (v:Int),hp)) (ho:o env hp=some (.ref a,hp)) (hj:j env hp=some (.int (l:Int),hp)) (h:hp[a]?=some (.dic (fkD fs))) (hf:fs.length < 5000):Xp e (gSb o j) env hp=some ((.nx,env),hp.set a (.dic (fkD (TR.zx fs l v)))):=by
 refine gz he ?_
 unfold gSb
 rw [Qg ho,Qg hj]
 have:=QbV (d:=.int (v:Int)) h (show qS (.int (l:Int))=some (.inl (l:Int)) from rfl) (by rw [QcM];omega)
 rw [QcN] at this
 rw [Qg this];rfl
end D
namespace D
open PySem PySem.Spec PyProof.Rows L2
section
variable {f g:DEx} {fa:DAx} {env:En} {hp hp1 hp2:Hs} {d x y:DV} {ds:List DV} {F:List DV->M DV}
theorem Ym (h:fa env hp=some (ds,hp1)) (hF:F ds hp1=some (d,hp2)):Zw F fa env hp=some (d,hp2):=by unfold Zw;rw [Qg h];exact hF
theorem Qbl (ds:List DV) (hp:Hs):Z5 [.lst ds] hp=some (.int ds.length,hp):=rfl
theorem j8 {n:Nat} (h:hp[n]?=some (.lst ds)):Z5 [.ref n] hp=some (.int ds.length,hp):=by
 show (Z3 n >>= _) hp=_
 rw [Qg (ZI h)];rfl
theorem neI (i j:Int) (hp:Hs):neG (.int i) (.int j) hp=some (.bl (!(i==j)),hp):=by
 unfold neG;rw [Qg (Go i j hp)];rfl
theorem QeP (i:Int) (hp:Hs):neG (.int i) (.int i) hp=some (.bl false,hp):=by rw [neI];simp
theorem eqI (i j:Int) (hp:Hs):eqG (.int i) (.int j) hp=some (.bl (i==j),hp):=by
 unfold eqG;rw [Qg (Go i j hp)];rfl
theorem QeO (b:Bool) (hp:Hs):neG (.bl b) (.bl b) hp=some (.bl false,hp):=by
 have e:=Kp (QaO 39 hp b) (QaO 39 hp b) (QbA b) (QbA b)
 unfold neG;rw [Qg e];cases b<;>rfl
end
theorem K1 {f:DIx} {env:En} {hp hp1:Hs} {ds:List DV} (h:f env hp=some (ds,hp1)):xOf f env hp=some (nxD ds,hp1):=by unfold xOf;rw [Qg h];rfl
end D
namespace D
open PySem PySem.Spec PyProof.Rows L2
section
variable {c:DTx} {b:DSx} {n:Nat} {env env1:En} {hp hp1 hp2:Hs}
theorem QdO (h:c env hp=some (true,hp1)) (hb:b env hp1=some ((.nx,env1),hp2)):XX c b (n+1) env hp=XX c b n env1 hp2:=by
 rw [XX,Qg h]
 simp only [if_true]
 rw [Qg hb]
theorem QdN (h:c env hp=some (false,hp1)):XX c b (n+1) env hp=some ((.nx,env),hp1):=by
 rw [XX,Qg h];rfl
end
theorem xJ {o e:DEx} {env:En} {hp:Hs} {a:Nat} {ds:List DV} {d:DV} (ho:o env hp=some (.ref a,hp)) (h:hp[a]?=some (.lst ds)) (he:e env hp=some (d,hp)) (hl:ds.length < 100000):JZ "list" Zo o (Qc e Qm) env hp=some (.non,hp.set a (.lst (ds++[d]))):=by
 unfold JZ
 rw [Qg ho]
 have e2:Xv "list" (.ref a) hp=some ((),hp):=by
  show (Z3 a >>= _) hp=_
  rw [Qg (ZI h)];rfl
 rw [Qg e2,Qg (ZD he)]
 show (Z3 a >>= _) hp=_
 rw [Qg (ZI h)]
 show (Qw (decide (ds.length < lim)) >>= fun _=>xu a (.lst (ds++[d])) >>= fun _=>pure DV.non) hp=_
 rw [show decide (ds.length < lim)=true from decide_eq_true hl];rfl
end D
namespace D
open PySem PySem.Spec PyProof.Rows L2
theorem gy {n:Nat} {body:DSx} {ds:List DV} {env:En} {hp hp1:Hs} (h:body (ds.map .val++List.replicate (n - ds.length) .un) hp=some ((.nx,env),hp1)):Q5 n body ds hp=some (.non,hp1):=by
 unfold Q5
 rw [Qg h];rfl
theorem GM (f:Str) (d:DV):∀ fs:List (Str×DV),(JR f d fs).length<=fs.length+1
  | []=>Nat.le_refl _
  | (g,x)::r=>by
    unfold JR
    split
    . simp
    . simpa using GM f d r
theorem J2 {f:Str} {d:DV} {fs:List (Str×DV)} {m:Nat} (h:fs.length<=m):(JR f d fs).length<=m+1:=Nat.le_trans (GM f d fs) (Nat.succ_le_succ h)
end D
namespace D
open PySem PySem.Spec PyProof.Rows L2
section
variable {X:Cx} {e:Expr} {f:DEx} {pos:Pos}
def Gj (T:String) (f:DEx):DEx:=fun env=>do
  let x <- f env
  match x with
  | .ref n=>do
    match <- Z3 n with
    | .lst _=>pure (.bl (Uf "list" T))
    | _=>failure
  | x=>match VW x with
    | some t=>pure (.bl (Uf t T))
    | none=>failure
theorem Qeo {T:String} (hT:T∈["int", "bool", "tuple", "str", "list"]):Xs X (.builtin "isinstance") (fun xs H Q=>(∃ ρ B d x t,xs=[x,.ty T]/\RepV X.K ρ B H d x/\VW d=some t/\Q (.bl (Uf t T)) H)∨∃ a ys,xs=[.ref a,.ty T]/\SqL X.K H a ys/\Q (.bl (Uf "list" T)) H):=by
 intro pins s σ H xs us Q I r h
 rcases h with h | ⟨a,ys,rfl,sq,q⟩
 ·exact QdZ hT pins s σ H xs us Q I r h
 ·obtain ⟨u,w',rfl,ru,rw'⟩:=va r
  cases rw'
  have fin:∀ tk,EP X pins σ Q (.bool (Uf "list" T)) { s with toks:=tk }:=fun tk=>⟨.bl _,H,I.tok _,rfl,q⟩
  have kit:PySem.W.kitOne X.K (.type "list") (.type T)=some (Uf "list" T):=by
   simp only [List.mem_cons,List.not_mem_nil,or_false] at hT
   rcases hT with rfl | rfl | rfl | rfl | rfl<;>first | rfl | decide | with_unfolding_all rfl | kernel_rfl
  cases ru
  obtain ⟨its,_,⟨o,k,e1,e2,_⟩,_⟩:=I.list sq
  exact PySem.W.kia_one PySem.W.kitx_list I.kIn ⟨o,e1,e2⟩ kit (fun z=>nomatch z) fin
theorem QcG {T:String} {p p':Pos} (hm:X.mg "isinstance" = none) (hm':X.mg (Str.ofString T)=none) (hv:bootBuiltins (Str.ofString T)=some (.type T)) (hT:T∈["int", "bool", "tuple", "str", "list"]) (h:DE X e f) (hg:Gl X "isinstance" := by rfl) (hg':Gl X (Str.ofString T):=by rfl)
    (hn:Str.ofString T ≠ "__name__" := by decide) (hdb:(Str.ofString T==("__debug__" : Str))=false:=by decide) (hs:starEach [e,.Name (Str.ofString T) p'] X.env=(false,eval e X.env)::starEach [.Name (Str.ofString T) p'] X.env:=by rfl)
    (hs2:starEach [.Name (Str.ofString T) p'] X.env=(false,eval (.Name (Str.ofString T) p') X.env)::starEach [] X.env:=by rfl) (hpl:(backTo pos (starEach [.Name (Str.ofString T) p'] X.env)).any (·.1)=false:=by rfl):DE X (.Call (.Name "isinstance" p) [e,.Name (Str.ofString T) p'] [] pos) (Gj T f) :=
  L2.PE.imp (Vw (Qeo hT) hg hm boot_isinstance (X9 h (X9 (gh (v:=.ty T) hg' hm' hv rfl hn hdb) pa_nil hs2) hs) (by decide) (by decide) hs hpl) fun σ H Q ⟨Z,env,ρ,B,hp,d,hp',S,e,k⟩=>by
    obtain ⟨x,hp1,e1,e2⟩:=Qf e
    refine tD.run S e1 fun v ρ1 B1 H1 g1 S1 r1=>?_
    cases x with
    | ref n =>
      obtain ⟨o,hp2,e3,e4⟩:=Qf e2
      obtain ⟨e5,rfl⟩:=ZZ e3
      cases o with
      | lst zs =>
        obtain ⟨rfl,rfl⟩:=Qj e4
        obtain ⟨a,rfl,_,ys,h1,l1⟩:=RepV.refW S1.wo r1 e5
        exact .inr ⟨a,ys,rfl,SqL.of h1,k _ ρ1 B1 H1 g1 S1.wo Jd⟩
      | dic _=>cases e4
      | ins _ _=>cases e4
    | non=>obtain ⟨rfl,rfl⟩:=Qj e2;exact .inl ⟨ρ1,B1,_,v,_,rfl,r1,rfl,k _ ρ1 B1 H1 g1 S1.wo Jd⟩
    | bl _=>obtain ⟨rfl,rfl⟩:=Qj e2;exact .inl ⟨ρ1,B1,_,v,_,rfl,r1,rfl,k _ ρ1 B1 H1 g1 S1.wo Jd⟩
    | int _=>obtain ⟨rfl,rfl⟩:=Qj e2;exact .inl ⟨ρ1,B1,_,v,_,rfl,r1,rfl,k _ ρ1 B1 H1 g1 S1.wo Jd⟩
    | str _=>obtain ⟨rfl,rfl⟩:=Qj e2;exact .inl ⟨ρ1,B1,_,v,_,rfl,r1,rfl,k _ ρ1 B1 H1 g1 S1.wo Jd⟩
    | tup _=>obtain ⟨rfl,rfl⟩:=Qj e2;exact .inl ⟨ρ1,B1,_,v,_,rfl,r1,rfl,k _ ρ1 B1 H1 g1 S1.wo Jd⟩
    | lst _=>obtain ⟨rfl,rfl⟩:=Qj e2;exact .inl ⟨ρ1,B1,_,v,_,rfl,r1,rfl,k _ ρ1 B1 H1 g1 S1.wo Jd⟩
end
end D
namespace D
open PySem PySem.Spec PyProof.Rows L2
def Pl:Nat->DV->Prop
 | _,.non=>True
 | _,.bl _=>True
 | _,.int _=>True
 | _,.str x=>PyData.strOk x=true
 | n+1,.tup ds=>∀ d∈ds,Pl n d
 | n+1,.lst ds=>∀ d∈ds,Pl n d
 | _,_=>False
theorem vC:∀ (n:Nat) (d:DV) (k:Nat) (hp:Hs),Pl n d->drf (n+k+1) hp d=some d
  | n,.non,k,hp,_=>rfl
  | n,.bl _,k,hp,_=>rfl
  | n,.int _,k,hp,_=>rfl
  | n,.str _,k,hp,_=>rfl
  | 0,.tup ds,k,hp,h=>h.elim
  | 0,.lst ds,k,hp,h=>h.elim
  | 0,.ref _,k,hp,h=>h.elim
  | n+1,.ref _,k,hp,h=>h.elim
  | n+1,.tup ds,k,hp,h=>by
    show (ds.mapM (drf (n+1+k) hp)).map DV.tup=_
    rw [xZ fun d hd=>(by rw [Nat.add_right_comm];exact vC n d k hp (h d hd))];rfl
  | n+1,.lst ds,k,hp,h=>by
    show (ds.mapM (drf (n+1+k) hp)).map DV.lst=_
    rw [xZ fun d hd=>(by rw [Nat.add_right_comm];exact vC n d k hp (h d hd))];rfl
theorem KD:∀ (ds:List DV),(∀ d∈ds,(toP d).canLay0=true)->PyData.canLayAll0 (toPs ds)=true
 | [],_=>by unfold toPs PyData.canLayAll0;rfl
 | d::ds,h=>by unfold toPs PyData.canLayAll0;rw [h d (by simp),KD ds fun x hx=>h x (List.mem_cons_of_mem _ hx)];rfl
theorem KE:∀ (n:Nat) (d:DV),Pl n d->(toP d).canLay0=true
 | n,.non,_=>by unfold toP PyData.canLay0;rfl
 | n,.bl _,_=>by unfold toP PyData.canLay0;rfl
 | n,.int _,_=>by unfold toP PyData.canLay0;rfl
 | n,.str x,h=>by cases n<;>(unfold toP PyData.canLay0;exact h)
 | 0,.tup ds,h=>h.elim
 | 0,.lst ds,h=>h.elim
 | 0,.ref _,h=>h.elim
 | n+1,.ref _,h=>h.elim
 | n+1,.tup ds,h=>by unfold toP PyData.canLay0;exact KD ds fun d hd=>KE n d (h d hd)
 | n+1,.lst ds,h=>by unfold toP PyData.canLay0;exact KD ds fun d hd=>KE n d (h d hd)
theorem xQ (n:Nat):∀ (ds:List DV),(∀ d∈ds,(toP d).depth<=n)->PyData.depthAll (toPs ds)<=n
 | [],_=>by unfold toPs PyData.depthAll;exact Nat.zero_le _
 | d::ds,h=>by unfold toPs PyData.depthAll;exact Nat.max_le.mpr ⟨h d (by simp),xQ n ds fun x hx=>h x (List.mem_cons_of_mem _ hx)⟩
theorem Vd:∀ (n:Nat) (d:DV),Pl n d->(toP d).depth<=n
 | n,.non,_=>by unfold toP PyData.depth;exact Nat.zero_le _
 | n,.bl _,_=>by unfold toP PyData.depth;exact Nat.zero_le _
 | n,.int _,_=>by unfold toP PyData.depth;exact Nat.zero_le _
 | n,.str x,h=>by unfold toP PyData.depth;exact Nat.zero_le _
 | 0,.tup ds,h=>h.elim
 | 0,.lst ds,h=>h.elim
 | 0,.ref _,h=>h.elim
 | n+1,.ref _,h=>h.elim
 | n+1,.tup ds,h=>by unfold toP PyData.depth;exact Nat.succ_le_succ (xQ n ds fun d hd=>Vd n d (h d hd))
 | n+1,.lst ds,h=>by unfold toP PyData.depth;exact Nat.succ_le_succ (xQ n ds fun d hd=>Vd n d (h d hd))
theorem U3 {n:Nat} {d:DV} (h:Pl n d) (hn:n<=64):SeqAt.shaped (toP d)=true:=by
 unfold SeqAt.shaped;rw [KE n d h,decide_eq_true (Nat.le_trans (Vd n d h) hn)];rfl
theorem Gg {n:Nat} {d:DV} (h:Pl n d) (hn:n < 40) (hp:Hs):drf 40 hp d=some d:=by
 have:=vC n d (39 - n) hp h
 rwa [show n+(39 - n)+1=40 by omega] at this
theorem KI (n:Nat) (i:Int):Pl n (.int i):=by cases n<;>trivial
theorem QbP (n:Nat):Pl n .non:=by cases n<;>trivial
theorem Qfl {n:Nat} {x:Str} (h:PyData.strOk x=true):Pl n (.str x):=by cases n<;>exact h
theorem Qfk (n:Nat) (o:Option Int):Pl n (opt o):=by cases o;exact QbP n;exact KI n _
theorem gk (n:Nat) (ks:List Int):Pl (n+1) (.tup (ks.map .int)):=fun d hd=>by
 obtain ⟨x,_,rfl⟩:=List.mem_map.mp hd;exact KI n x
theorem kI {x y:DV} {n m:Nat} (h:Pl n x) (h':Pl m y) (hn:n < 40) (hm:m < 40) (hp:Hs):Ub x y hp=some (PyData.eqv (toP x) (toP y),hp):=by
 unfold Ub kG
 show ((Option.map _ (drf 40 hp x)).bind _)=_
 rw [Gg h hn]
 show ((Option.map _ (drf 40 hp y)).bind _)=_
 rw [Gg h' hm]
 show (Qw (SeqAt.shaped (toP x)&&SeqAt.shaped (toP y)) >>= fun _=>pure (PyData.eqv (toP x) (toP y)):M Bool) hp=_
 rw [U3 h (by omega),U3 h' (by omega)]
 rfl
theorem kJ {x:DV} {n:Nat} (h:Pl n x) (hn:n < 40) (hp:Hs):Ub x x hp=some (true,hp):=by
 rw [kI h h hn hn,SeqAt.eqv_refl _ (KE n x h)]
theorem Gn {x:DV} {n:Nat} (h:Pl n x) (hn:n < 40) (hp:Hs):eqG x x hp=some (.bl true,hp):=by
 unfold eqG;rw [Qg (kJ h hn hp)];rfl
theorem xO {t:DV->M Bool} {f:DV->M DV} {g:DV->DV} {hp:Hs} (ds:List DV) (ht:∀ d∈ds,t d hp=some (true,hp)) (hf:∀ d∈ds,f d hp=some (g d,hp)) (hl:ds.length < 100000):ZX (nxD ds) t f 100000 0 hp=some (ds.map g,hp):=by
  suffices h:∀ (m i n:Nat),m+i=ds.length->m < n->ZX (nxD ds) t f n i hp=some ((ds.drop i).map g,hp) by simpa using h ds.length 0 100000 rfl hl
  intro m
  induction m with
  | zero =>
    intro i n e hn'
    obtain ⟨n,rfl⟩:∃ k,n=k+1:=⟨n - 1,by omega⟩
    have:i=ds.length:=by omega
    subst this
    have e1:=jw ds ds.length (Nat.le_refl _) hp
    rw [show ds[ds.length]?=none by simp] at e1
    rw [ZX,Qg e1,List.drop_length];rfl
  | succ m ih =>
    intro i n e hn'
    obtain ⟨n,rfl⟩:∃ k,n=k+1:=⟨n - 1,by omega⟩
    have hlt:i < ds.length:=by omega
    have e1:=jw ds i (by omega) hp
    rw [List.getElem?_eq_getElem hlt] at e1
    rw [ZX,Qg e1]
    simp only
    rw [Qg (ht ds[i] (List.getElem_mem hlt)),List.drop_eq_getElem_cons hlt]
    simp only [if_true]
    rw [Qg (hf ds[i] (List.getElem_mem hlt)),Qg (ih (i+1) n (by omega) (by omega))];rfl
theorem uy {α:Type} {m:M α} {x:α} (h:∀ hp,m hp=some (x,hp)):m=pure x:=funext h
section
variable {env:En} {hp hp1 hp2 hp3 hp4 hp5 hp6 hp7:Hs} {e e' e'' e3 e4 e5 e6:DEx} {v v' v'' v3 v4 v5 v6:DV}
end
end D
namespace D
open PySem PySem.Spec PyProof.Rows L2
open AutoListH (joined_fits)
theorem kU (l:Addr) (items:Array Value) (n:Nat) (sl:Array (Option Value)) (x:Int) (u:Tok) (hc0:¬(!Builtin.List.listFitsIndex x)=true) (hc1:¬items.size * x.toNat > (2 ^ 63 - 1) / 8) (hc2:¬Builtin.List.listTooLong (items.size * x.toNat)=true) :
  Meets (Builtin.«list.__mul__» ⟨[.ref l,.int x u],[]⟩) (fun _ R s=>s.heap.get? l=some { cls:=.type "list", dict:=none,data:=.seq items n,slots:=sl }/\R (.ok (.ret (Value.ref s.heap.objs.size))) { s with heap:=s.heap.push { cls:=Value.type "list", data:=Data.seq (List.foldl (fun x1 x2=>x1++x2) #[] (List.replicate (if items.isEmpty=true then 0 else x.toNat) items)) },toks:=s.toks }) :=
 .of_wp fun prog w A R s h=>by
  obtain ⟨hp,g,d,tk,os⟩:=s;obtain ⟨hl,h⟩:=h
  have hsz:=joined_fits hc2
  wp_walk;refine wpAny_ite_false (decide_eq_false (Nat.not_lt.mpr hsz)) ?_;wp_walk;exact ⟨_,rfl,h⟩
theorem kN (a:Int) (t:Tok) (l:Addr) (items:Array Value) (n:Nat) (sl:Array (Option Value)) :
  Meets (Builtin.«int.__rmul__» ⟨[.int a t,.ref l],[]⟩) (fun _ R s=>s.heap.get? l=some { cls:=.type "list", dict:=none,data:=.seq items n,slots:=sl }/\R (.ok (.ret Value.notImplemented)) s) :=
 .of_wp fun prog w A R s h=>by obtain ⟨hp,g,d,tk,os⟩:=s;obtain ⟨hl,h⟩:=h;wp_walk;exact ⟨_,rfl,h⟩
theorem Gp (v:Value):∀ (n:Nat) (a:Array Value),(List.replicate n #[v]).foldl (fun x1 x2=>x1++x2) a=a++(List.replicate n v).toArray
  | 0,a=>by simp
  | n+1,a=>by
    rw [List.replicate_succ,List.foldl_cons,Gp v n,List.replicate_succ]
    apply Array.ext'
    simp
section
variable {X:Cx} {tg e a b c:Expr} {f fa fb:DEx} {pos:Pos}
theorem QdA:OpR X (binaryOp .Mult) (fun x y H Q=>∃ l z n,x=.ref l/\y=.int n/\SqL X.K H l [z]/\0<=n/\n.toNat<=100000/\∀ p,H p=none->Q (.ref p) (upd H p (.lst (List.replicate n.toNat z)))):=by
  intro pins s σ H x y v u Q I rx ry h
  obtain ⟨l,z,n,rfl,rfl,hl,h0,h1,q⟩:=h
  cases rx
  obtain ⟨t,rfl⟩:=ry
  obtain ⟨its,r1,⟨⟨k1,dd1,da1,sl1⟩,n1,e1,c1,d1,s1⟩,_⟩:=I.list hl
  simp only at c1 d1 s1
  subst c1 d1 s1
  cases r1 with
  | cons r rr =>
    cases rr
    rename_i w
    have hz:(([w]:List Value).toArray.size) * n.toNat=n.toNat:=by simp
    refine wpAny_binaryOp_repeat_ref (T := "list") (U := "int") (by decide) ⟨_,e1,rfl⟩ (fun s'=>typeIs_int s' n t) noFill_list_mul F.fills_int_mul F.slot_int_rmul repeat_list F.slot_int_index.lookup
      (call_meets F.slot_int_rmul (typeIs_int s n t) F.entry_int_rmul (F.args_int_rmul_2 _ _) (kN n t l _ n1 sl1)
        ⟨e1,rfl,⟨_,e1,rfl⟩,call_meets F.slot_list_mul ⟨_,e1,rfl⟩ F.entry_list_mul (F.args_list_mul_2 _ _)
          (kU l _ n1 sl1 n t (by simp [Builtin.List.listFitsIndex];omega) (by rw [hz];omega) (by rw [hz];simp [Builtin.List.listTooLong,sizeLine];omega))
          ⟨e1,?_⟩⟩)
    have ef:List.foldl (fun x1 x2=>x1++x2) #[] (List.replicate (if ([w]:List Value).toArray.isEmpty=true then 0 else n.toNat) [w].toArray)=(List.replicate n.toNat w).toArray:=by
      rw [if_neg (by simp)]
      have:=Gp w n.toNat #[]
      simpa using this
    rw [ef]
    have vr:Vals (List.replicate n.toNat z) (List.replicate n.toNat w):=by
      generalize n.toNat=m
      induction m with
      | zero=>exact .nil
      | succ m ih=>exact .cons r ih
    exact ⟨.ref _,_,I.lnew (t':=s.toks) vr (by rw [List.length_replicate];exact Nat.le_trans h1 (by decide)),rfl,q _ I.fresh⟩
theorem GN {K:PySem.W.Frag} {ρ:List Addr} {B:Addr->Prop} {H:Hp} {d:DV} {z:V} (r:RepV K ρ B H d z):∀ n:Nat,RepL K ρ B H (List.replicate n d) (List.replicate n z)
 | 0=>RepL.nil
 | n+1=>by unfold List.replicate RepL;exact ⟨z,_,rfl,r,GN r n⟩
end
end D
namespace D
open PySem PySem.Spec PyProof.Rows L2
section
variable {env:En} {hp hp1 hp2 hp3:Hs} {f g h:DEx} {ds:List DV} {d:DV}
theorem qE {n:Nat} (hf:f env hp=some (.ref n,hp)) (hn:hp[n]?=some (.lst ds)):Zw Z5 (Qc f Qm) env hp=some (.int ds.length,hp):=Ym (ZD hf) (j8 hn)
end
end D
namespace TR
def Kd (S:Sh) (c:Nat):Prop:=∃ (m:Nat) (q:Pg),S.pg[m]?=some q/\0 < q.lv/\(c:Int)∈q.ps
def Tells (ws:List Wk) (c:Nat):Prop:=∃ (i:Nat) (w:Wk),ws[i]?=some w/\w.ended=false/\0 < w.goal/\w.newp=some c
def Tld (S:Sh) (ws:List Wk):Prop:=∀ n:Nat,n < S.pg.length->n≠S.top->Kd S n∨Tells ws n
section
variable {S S':Sh} {bg:Bg} {n:Nat} {p P:Pg} {w w':Wk} {r:Row} {ws:List Wk} {i:Nat}
theorem U0 {w:Wk} (hn:S.pg[n]?=some p) (hl:P.lv=p.lv) (hsub:0 < p.lv->∀ x∈p.ps,x∈P.ps) {c:Nat} (h:Kd S c∨(0 < P.lv/\(c:Int)∈P.ps)):Kd (QD S w n P).2.1 c:=by
 have ln:=QO hn
 have key:(∃ (m:Nat) (q:Pg),m≠n/\S.pg[m]?=some q/\0 < q.lv/\(c:Int)∈q.ps)∨(0 < P.lv/\(c:Int)∈P.ps):=by
  rcases h with ⟨m,q,h1,h2,h3⟩ | h
  ·by_cases e:m=n
   ·subst e;rw [hn] at h1;cases h1;exact .inr ⟨by omega,hsub h2 _ h3⟩
   ·exact .inl ⟨m,q,e,h1,h2,h3⟩
  ·exact .inr h
 unfold QD
 by_cases hr:P.ks.length<=S.room
 ·rw [if_pos hr]
  rcases key with ⟨m,q,e,h1,h2,h3⟩ | ⟨h1,h2⟩
  ·exact ⟨m,q,by show (S.pg.set n P)[m]?=_;rw [List.getElem?_set_ne (fun x=>e x.symm)];exact h1,h2,h3⟩
  ·exact ⟨n,P,by show (S.pg.set n P)[n]?=_;rw [List.getElem?_set_self ln],h1,h2⟩
 ·rw [if_neg hr]
  rcases key with ⟨m,q,e,h1,h2,h3⟩ | ⟨h1,h2⟩
  ·exact ⟨m,q,by show ((S.pg++[QU P]).set n (Q6 P S.pg.length))[m]?=_;rw [List.getElem?_set_ne (fun x=>e x.symm)];exact X5 h1,h2,h3⟩
  ·rw [<- List.take_append_drop (Zk P) P.ps] at h2
   rcases List.mem_append.mp h2 with h | h
   ·exact ⟨n,Q6 P S.pg.length,by show ((S.pg++[QU P]).set n (Q6 P S.pg.length))[n]?=_;rw [List.getElem?_set_self (by simp;omega)],h1,h⟩
   ·exact ⟨S.pg.length,QU P,by show ((S.pg++[QU P]).set n (Q6 P S.pg.length))[S.pg.length]?=_;rw [List.getElem?_set_ne (by omega)];simp,h1,h⟩
theorem Tells.other {c:Nat} (h:Tells ws c) (hi:ws[i]?=some w) (hne:w.ended=false->0 < w.goal->w.newp≠some c):Tells (ws.set i w') c:=by
 obtain ⟨j,v,a,b,d,e⟩:=h
 have ne:j≠i:=fun z=>by subst z;rw [hi] at a;cases a;exact hne b d e
 exact ⟨j,v,by rw [List.getElem?_set_ne (fun x=>ne x.symm)];exact a,b,d,e⟩
theorem Tells.self {c:Nat} (hi:ws[i]?=some w) (h1:w'.ended=false) (h2:0 < w'.goal) (h3:w'.newp=some c):Tells (ws.set i w') c :=
 ⟨i,w',List.getElem?_set_self (QO hi),h1,h2,h3⟩
theorem KR {w:Wk} (S:Sh) (n:Nat) (P:Pg) (h:S.room < P.ks.length) (hw:w.ended=false):(QD S w n P).2.2.ended=false/\0 < (QD S w n P).2.2.goal/\(QD S w n P).2.2.newp=some S.pg.length:=by
 unfold QD;rw [if_neg (by omega)];exact ⟨hw,Nat.succ_pos _,rfl⟩
theorem vZ {w:Wk} (S:Sh) (n:Nat) (P:Pg) {c:Nat} (hc:c < (QD S w n P).2.1.pg.length):c < S.pg.length∨(c=S.pg.length/\S.room < P.ks.length):=by
 unfold QD at hc
 by_cases hr:P.ks.length<=S.room
 ·rw [if_pos hr] at hc;exact .inl (by simpa using hc)
 ·rw [if_neg hr] at hc
  have:c < S.pg.length+1:=by simpa using hc
  rcases Nat.lt_or_ge c S.pg.length with h | h
  ·exact .inl h
  ·exact .inr ⟨by omega,by omega⟩
theorem v8 {w:Wk} (S:Sh) (n:Nat) (P:Pg):(QD S w n P).2.1.top=S.top:=by
 unfold QD;split<;>rfl
theorem Tld.step (D:Tld S ws) (T:Tree S bg) (W:WOk S bg w) (hi:ws[i]?=some w) (hw:w.ended=false) (hs:JY S w=some (r,S',w')):Tld S' (ws.set i w'):=by
  obtain ⟨n,hn0,hpl⟩:∃ n,w.place.getD S.top=n/\(w.place=some n∨(w.place=none/\n=S.top)):=by
    cases e:w.place with
    | none=>exact ⟨S.top,rfl,.inr ⟨rfl,rfl⟩⟩
    | some m=>exact ⟨m,rfl,.inl rfl⟩
  obtain ⟨p,hn⟩:∃ p,S.pg[n]?=some p:=by
    rcases hpl with hp | ⟨_,rfl⟩
    . obtain ⟨p,a,_⟩:=W.at_ n hp;exact ⟨p,a⟩
    . obtain ⟨p,a,_⟩:=T.root;exact ⟨p,a⟩
  have still:∀ {x:Wk} {S2:Sh},S2.pg=S.pg->S2.top=S.top->(w.ended=false->0 < w.goal->x.ended=false/\x.goal=w.goal/\x.newp=w.newp)->Tld S2 (ws.set i x):=fun {x S2} e1 e2 e3 c hc ht=>by
    rw [e1] at hc;rw [e2] at ht
    rcases D c hc ht with ⟨m,q,h⟩ | ⟨j,v,a,b,d,e⟩
    . exact .inl ⟨m,q,by rw [e1];exact h⟩
    . by_cases z:j=i
      . subst z;rw [hi] at a;cases a
        obtain ⟨f1,f2,f3⟩:=e3 b d
        exact .inr (Tells.self hi f1 (by omega) (f3.trans e))
      . exact .inr ⟨j,v,by rw [List.getElem?_set_ne (fun x=>z x.symm)];exact a,b,d,e⟩
  unfold JY at hs
  rw [if_neg (by rw [hw];simp),hn0] at hs
  simp only [hn] at hs
  by_cases hr:w.place=none/\p.lv < w.goal
  . rw [if_pos hr] at hs
    obtain ⟨k,q,a1,a2,a3,a4⟩:=W.tell (by omega)
    simp only [a1] at hs
    cases hs
    intro c hc ht
    have hc:c < S.pg.length+1:=by simpa using hc
    have ht:c≠S.pg.length:=ht
    have newf:(S.pg++[(⟨p.lv+1,[w.aim],[(S.top:Int),(k:Int)],none,none⟩:Pg)])[S.pg.length]?=some ⟨p.lv+1,[w.aim],[(S.top:Int),(k:Int)],none,none⟩:=by simp
    by_cases e:c=S.top
    . exact .inl ⟨S.pg.length,_,newf,Nat.succ_pos _,by simp [e]⟩
    by_cases e':c=k
    . exact .inl ⟨S.pg.length,_,newf,Nat.succ_pos _,by simp [e']⟩
    rcases D c (by omega) e with ⟨m,q,h1,h2,h3⟩ | h
    . exact .inl ⟨m,q,X5 h1,h2,h3⟩
    . exact .inr (h.other hi fun _ _ h=>by rw [a1] at h;exact e' (Option.some.inj h).symm)
  . rw [if_neg hr] at hs
    cases hb:JU p w.aim with
    | true =>
      rw [hb,if_pos rfl] at hs
      cases hsd:p.sd with
      | none=>rw [hsd] at hs;cases hs
      | some s =>
        rw [hsd] at hs;cases hs
        exact still rfl rfl fun a _=>⟨a,rfl,rfl⟩
    | false =>
      rw [hb,if_neg (by simp)] at hs
      by_cases hd:w.goal < p.lv
      . rw [if_pos hd] at hs
        cases hq:p.ps[cLe p.ks w.aim]? with
        | none=>rw [hq] at hs;cases hs
        | some c =>
          rw [hq] at hs;cases hs
          exact still rfl rfl fun a _=>⟨a,rfl,rfl⟩
      . rw [if_neg hd] at hs
        have back:∀ (w0:Wk) (P:Pg),w0.ended=false->P.lv=p.lv->(0 < p.lv->∀ x∈p.ps,x∈P.ps)->(∀ c,0 < w.goal->w.newp=some c->0 < P.lv/\(c:Int)∈P.ps)->Tld (QD { S with rd:=S.rd+1 } w0 n P).2.1 (ws.set i (QD { S with rd:=S.rd+1 } w0 n P).2.2):=fun w0 P e0 hl hsub hnew c hc ht=>by
          rw [v8] at ht
          rcases vZ _ n P hc with hc | ⟨hc,hroom⟩
          . rcases D c hc ht with h | h
            . exact .inl (U0 (S:={ S with rd:=S.rd+1 }) hn hl hsub (.inl h))
            . by_cases z:w.newp=some c/\0 < w.goal
              . exact .inl (U0 (S:={ S with rd:=S.rd+1 }) hn hl hsub (.inr (hnew c z.2 z.1)))
              . exact .inr (h.other hi fun _ a b=>z ⟨b,a⟩)
          . obtain ⟨f1,f2,f3⟩:=KR (w:=w0) { S with rd:=S.rd+1 } n P hroom e0
            exact .inr (Tells.self hi f1 f2 (by rw [f3];exact congrArg some hc.symm))
        by_cases h0:0 < w.goal
        . rw [if_pos h0] at hs
          obtain ⟨k,q,a1,a2,a3,a4⟩:=W.tell h0
          simp only [a1] at hs
          simp only [Option.some.injEq,Prod.mk.injEq] at hs
          obtain ⟨rfl,rfl,rfl⟩:=hs
          have hg:w.goal<=p.lv:=by
            rcases hpl with hp | ⟨hp,_⟩
            . obtain ⟨p',b1,b2,_⟩:=W.at_ n hp
              rw [hn] at b1;cases b1;exact b2
            . exact Nat.le_of_not_lt fun h=>hr ⟨hp,h⟩
          refine back w (Zv p w.aim k) hw rfl (fun _ x hx=>?_) fun c _ hc=>⟨by show 0 < p.lv;omega,?_⟩
          . show x∈p.ps.take (cLe p.ks w.aim+1)++(k:Int)::p.ps.drop (cLe p.ks w.aim+1)
            rw [<- List.take_append_drop (cLe p.ks w.aim+1) p.ps] at hx
            rcases List.mem_append.mp hx with h | h
            . exact List.mem_append_left _ h
            . exact List.mem_append_right _ (List.mem_cons_of_mem _ h)
          . rw [a1] at hc;cases hc
            show (k:Int)∈p.ps.take (cLe p.ks w.aim+1)++(k:Int)::p.ps.drop (cLe p.ks w.aim+1)
            simp
        . rw [if_neg h0] at hs
          have hs:=Option.some.inj hs
          unfold Jf at hs
          have g0:∀ {x:Wk},w.ended=false->0 < w.goal->x.ended=false/\x.goal=w.goal/\x.newp=w.newp:=fun _ h=>absurd h h0
          cases hdd:w.deed with
          | find k=>rw [hdd] at hs;cases hs;exact still rfl rfl g0
          | put k x =>
            rw [hdd] at hs
            dsimp only at hs
            simp only [Prod.mk.injEq] at hs
            obtain ⟨rfl,rfl,rfl⟩:=hs
            exact back _ (QZ p w.aim x) hw rfl (fun h=>(by
              have hg:p.lv=0:=by omega
              omega)) fun c h=>absurd h h0
          | cut k =>
            rw [hdd] at hs;dsimp only at hs;cases hs
            by_cases hq:(QX p w.aim).isSome=true
            . rw [if_pos hq]
              intro c hc ht
              have hc:c < S.pg.length:=by simpa using hc
              rcases D c hc ht with ⟨m,q,h1,h2,h3⟩ | h
              . have e:m≠n:=fun e=>by subst e;rw [hn] at h1;cases h1;omega
                exact .inl ⟨m,q,by show (S.pg.set n (without p w.aim))[m]?=_;rw [List.getElem?_set_ne (fun x=>e x.symm)];exact h1,h2,h3⟩
              . exact .inr (h.other hi fun _ a=>absurd a h0)
            . rw [if_neg hq];exact still rfl rfl g0
          | stretch l h =>
            rw [hdd] at hs;dsimp only at hs
            cases hhi:p.hi with
            | none=>rw [hhi] at hs;cases hs;exact still rfl rfl g0
            | some x =>
              cases hsd:p.sd with
              | none=>rw [hhi,hsd] at hs;cases hs;exact still rfl rfl g0
              | some s =>
                rw [hhi,hsd] at hs
                dsimp only at hs
                by_cases hx:h<=x
                . rw [if_pos hx] at hs;cases hs;exact still rfl rfl g0
                . rw [if_neg hx] at hs;cases hs;exact still rfl rfl g0
theorem Tld.put (D:Tld S ws) (hi:∀ v,ws[i]?=some v->v.ended=true) (w:Wk):Tld S (ws.set i w):=fun c hc ht=>(D c hc ht).imp id fun ⟨j,v,a,b,d,e⟩=>by
 have ne:j≠i:=fun z=>by subst z;rw [hi v a] at b;cases b
 exact ⟨j,v,by rw [List.getElem?_set_ne (fun x=>ne x.symm)];exact a,b,d,e⟩
end
end TR
namespace TR
def Fk (S:Sh):Prop:=∀ (n:Nat) (p:Pg),S.pg[n]?=some p->0 < p.lv->1<=p.ks.length
section
variable {S S':Sh} {bg bg':Bg} {n f:Nat} {p q P:Pg} {w w':Wk} {r:Row} {a k:Int} {F:Int->Option Int}
theorem Fk.settle (K:Fk S) {w:Wk} (hn:S.pg[n]?=some p) (hl:P.lv=p.lv) (h1:0 < P.lv->1<=P.ks.length) (h3:S.room < P.ks.length->3<=P.ks.length):Fk (QD S w n P).2.1:=by
 unfold QD
 by_cases hr:P.ks.length<=S.room
 ·rw [if_pos hr]
  intro m q hm h0
  rcases QK hm with ⟨rfl,rfl,_⟩ | ⟨_,h⟩
  ·exact h1 h0
  ·exact K m q h h0
 ·rw [if_neg hr]
  have l3:=h3 (by omega)
  intro m q hm h0
  rcases QK (xs:=S.pg++[QU P]) hm with ⟨rfl,rfl,_⟩ | ⟨_,h⟩
  ·show 1<=(P.ks.take (mid P)).length
   rw [List.length_take];unfold mid;omega
  ·rcases JW h with ⟨rfl,rfl⟩ | h
   ·show 1<=(P.ks.drop (Zk P)).length
    have h0:0 < P.lv:=h0
    rw [List.length_drop];unfold Zk;rw [if_neg (by omega)];unfold mid;omega
   ·exact K m q h h0
theorem Fk.step (K:Fk S) (T:Tree S bg) (hs:JY S w=some (r,S',w')):Fk S':=by
  have r2:=T.room2
  unfold JY at hs
  by_cases hw:w.ended=true
  . rw [if_pos hw] at hs;cases hs;exact K
  rw [if_neg hw] at hs
  cases hn:S.pg[w.place.getD S.top]? with
  | none=>rw [hn] at hs;cases hs
  | some p =>
    simp only [hn] at hs
    by_cases hr:w.place=none/\p.lv < w.goal
    . rw [if_pos hr] at hs
      cases hk:w.newp with
      | none=>rw [hk] at hs;cases hs
      | some k =>
        rw [hk] at hs;cases hs
        intro m q hm h0
        rcases JW hm with ⟨rfl,rfl⟩ | h
        . exact Nat.le_refl _
        . exact K m q h h0
    . rw [if_neg hr] at hs
      by_cases hb:JU p w.aim=true
      . rw [if_pos hb] at hs
        cases hsd:p.sd with
        | none=>rw [hsd] at hs;cases hs
        | some s=>rw [hsd] at hs;cases hs;exact K
      . rw [if_neg hb] at hs
        by_cases hd:w.goal < p.lv
        . rw [if_pos hd] at hs
          cases hq:p.ps[cLe p.ks w.aim]? with
          | none=>rw [hq] at hs;cases hs
          | some c=>rw [hq] at hs;cases hs;exact K
        . rw [if_neg hd] at hs
          by_cases h0:0 < w.goal
          . rw [if_pos h0] at hs
            cases hk:w.newp with
            | none=>rw [hk] at hs;cases hs
            | some k =>
              rw [hk] at hs
              simp only [Option.some.injEq,Prod.mk.injEq] at hs
              obtain ⟨rfl,rfl,rfl⟩:=hs
              exact Fk.settle (S:={ S with rd:=S.rd+1 }) K hn rfl (fun _=>by show 1<=(_++_::_:List Int).length;rw [List.length_append,List.length_cons];omega) (fun h=>by
                have h:S.room < (Zv p w.aim k).ks.length:=h
                omega)
          . rw [if_neg h0] at hs
            have hs:=Option.some.inj hs
            unfold Jf at hs
            cases hdd:w.deed with
            | find k=>rw [hdd] at hs;cases hs;exact K
            | put k x =>
              rw [hdd] at hs
              dsimp only at hs
              simp only [Prod.mk.injEq] at hs
              obtain ⟨rfl,rfl,rfl⟩:=hs
              exact Fk.settle (S:={ S with rd:=S.rd+1 }) K hn rfl (fun _=>by show 1<=(_++_::_:List Int).length;rw [List.length_append,List.length_cons];omega) (fun h=>by
                have h:S.room < (QZ p w.aim x).ks.length:=h
                omega)
            | cut k =>
              rw [hdd] at hs;dsimp only at hs;cases hs
              by_cases hq:(QX p w.aim).isSome=true
              . rw [if_pos hq]
                intro m q hm h1
                rcases QK hm with ⟨rfl,rfl,_⟩ | ⟨_,h⟩
                . have:0 < p.lv:=h1
                  omega
                . exact K m q h h1
              . rw [if_neg hq];exact K
            | stretch l h =>
              rw [hdd] at hs;dsimp only at hs
              cases hhi:p.hi with
              | none=>rw [hhi] at hs;cases hs;exact K
              | some x =>
                cases hsd:p.sd with
                | none=>rw [hhi,hsd] at hs;cases hs;exact K
                | some s =>
                  rw [hhi,hsd] at hs
                  dsimp only at hs
                  by_cases hx:h<=x
                  . rw [if_pos hx] at hs;cases hs;exact K
                  . rw [if_neg hx] at hs;cases hs;exact K
end
end TR
namespace TR
section
variable {S S':Sh} {bg bg':Bg} {n f:Nat} {p q P:Pg} {w w':Wk} {r:Row} {a k:Int} {F F':Int->Option Int} {R:Nat}
def XJ (S:Sh) (l:Nat):Nat:=((List.range S.pg.length).filter (lvB S fun x=>decide (x=l))).length
theorem vL {l:Nat} (h:S.pg[n]?=some p) (hl:p.lv=l):n∈(List.range S.pg.length).filter (lvB S fun x=>decide (x=l)) :=
 List.mem_filter.mpr ⟨List.mem_range.mpr (QO h),by unfold lvB;rw [h];simpa using hl⟩
theorem QcE {l:Nat} (h:S.pg[n]?=some p) (hl:p.lv=l):1<=XJ S l:=List.length_pos_of_mem (vL h hl)
theorem Tree.pages_row (T:Tree S bg) (hr:S.pg[S.top]?=some p) (hK:∀ j,0 < j->j<=p.lv->∃ (f:Nat) (q:Pg),S.pg[f]?=some q/\q.lv=j):XJ S 0+p.lv<=S.pg.length:=by
  obtain ⟨z,r1,r2⟩:=T.root
  rw [hr] at r1;cases r1
  have a:=Ux (S:=S) (L:=p.lv) r2
  have key:∀ R,R<=p.lv->XJ S 0+R<=((List.range S.pg.length).filter (lvB S fun x=>decide (x < R+1))).length:=by
    intro R
    induction R with
    | zero=>intro _;rw [zJ,Vb];unfold XJ;omega
    | succ R ih =>
      intro h
      have:=ih (by omega)
      obtain ⟨f,q,x1,x2⟩:=hK (R+1) (by omega) h
      have:=QcE x1 x2
      rw [zJ]
      unfold XJ at *
      omega
  have:=key p.lv (Nat.le_refl _)
  omega
end
end TR
namespace TR
section
variable {S S':Sh} {bg bg':Bg} {n f:Nat} {p q P:Pg} {w w':Wk} {r:Row} {a k:Int} {F F':Int->Option Int} {R:Nat}
theorem GC (g:YX S bg S' bg') {n:Nat} (hn:n < S.pg.length) (fn:Nat->Bool):lvB S' fn n=lvB S fn n:=by
 obtain ⟨_,p',h1,h2⟩:=g.old n _ (List.getElem?_eq_getElem hn)
 unfold lvB
 rw [h1,List.getElem?_eq_getElem hn]
 show fn p'.lv=fn _
 rw [h2]
theorem Yq {α:Type} {f h:α->Bool}:∀ {l:List α},(∀ x∈l,f x=h x)->l.filter f=l.filter h
  | [],_=>rfl
  | x::l,e=>by
    rw [List.filter_cons,List.filter_cons,e x (by simp),Yq fun y hy=>e y (List.mem_cons_of_mem _ hy)]
theorem xN (g:YX S bg S' bg') (h:S'.pg.length=S.pg.length) (l:Nat):XJ S' l=XJ S l:=by
 unfold XJ
 rw [h,Yq fun x hx=>GC g (List.mem_range.mp hx) _]
theorem Uw (g:YX S bg S' bg') (h:S'.pg.length=S.pg.length+1) (hq:S'.pg[S.pg.length]?=some q) (l:Nat):XJ S' l=XJ S l+if q.lv=l then 1 else 0:=by
 unfold XJ
 rw [h,List.range_succ,List.filter_append,List.length_append,Yq fun x hx=>GC g (List.mem_range.mp hx) _]
 have e:lvB S' (fun x=>decide (x=l)) S.pg.length=decide (q.lv=l):=by unfold lvB;rw [hq]
 congr 1
 rw [List.filter_cons,e]
 by_cases c:q.lv=l<;>simp [c]
theorem XG:∀ {l m:List Nat},l.Nodup->(∀ x∈l,x∈m)->l.length<=m.length
  | [],m,_,_=>Nat.zero_le _
  | x::l,m,h,hs=>by
    obtain ⟨h1,h2⟩:=List.nodup_cons.mp h
    have hx:=hs x (by simp)
    have:=XG (l:=l) (m:=m.erase x) h2 fun y hy=>by
      have ne:y≠x:=fun e=>h1 (e▸hy)
      exact (List.mem_erase_of_ne ne).mpr (hs y (List.mem_cons_of_mem _ hy))
    rw [List.length_erase_of_mem hx] at this
    have:=List.length_pos_of_mem hx
    rw [List.length_cons];omega
def yn (S:Sh) (n j:Nat):Nat:=match S.pg[n]? with
 | some p=>(p.ps.getD j 0).toNat
 | none=>0
theorem KA (T:Tree S bg) (K:Fk S) (hn:S.pg[n]?=some p) (hl:0 < p.lv) {j:Nat} (hj:j < 2):∃ q,S.pg[yn S n j]?=some q/\q.lv+1=p.lv/\bg (yn S n j)=Jl (bg n) p.ks j:=by
 have pl:=(T.page n p hn).parts
 rw [if_neg (by omega)] at pl
 have k1:=K n p hn hl
 obtain ⟨c,q,a1,a2,a3,a4⟩:=T.kid n p hn hl j _ (List.getElem?_eq_getElem (by omega:j < p.ps.length))
 have e:yn S n j=c:=by
  unfold yn;rw [hn]
  show (p.ps.getD j 0).toNat=c
  rw [List.getD_eq_getElem?_getD,List.getElem?_eq_getElem (by omega:j < p.ps.length),a1];rfl
 rw [e];exact ⟨q,a2,a3,a4⟩
theorem G0 (T:Tree S bg) (K:Fk S) (hn:S.pg[n]?=some p) (hl:0 < p.lv) {j:Nat} (hj:j < 2):leBB (bg n) (Jl (bg n) p.ks j)/\∀ h v,p.hi=some h->Jl (bg n) p.ks j=some v->v < h:=by
  have ok:=T.page n p hn
  have k1:=K n p hn hl
  cases j with
  | zero=>exact ⟨leBB.refl _,fun h v h1 h2=>ok.wide h h1 v h2⟩
  | succ i =>
    have e:i=0:=by omega
    subst e
    have g:Jl (bg n) p.ks (0+1)=some p.ks[0]:=List.getElem?_eq_getElem (l:=p.ks) (i:=0) k1
    have m:p.ks[0]∈p.ks:=List.getElem_mem _
    rw [g]
    exact ⟨fun v hv=>⟨_,rfl,ok.low _ m v hv⟩,fun h v h1 h2=>by cases h2;exact ok.high _ m h h1⟩
theorem QaH (T:Tree S bg) (K:Fk S) (l:Nat):2 * XJ S (l+1)<=XJ S l:=by
 let L:=(List.range S.pg.length).filter (lvB S fun x=>decide (x=l+1))
 have inL:∀ n∈L,∃ p,S.pg[n]?=some p/\p.lv=l+1:=fun n hn=>by
  obtain ⟨h1,h2⟩:=List.mem_filter.mp hn
  have h1:=List.mem_range.mp h1
  unfold lvB at h2
  rw [List.getElem?_eq_getElem h1] at h2
  exact ⟨_,List.getElem?_eq_getElem h1,by simpa using h2⟩
 have nd:L.Nodup:=List.nodup_range.filter _
 have key:∀ n m i j,n∈L->m∈L->i < 2->j < 2->yn S n i=yn S m j->n=m/\i=j:=fun n m i j hn hm hi hj e=>by
  obtain ⟨p,a1,a2⟩:=inL n hn
  obtain ⟨q,b1,b2⟩:=inL m hm
  obtain ⟨_,_,_,c3⟩:=KA T K a1 (by omega) hi
  obtain ⟨_,_,_,d3⟩:=KA T K b1 (by omega) hj
  rw [e,d3] at c3
  obtain ⟨x1,x2⟩:=G0 T K a1 (by omega) hi
  obtain ⟨y1,y2⟩:=G0 T K b1 (by omega) hj
  have nm:n=m:=by
   rcases Nat.decEq n m with h | h
   ·exfalso
    rcases T.dis n m p q a1 b1 (by omega) h with ⟨u,v,e1,e2,e3⟩ | ⟨u,v,e1,e2,e3⟩
    ·obtain ⟨z,z1,z2⟩:=y1 v e2
     have:=x2 u z e1 (c3.symm.trans z1);omega
    ·obtain ⟨z,z1,z2⟩:=x1 v e2
     have:=y2 u z e1 (c3.trans z1);omega
   ·exact h
  subst nm
  rw [a1] at b1;cases b1
  refine ⟨rfl,?_⟩
  have ok:=T.page n p a1
  have k1:=K n p a1 (by omega)
  have l0:=ok.lowF (by omega) p.ks[0] (List.getElem_mem (by omega))
  have ne:bg n≠p.ks[0]?:=fun z=>by
   rw [List.getElem?_eq_getElem (by omega)] at z
   have:=l0 _ z;omega
  match i,j,hi,hj with
  | 0,0,_,_=>rfl
  | 1,1,_,_=>rfl
  | 0,1,_,_=>exact absurd c3.symm ne
  | 1,0,_,_=>exact absurd c3 ne
 let M:=L.flatMap fun n=>[yn S n 0,yn S n 1]
 have ndM:M.Nodup:=by
  show List.Pairwise (· ≠ ·) _
  rw [List.pairwise_flatMap]
  refine ⟨fun n hn=>?_,?_⟩
  ·refine List.pairwise_cons.mpr ⟨fun x hx=>?_,List.pairwise_singleton _ _⟩
   rw [List.mem_singleton] at hx
   subst hx
   intro e
   have:=(key n n 0 1 hn hn (by omega) (by omega) e).2
   omega
  ·refine List.Pairwise.imp_of_mem (R:=(· ≠ ·)) (fun {a b} ha hb ne x hx y hy e=>?_) nd
   subst e
   simp only [List.mem_cons,List.not_mem_nil,or_false] at hx hy
   rcases hx with rfl | rfl<;>rcases hy with hy | hy
   ·exact ne (key a b 0 0 ha hb (by omega) (by omega) hy).1
   ·exact ne (key a b 0 1 ha hb (by omega) (by omega) hy).1
   ·exact ne (key a b 1 0 ha hb (by omega) (by omega) hy).1
   ·exact ne (key a b 1 1 ha hb (by omega) (by omega) hy).1
 have sub:∀ x∈M,x∈(List.range S.pg.length).filter (lvB S fun y=>decide (y=l)):=fun x hx=>by
  obtain ⟨n,hn,hx⟩:=List.mem_flatMap.mp hx
  obtain ⟨p,a1,a2⟩:=inL n hn
  simp only [List.mem_cons,List.not_mem_nil,or_false] at hx
  rcases hx with rfl | rfl
  ·obtain ⟨q,c1,c2,_⟩:=KA T K a1 (by omega) (show 0 < 2 by omega)
   exact vL c1 (by omega)
  ·obtain ⟨q,c1,c2,_⟩:=KA T K a1 (by omega) (show 1 < 2 by omega)
   exact vL c1 (by omega)
 have len:=XG ndM sub
 have lm:M.length=2 * L.length:=by
  show (L.flatMap _).length=_
  generalize L=L'
  induction L' with
  | nil=>rfl
  | cons x t ih=>rw [List.flatMap_cons,List.length_append,ih,List.length_cons];simp;omega
 unfold XJ
 show 2 * L.length<=_
 omega
theorem GI (T:Tree S bg) (K:Fk S):S.pg.length<=2 * XJ S 0:=by
  obtain ⟨r,r1,r2⟩:=T.root
  have a:=Ux (S:=S) (L:=r.lv) r2
  have key:∀ k,((List.range S.pg.length).filter (lvB S fun x=>decide (x < k))).length+2 * XJ S k<=2 * XJ S 0:=by
    intro k
    induction k with
    | zero=>rw [Vb];omega
    | succ k ih =>
      have:=QaH T K k
      rw [zJ]
      unfold XJ at *
      omega
  have:=key (r.lv+1)
  omega
end
end TR
namespace TR
def lvA (S:Sh) (n:Nat):Nat:=match S.pg[n]? with
 | some p=>p.lv
 | none=>0
def vis (S:Sh) (w:Wk) (k:Nat):Option Nat:=match w.place with
 | some n=>if lvA S n=k then some n else if lvA S n < k then JV w.forks k else none
 | none=>none
def ltV (bg:Bg) (v:Option Nat) (m:Nat):Bool:=match v with
 | some v=>ltO (bg v) (bg m)
 | none=>true
def Ct (S:Sh) (bg:Bg) (w:Wk) (m:Nat):Bool:=decide (w.goal<=lvA S m)&&ltV bg (vis S w (lvA S m)) m
def phi (S:Sh) (bg:Bg) (w:Wk):Nat:=((List.range S.pg.length).filter (Ct S bg w)).length+(lvA S S.top+2 - w.goal)
inductive V4 (S:Sh) (bg:Bg) (w:Wk) (S':Sh) (w':Wk):Prop
 | side {n s:Nat} {p q:Pg} (hp:w.place=some n∨(w.place=none/\n=S.top)) (hn:S.pg[n]?=some p) (hg:w.goal<=p.lv) (hs:S.pg[s]?=some q) (hl:q.lv=p.lv) (hb:ltO (bg n) (bg s)=true) (e1:S'.pg=S.pg) (e2:S'.top=S.top) (e3:w'.goal=w.goal) (e4:w'.forks=w.forks) (e5:w'.place=some s) (e6:w'.ended=false):V4 S bg w S' w'
 | down {n c:Nat} {p q:Pg} (hp:w.place=some n∨(w.place=none/\n=S.top)) (hn:S.pg[n]?=some p) (hl:q.lv+1=p.lv) (hg:w.goal<=q.lv) (hc:S.pg[c]?=some q) (e1:S'.pg=S.pg) (e2:S'.top=S.top) (e3:w'.goal=w.goal) (e4:w'.forks=zx w.forks p.lv n) (e5:w'.place=some c) (e6:w'.ended=false):V4 S bg w S' w'
 | part {n:Nat} {p q:Pg} (hp:w.place=some n∨(w.place=none/\n=S.top)) (hn:S.pg[n]?=some p) (hg:w.goal=p.lv) (el:S'.pg.length=S.pg.length+1) (eq:S'.pg[S.pg.length]?=some q) (hq:q.lv=w.goal) (e2:S'.top=S.top) (e3:w'.goal=w.goal+1) (e4:w'.forks=w.forks) (e5:w'.place=JV w.forks (w.goal+1)) (e6:w'.ended=false):V4 S bg w S' w'
 | over (e6:w'.ended=true) (el:S'.pg.length=S.pg.length) (e2:S'.top=S.top):V4 S bg w S' w'
 | raised {p q:Pg} (e6:w'.ended=true) (hr:S.pg[S.top]?=some p) (el:S'.pg.length=S.pg.length+1) (e2:S'.top=S.pg.length) (eq:S'.pg[S.pg.length]?=some q) (hq:q.lv=p.lv+1):V4 S bg w S' w'
section
variable {S S':Sh} {bg bg':Bg} {n:Nat} {p q P:Pg} {w w' v:Wk} {r:Row}
theorem ZR (h:S.pg[n]?=some p):lvA S n=p.lv:=by unfold lvA;rw [h]
theorem yE (W0:w.ended=false) (hpl:w.place=some n∨(w.place=none/\n=S.top)) (hn:S.pg[n]?=some p) (hl:P.lv=p.lv) (hg:w.goal=p.lv) {w0:Wk} (g0:w0.goal=w.goal) (f0:w0.forks=w.forks) (d0:w0.ended=w.ended):V4 S bg w (QD { S with rd:=S.rd+1 } w0 n P).2.1 (QD { S with rd:=S.rd+1 } w0 n P).2.2:=by
 have ln:=QO hn
 unfold QD
 by_cases hr:P.ks.length<=S.room
 ·rw [if_pos (show P.ks.length<=({ S with rd:=S.rd+1 }:Sh).room from hr)]
  exact .over rfl (by simp) rfl
 ·rw [if_neg (show ¬ P.ks.length<=({ S with rd:=S.rd+1 }:Sh).room from hr)]
  refine .part (q:=QU P) hpl hn hg (by simp) ?_ (by show P.lv=_;omega) rfl (by show P.lv+1=_;omega) f0 ?_ (by show w0.ended=false;rw [d0,W0])
  ·show ((S.pg++[QU P]).set n (Q6 P S.pg.length))[S.pg.length]?=_
   rw [List.getElem?_set_ne (by omega)];simp
  ·show JV w0.forks (P.lv+1)=_
   rw [f0,hl,hg]
theorem U4 (T:Tree S bg) (W:WOk S bg w) (hw:w.ended=false) (hs:JY S w=some (r,S',w')):V4 S bg w S' w':=by
  obtain ⟨n,hn0,hpl⟩:∃ n,w.place.getD S.top=n/\(w.place=some n∨(w.place=none/\n=S.top)):=by
    cases e:w.place with
    | none=>exact ⟨S.top,rfl,.inr ⟨rfl,rfl⟩⟩
    | some m=>exact ⟨m,rfl,.inl rfl⟩
  obtain ⟨p,hn⟩:∃ p,S.pg[n]?=some p:=by
    rcases hpl with hp | ⟨_,rfl⟩
    . obtain ⟨p,a,_⟩:=W.at_ n hp;exact ⟨p,a⟩
    . obtain ⟨p,a,_⟩:=T.root;exact ⟨p,a⟩
  have ln:=QO hn
  unfold JY at hs
  rw [if_neg (by rw [hw];simp),hn0] at hs
  simp only [hn] at hs
  by_cases hr:w.place=none/\p.lv < w.goal
  . rw [if_pos hr] at hs
    obtain ⟨k,q,a1,a2,a3,a4⟩:=W.tell (by omega)
    simp only [a1] at hs
    cases hs
    have htop:n=S.top:=by
      rcases hpl with hp | ⟨_,e⟩
      . rw [hr.1] at hp;cases hp
      . exact e
    subst htop
    exact .raised (q:=⟨p.lv+1,[w.aim],[(S.top:Int),(k:Int)],none,none⟩) rfl hn (by simp) rfl (by simp) rfl
  . rw [if_neg hr] at hs
    have hg:w.goal<=p.lv:=by
      rcases hpl with hp | ⟨hp,_⟩
      . obtain ⟨p',b1,b2,_⟩:=W.at_ n hp
        rw [hn] at b1;cases b1;exact b2
      . exact Nat.le_of_not_lt fun h=>hr ⟨hp,h⟩
    cases hb:JU p w.aim with
    | true =>
      rw [hb,if_pos rfl] at hs
      cases hsd:p.sd with
      | none=>rw [hsd] at hs;cases hs
      | some s =>
        rw [hsd] at hs;cases hs
        obtain ⟨x,q,a1,a2,a3,a4,a5⟩:=gE T hn hsd
        exact .side hpl hn hg a2 a3 a5 rfl rfl rfl rfl rfl hw
    | false =>
      rw [hb,if_neg (by simp)] at hs
      by_cases hd:w.goal < p.lv
      . rw [if_pos hd] at hs
        cases hq:p.ps[cLe p.ks w.aim]? with
        | none=>rw [hq] at hs;cases hs
        | some c =>
          rw [hq] at hs;cases hs
          obtain ⟨c',z,b1,b2,b3,_⟩:=T.kid _ p hn (by omega) _ _ hq
          subst b1
          exact .down hpl hn b3 (by omega) b2 rfl rfl rfl rfl (by simp [Int.toNat_natCast]) hw
      . rw [if_neg hd] at hs
        have hgl:w.goal=p.lv:=by omega
        by_cases h0:0 < w.goal
        . rw [if_pos h0] at hs
          obtain ⟨k,q,a1,a2,a3,a4⟩:=W.tell h0
          simp only [a1] at hs
          simp only [Option.some.injEq,Prod.mk.injEq] at hs
          obtain ⟨rfl,rfl,rfl⟩:=hs
          exact yE (P:=Zv p w.aim k) hw hpl hn rfl hgl rfl rfl rfl
        . rw [if_neg h0] at hs
          have hs:=Option.some.inj hs
          unfold Jf at hs
          cases hdd:w.deed with
          | find k=>rw [hdd] at hs;cases hs;exact .over rfl rfl rfl
          | put k x =>
            rw [hdd] at hs
            dsimp only at hs
            simp only [Prod.mk.injEq] at hs
            obtain ⟨rfl,rfl,rfl⟩:=hs
            exact yE (P:=QZ p w.aim x) hw hpl hn rfl hgl rfl rfl rfl
          | cut k =>
            rw [hdd] at hs;dsimp only at hs;cases hs
            by_cases hq:(QX p w.aim).isSome=true
            . rw [if_pos hq];exact .over rfl (by simp) rfl
            . rw [if_neg hq];exact .over rfl rfl rfl
          | stretch l h =>
            rw [hdd] at hs;dsimp only at hs
            rcases T.link n p hn with ⟨a,b⟩ | ⟨x,s,q,a,b,c,d,e⟩
            . simp only [a,b] at hs;cases hs;exact .over rfl rfl rfl
            . simp only [a,b] at hs
              by_cases hx:h<=x
              . rw [if_pos hx] at hs;cases hs;exact .over rfl rfl rfl
              . rw [if_neg hx] at hs;cases hs
                obtain ⟨x',q',a1,a2,a3,a4,a5⟩:=gE T hn b
                exact .side hpl hn hg a2 a3 a5 rfl rfl rfl rfl rfl hw
theorem JQ (g:YX S bg S' bg') {n:Nat} (hn:n < S.pg.length):lvA S' n=lvA S n:=by
 obtain ⟨_,p',h1,h2⟩:=g.old n _ (List.getElem?_eq_getElem hn)
 rw [ZR h1,ZR (List.getElem?_eq_getElem hn),h2]
theorem XF (g:YX S bg S' bg') {n:Nat} (hn:n < S.pg.length):bg' n=bg n:=(g.old n _ (List.getElem?_eq_getElem hn)).1
theorem jE (T:Tree S bg):S.top < S.pg.length:=by obtain ⟨r,h,_⟩:=T.root;exact QO h
theorem j9 (T:Tree S bg) {m:Nat} (h:m < S.pg.length):lvA S m<=lvA S S.top:=by
 obtain ⟨r,h1,h2⟩:=T.root
 rw [ZR h1,ZR (List.getElem?_eq_getElem h)];exact h2 m _ (List.getElem?_eq_getElem h)
theorem Qdg (T:Tree S bg) (W:WOk S bg w) (K:V4 S bg w S' w') (g:YX S bg S' bg') (he:w'.ended=false):phi S' bg' w'+1<=phi S bg w:=by
  cases K with
  | over e6=>rw [he] at e6;cases e6
  | raised e6=>rw [he] at e6;cases e6
  | @side n s p q hp hn hg hs hl hb e1 e2 e3 e4 e5 e6 =>
    have eL:∀ m,lvA S' m=lvA S m:=fun m=>by unfold lvA;rw [e1]
    have eB:∀ m,m < S.pg.length->bg' m=bg m:=fun m hm=>XF g hm
    have ls:=QO hs
    have key:((List.range S'.pg.length).filter (Ct S' bg' w')).length < ((List.range S.pg.length).filter (Ct S bg w)).length:=by
      rw [e1]
      refine Kr _ _ _ (fun m hm h=>?_) ⟨s,List.mem_range.mpr ls,?_,?_⟩
      . have lm:=List.mem_range.mp hm
        unfold Ct at h ⊢
        rw [Bool.and_eq_true] at h ⊢
        rw [eL,e3] at h
        refine ⟨h.1,?_⟩
        have h2:=h.2
        unfold vis at h2 ⊢
        rw [e5] at h2
        simp only [eL,ZR hs,e4] at h2
        rcases hp with hp | ⟨hp,rfl⟩
        . rw [hp]
          simp only [ZR hn]
          rw [hl] at h2
          by_cases c:p.lv=lvA S m
          . rw [if_pos c] at h2 ⊢
            unfold ltV at h2 ⊢
            simp only [eB s ls,eB m lm] at h2
            exact kX hb h2
          . rw [if_neg c] at h2 ⊢
            by_cases c2:p.lv < lvA S m
            . rw [if_pos c2] at h2 ⊢
              unfold ltV at h2 ⊢
              cases hf:JV w.forks (lvA S m) with
              | none=>rfl
              | some f =>
                rw [hf] at h2
                obtain ⟨z,z1,_⟩:=W.kept _ f hf
                simp only [eB f (QO z1),eB m lm] at h2
                exact h2
            . rw [if_neg c2];rfl
        . rw [hp];rfl
      . unfold Ct vis
        rw [ZR hs,hl,decide_eq_true hg]
        rcases hp with hp | ⟨hp,rfl⟩
        . rw [hp];simp only [ZR hn,if_true];exact hb
        . rw [hp];rfl
      . unfold Ct vis
        rw [e5]
        simp [ltV,uY]
    unfold phi
    rw [eL,e2,e3];omega
  | @down n c p q hp hn hl hg hc e1 e2 e3 e4 e5 e6 =>
    have eL:∀ m,lvA S' m=lvA S m:=fun m=>by unfold lvA;rw [e1]
    have eB:∀ m,m < S.pg.length->bg' m=bg m:=fun m hm=>XF g hm
    have lc:=QO hc
    have key:((List.range S'.pg.length).filter (Ct S' bg' w')).length < ((List.range S.pg.length).filter (Ct S bg w)).length:=by
      rw [e1]
      refine Kr _ _ _ (fun m hm h=>?_) ⟨c,List.mem_range.mpr lc,?_,?_⟩
      . have lm:=List.mem_range.mp hm
        unfold Ct at h ⊢
        rw [Bool.and_eq_true] at h ⊢
        rw [eL,e3] at h
        refine ⟨h.1,?_⟩
        have h2:=h.2
        unfold vis at h2 ⊢
        rw [e5] at h2
        simp only [eL,ZR hc,e4] at h2
        rcases hp with hp | ⟨hp,rfl⟩
        . rw [hp]
          simp only [ZR hn]
          by_cases c1:p.lv=lvA S m
          . rw [if_pos c1]
            rw [if_neg (by omega),if_pos (by omega),zh,if_pos c1.symm] at h2
            unfold ltV at h2 ⊢
            simp only [eB n (QO hn),eB m lm] at h2
            exact h2
          . rw [if_neg c1]
            by_cases c2:p.lv < lvA S m
            . rw [if_pos c2]
              rw [if_neg (by omega),if_pos (by omega),zh,if_neg (by omega)] at h2
              unfold ltV at h2 ⊢
              cases hf:JV w.forks (lvA S m) with
              | none=>rfl
              | some f =>
                rw [hf] at h2
                obtain ⟨z,z1,_⟩:=W.kept _ f hf
                simp only [eB f (QO z1),eB m lm] at h2
                exact h2
            . rw [if_neg c2];rfl
        . rw [hp];rfl
      . unfold Ct vis
        rw [ZR hc,decide_eq_true hg]
        rcases hp with hp | ⟨hp,rfl⟩
        . rw [hp];simp only [ZR hn];rw [if_neg (by omega),if_neg (by omega)];rfl
        . rw [hp];rfl
      . unfold Ct vis
        rw [e5]
        simp [ltV,uY]
    unfold phi
    rw [eL,e2,e3];omega
  | @part n p q hp hn hg el eq hq e2 e3 e4 e5 e6 =>
    have ln:=QO hn
    have key:((List.range S'.pg.length).filter (Ct S' bg' w')).length<=((List.range S.pg.length).filter (Ct S bg w)).length:=by
      rw [el,List.range_succ,List.filter_append,List.length_append]
      have z:Ct S' bg' w' S.pg.length=false:=by
        unfold Ct
        rw [ZR eq,e3,hq,decide_eq_false (by omega)];rfl
      rw [List.filter_cons,z]
      simp only [Bool.false_eq_true,if_false,List.filter_nil,List.length_nil,Nat.add_zero]
      refine Kq _ _ _ fun m hm h=>?_
      have lm:=List.mem_range.mp hm
      unfold Ct at h ⊢
      rw [Bool.and_eq_true] at h ⊢
      rw [JQ g lm,e3] at h
      have h1:w.goal+1<=lvA S m:=of_decide_eq_true h.1
      refine ⟨decide_eq_true (by omega),?_⟩
      have h2:=h.2
      rcases hp with hp | ⟨hp,rfl⟩
      . unfold vis at h2 ⊢
        rw [hp]
        rw [e5] at h2
        simp only [ZR hn]
        rw [if_neg (by omega),if_pos (by omega)]
        cases hf:JV w.forks (lvA S m) with
        | none=>rfl
        | some f =>
          obtain ⟨f1,hf1⟩:=W.full n p hp hn _ f hf (w.goal+1) (by omega) (by omega)
          rw [hf1] at h2
          obtain ⟨z1,y1,y2⟩:=W.kept _ f1 hf1
          obtain ⟨z2,y3,y4⟩:=W.kept _ f hf
          simp only [JQ g (QO y1),ZR y1,y2,e4] at h2
          by_cases c:w.goal+1=lvA S m
          . rw [if_pos c] at h2
            rw [<- c,hf1] at hf;cases hf
            unfold ltV at h2 ⊢
            simp only [XF g (QO y1),XF g lm] at h2
            exact h2
          . rw [if_neg c,if_pos (by omega),hf] at h2
            unfold ltV at h2 ⊢
            simp only [XF g (QO y3),XF g lm] at h2
            exact h2
      . have:=j9 T lm
        rw [ZR hn] at this;omega
    have ht:lvA S' S'.top=lvA S S.top:=by rw [e2];exact JQ g (jE T)
    have:=j9 T ln
    rw [ZR hn] at this
    unfold phi
    rw [ht,e3];omega
theorem QaI (V:WOk S bg v) (g:YX S bg S' bg') {m:Nat} (lm:m < S.pg.length):Ct S' bg' v m=Ct S bg v m:=by
  unfold Ct
  rw [JQ g lm]
  congr 1
  unfold vis
  cases hp:v.place with
  | none=>rfl
  | some n =>
    obtain ⟨p,h1,_⟩:=V.at_ n hp
    simp only [JQ g (QO h1)]
    by_cases c:lvA S n=lvA S m
    . rw [if_pos c];unfold ltV;simp only [XF g (QO h1),XF g lm]
    . rw [if_neg c]
      by_cases c2:lvA S n < lvA S m
      . rw [if_pos c2]
        unfold ltV
        cases hf:JV v.forks (lvA S m) with
        | none=>rfl
        | some f =>
          obtain ⟨z,z1,_⟩:=V.kept _ f hf
          simp only [XF g (QO z1),XF g lm]
      . rw [if_neg c2];rfl
theorem Vx (T:Tree S bg) (V:WOk S bg v) (g:YX S bg S' bg') (el:S'.pg.length=S.pg.length) (e2:S'.top=S.top):phi S' bg' v=phi S bg v:=by
 unfold phi
 rw [el,e2,JQ g (jE T),Yq fun m hm=>QaI V g (List.mem_range.mp hm)]
theorem GK (T:Tree S bg) (V:WOk S bg v) (g:YX S bg S' bg') (el:S'.pg.length=S.pg.length+1):phi S' bg' v<=phi S bg v+1+(lvA S' S'.top - lvA S S.top):=by
 unfold phi
 rw [el,List.range_succ,List.filter_append,List.length_append,Yq (h:=Ct S bg v) fun m hm=>QaI V g (List.mem_range.mp hm)]
 have:(List.filter (Ct S' bg' v) [S.pg.length]).length<=1:=List.length_filter_le _ _
 omega
theorem jQ (f:Wk->Bool):∀ (ws:List Wk) (i:Nat) (w w':Wk),ws[i]?=some w->((ws.set i w').filter f).length+(if f w=true then 1 else 0)=(ws.filter f).length+(if f w'=true then 1 else 0)
  | [],i,w,w',h=>by cases h
  | x::ws,0,w,w',h=>by
    cases h
    rw [List.set_cons_zero,List.filter_cons,List.filter_cons]
    by_cases a:f x=true<;>by_cases b:f w'=true<;>simp [a,b]<;>omega
  | x::ws,i+1,w,w',h=>by
    have:=jQ f ws i w w' h
    rw [List.set_cons_succ,List.filter_cons,List.filter_cons]
    by_cases a:f x=true<;>simp [a]<;>omega
def zf (w:Wk):Bool:=decide (w.goal=0)&&!w.ended
def lf (w:Wk):Bool:=!w.ended
def zc (ws:List Wk):Nat:=(ws.filter zf).length
def lc (ws:List Wk):Nat:=(ws.filter lf).length
def Lim (S:Sh) (bg:Bg) (ws:List Wk) (t:Nat->Nat):Prop:=∀ (i:Nat) (w:Wk),ws[i]?=some w->w.ended=false->phi S bg w+2 * (XJ S 0+zc ws)+lc ws<=S.pg.length+t i
theorem Qdh (T:Tree S bg) (W:WOk S bg w):1<=phi S bg w:=by
 unfold phi
 have:w.goal<=lvA S S.top+1:=by
  rcases Nat.eq_zero_or_pos w.goal with h | h
  ·omega
  ·obtain ⟨k,q,_,h2,h3,_⟩:=W.tell h
   have:=j9 T (QO h2)
   rw [ZR h2] at this;omega
 omega
theorem Lim.pos {ws:List Wk} {t:Nat->Nat} {i:Nat} (L:Lim S bg ws t) (T:Tree S bg) (K:Fk S) (W:WOk S bg w) (hi:ws[i]?=some w) (hw:w.ended=false):1<=t i:=by
 have h1:=L i w hi hw
 have h2:=GI T K
 have h3:=Qdh T W
 omega
theorem QfB {ws:List Wk} {i:Nat} (T:Tree S bg) (W:WOk S bg w) (hi:ws[i]?=some w) (hw:w.ended=false) (K:V4 S bg w S' w') (g:YX S bg S' bg'):2 * (XJ S' 0+zc (ws.set i w'))+lc (ws.set i w')+(lvA S' S'.top - lvA S S.top)<=2 * (XJ S 0+zc ws)+lc ws/\lc ws<=lc (ws.set i w')+1:=by
  have cz:=jQ zf ws i w w' hi
  have cl:=jQ lf ws i w w' hi
  have lw:lf w=true:=by unfold lf;rw [hw];rfl
  rw [if_pos lw] at cl
  have zw:zf w=decide (w.goal=0):=by unfold zf;rw [hw];simp
  refine ⟨?_,by unfold lc;omega⟩
  unfold zc lc
  cases K with
  | side hp hn hg hs hl hb e1 e2 e3 e4 e5 e6 =>
    have z:zf w'=zf w:=by unfold zf;rw [e3,e6,hw]
    have l:lf w'=true:=by unfold lf;rw [e6];rfl
    rw [z] at cz;rw [if_pos l] at cl
    rw [xN g (by rw [e1]),e2,JQ g (jE T)];omega
  | down hp hn hl hg hc e1 e2 e3 e4 e5 e6 =>
    have z:zf w'=zf w:=by unfold zf;rw [e3,e6,hw]
    have l:lf w'=true:=by unfold lf;rw [e6];rfl
    rw [z] at cz;rw [if_pos l] at cl
    rw [xN g (by rw [e1]),e2,JQ g (jE T)];omega
  | part hp hn hg el eq hq e2 e3 e4 e5 e6 =>
    have z:zf w'=false:=by unfold zf;rw [e3];simp
    have l:lf w'=true:=by unfold lf;rw [e6];rfl
    rw [z,zw] at cz;rw [if_pos l] at cl
    rw [Uw g el eq,e2,JQ g (jE T),hq]
    by_cases c:w.goal=0
    . rw [if_pos c];simp [c] at cz;omega
    . rw [if_neg c];simp [c] at cz;omega
  | over e6 el e2 =>
    have z:zf w'=false:=by unfold zf;rw [e6];simp
    have l:lf w'=false:=by unfold lf;rw [e6];rfl
    rw [z] at cz;rw [l] at cl
    simp only [Bool.false_eq_true,if_false] at cz cl
    rw [xN g el,e2,JQ g (jE T)];omega
  | raised e6 hr el e2 eq hq =>
    have z:zf w'=false:=by unfold zf;rw [e6];simp
    have l:lf w'=false:=by unfold lf;rw [e6];rfl
    rw [z] at cz;rw [l] at cl
    simp only [Bool.false_eq_true,if_false] at cz cl
    rw [Uw g el eq,if_neg (by omega),e2,ZR eq,ZR hr];omega
theorem Qht {ws:List Wk} {i:Nat} (T:Tree S bg) (W:WOk S bg w) (hi:ws[i]?=some w) (hw:w.ended=false) (K:V4 S bg w S' w') (g:YX S bg S' bg'):XJ S' 0+zc (ws.set i w')<=XJ S 0+zc ws:=by
 have:=QfB T W hi hw K g
 omega
theorem Lim.step {ws:List Wk} {t:Nat->Nat} {i:Nat} (L:Lim S bg ws t) (A:All S bg ws) (T:Tree S bg) (hi:ws[i]?=some w) (hw:w.ended=false) (hs:JY S w=some (r,S',w')) (g:YX S bg S' bg'):Lim S' bg' (ws.set i w') (fun j=>if j=i then t i - 1 else t j):=by
 have W:=A.ok i w hi hw
 have K:=U4 T W hw hs
 have QfB:=(QfB T W hi hw K g).1
 have grows:S.pg.length<=S'.pg.length:=by
  cases K with
  | side hp hn hg hs hl hb e1=>rw [e1];exact Nat.le_refl _
  | down hp hn hl hg hc e1=>rw [e1];exact Nat.le_refl _
  | part hp hn hg el=>omega
  | over e6 el=>omega
  | raised e6 hr el=>omega
 have oth:∀ v,WOk S bg v->phi S' bg' v+S.pg.length<=phi S bg v+S'.pg.length+(lvA S' S'.top - lvA S S.top):=fun v V=>by
  cases K with
  | side hp hn hg hs hl hb e1 e2=>rw [Vx T V g (by rw [e1]) e2,e1];omega
  | down hp hn hl hg hc e1 e2=>rw [Vx T V g (by rw [e1]) e2,e1];omega
  | part hp hn hg el=>have:=GK T V g el;omega
  | over e6 el e2=>rw [Vx T V g el e2,el];omega
  | raised e6 hr el=>have:=GK T V g el;omega
 intro j u hj hu
 rcases QK hj with ⟨rfl,rfl,_⟩ | ⟨e,h⟩
 ·have h1:=L j w hi hw
  have h2:=Qdg T W K g hu
  show _<=_+(if j=j then t j - 1 else t j)
  rw [if_pos rfl];omega
 ·have h1:=L j u h hu
  have h2:=oth u (A.ok j u h hu)
  show _<=_+(if j=i then t i - 1 else t j)
  rw [if_neg e];omega
theorem Qgj (ws:List Wk):lc ws<=ws.length:=List.length_filter_le _ _
theorem QgV (ws:List Wk):zc ws<=ws.length:=List.length_filter_le _ _
theorem Lim.first (T:Tree S bg) (K:Fk S) (hK:∀ j,0 < j->j<=lvA S S.top->∃ (f:Nat) (q:Pg),S.pg[f]?=some q/\q.lv=j) (ws:List Wk):Lim S bg ws (fun _=>2 * S.pg.length+3 * ws.length+2):=fun i w hi hw=>by
 have h1:phi S bg w<=S.pg.length+(lvA S S.top+2):=by
  unfold phi
  have:=List.length_filter_le (Ct S bg w) (List.range S.pg.length)
  rw [List.length_range] at this;omega
 obtain ⟨r,r1,r2⟩:=T.root
 rw [ZR r1] at h1 hK
 have h2:=T.pages_row r1 hK
 have h3:=Qgj ws
 have h4:=QgV ws
 show _<=_+(2 * S.pg.length+3 * ws.length+2)
 omega
end
end TR
namespace TR
section
variable {S S':Sh} {bg bg':Bg} {n m:Nat} {p q P:Pg} {w w' v:Wk} {r:Row} {k:Int}
theorem Tree.levels (T:Tree S bg):∀ j,0 < j->j<=lvA S S.top->∃ (f:Nat) (q:Pg),S.pg[f]?=some q/\q.lv=j:=fun j _ hj=>by
 obtain ⟨r,r1,r2⟩:=T.root
 rw [ZR r1] at hj
 obtain ⟨L,h1,h2⟩:=GB T r.lv S.top r rfl r1 T.rbg
 obtain ⟨h3,h4⟩:=h1.get T r r1
 have hl:r.lv - j < L.length:=by omega
 obtain ⟨q,a,b,_⟩:=h4 (r.lv - j) L[r.lv - j] (List.getElem?_eq_getElem hl)
 exact ⟨_,q,a,by omega⟩
end
end TR
namespace TR
section
variable {S S':Sh} {bg bg':Bg} {w w':Wk} {r:Row}
theorem QfF (T:Tree S bg):lvA S S.top<=S.pg.length:=by
 have h:∀ j,∃ f,j < lvA S S.top->f < S.pg.length/\lvA S f=j+1:=fun j=>by
  by_cases e:j < lvA S S.top
  ·obtain ⟨f,q,h1,h2⟩:=T.levels (j+1) (by omega) (by omega)
   exact ⟨f,fun _=>⟨QO h1,by rw [ZR h1,h2]⟩⟩
  ·exact ⟨0,fun x=>absurd x e⟩
 obtain ⟨g,hg⟩:=Classical.axiomOfChoice h
 have nd:((List.range (lvA S S.top)).map g).Nodup:=by
  rw [List.Nodup,List.pairwise_map]
  refine List.Pairwise.imp_of_mem (fun {a b} ha hb hab e=>?_) (List.nodup_range (n:=lvA S S.top))
  have h1:=(hg a (List.mem_range.mp ha)).2
  have h2:=(hg b (List.mem_range.mp hb)).2
  rw [e] at h1
  exact hab (by omega)
 have:=XG (m:=List.range S.pg.length) nd fun x hx=>by
  obtain ⟨a,ha,rfl⟩:=List.mem_map.mp hx
  exact List.mem_range.mpr (hg a (List.mem_range.mp ha)).1
 simpa using this
def FkOk (S:Sh) (w:Wk):Prop:=(w.forks.map (·.1)).Nodup/\∀ x∈w.forks,x.1<=lvA S S.top
theorem Qdv {fs:List (Nat×Nat)} {k v m:Nat} (h1:(fs.map (·.1)).Nodup) (h2:∀ x∈fs,x.1<=m) (hk:k<=m):((zx fs k v).map (·.1)).Nodup/\∀ x∈zx fs k v,x.1<=m:=by
 unfold zx
 split
 ·have e:(fs.map fun p=>if p.1=k then (p.1,v) else p).map (·.1)=fs.map (·.1):=by
   rw [List.map_map]
   apply List.map_congr_left
   intro a _
   show (if a.1=k then (a.1,v) else a).1=a.1
   split<;>rfl
  refine ⟨by rw [e];exact h1,fun x hx=>?_⟩
  obtain ⟨a,ha,rfl⟩:=List.mem_map.mp hx
  have:=h2 a ha
  split<;>exact this
 ·rename_i hn
  refine ⟨?_,fun x hx=>?_⟩
  ·rw [List.map_append,List.nodup_append]
   refine ⟨h1,by simp,fun a ha b hb e=>?_⟩
   simp at hb
   subst hb;subst e
   obtain ⟨p,hp,hk'⟩:=List.mem_map.mp ha
   exact hn (List.any_eq_true.mpr ⟨p,hp,decide_eq_true hk'⟩)
  ·rcases List.mem_append.mp hx with h | h
   ·exact h2 x h
   ·simp at h;subst h;exact hk
theorem xw (S:Sh) (w:Wk) (n:Nat) (p:Pg):(QD S w n p).2.2.forks=w.forks:=by
 unfold QD;split<;>rfl
theorem vJ (S:Sh) (w:Wk) (n:Nat) (p:Pg):(Jf S w n p).2.2.forks=w.forks:=by
  unfold Jf
  cases w.deed with
  | find k=>rfl
  | put k x=>exact xw ..
  | cut k=>rfl
  | stretch l h =>
    dsimp only
    split
    . split<;>rfl
    . rfl
theorem ua (h:JY S w=some (r,S',w')):w'.forks=w.forks∨∃ n p,S.pg[n]?=some p/\w'.forks=zx w.forks p.lv n:=by
 unfold JY at h
 split at h
 ·cases h;exact .inl rfl
 ·split at h
  ·cases h
  ·rename_i p hp
   split at h
   ·split at h
    ·cases h
    ·cases h;exact .inl rfl
   ·split at h
    ·split at h
     ·cases h
     ·cases h;exact .inl rfl
    ·split at h
     ·split at h
      ·cases h
      ·cases h;exact .inr ⟨_,p,hp,rfl⟩
     ·split at h
      ·split at h
       ·cases h
       ·cases h;exact .inl (xw ..)
      ·have e:=Option.some.inj h
       have e2:w'=(Jf { S with rd:=S.rd+1 } w (w.place.getD S.top) p).2.2:=by rw [e]
       rw [e2];exact .inl (vJ ..)
theorem G4 (T:Tree S bg) (T':Tree S' bg') (g:YX S bg S' bg'):lvA S S.top<=lvA S' S'.top:=by
 have h:=jE T
 rw [<- JQ g h]
 obtain ⟨_,p',h',_⟩:=g.old S.top _ (List.getElem?_eq_getElem h)
 exact j9 T' (QO h')
theorem FkOk.grow (F:FkOk S w) (T:Tree S bg) (T':Tree S' bg') (g:YX S bg S' bg'):FkOk S' w:=⟨F.1,fun x hx=>Nat.le_trans (F.2 x hx) (G4 T T' g)⟩
theorem FkOk.step (F:FkOk S w) (T:Tree S bg) (T':Tree S' bg') (g:YX S bg S' bg') (h:JY S w=some (r,S',w')):FkOk S' w':=by
 have tg:=G4 T T' g
 rcases ua h with e | ⟨n,p,hp,e⟩
 ·exact ⟨by rw [e];exact F.1,fun x hx=>by rw [e] at hx;exact Nat.le_trans (F.2 x hx) tg⟩
 ·have hl:p.lv<=lvA S S.top:=by
   rw [<- ZR hp];exact j9 T (QO hp)
  obtain ⟨a,b⟩:=Qdv (k:=p.lv) (v:=n) F.1 F.2 hl
  exact ⟨by rw [e];exact a,fun x hx=>by rw [e] at hx;exact Nat.le_trans (b x hx) tg⟩
theorem FkOk.len (F:FkOk S w) (T:Tree S bg):w.forks.length<=S.pg.length+1:=by
 have h:=XG (m:=List.range (lvA S S.top+1)) F.1 fun x hx=>by
  obtain ⟨a,ha,rfl⟩:=List.mem_map.mp hx
  have:=F.2 a ha
  exact List.mem_range.mpr (by omega)
 have:=QfF T
 simp at h
 omega
theorem FkOk.fresh (d:Deed):FkOk S (fresh d):=⟨List.Pairwise.nil,fun x hx=>by cases hx⟩
end
end TR
namespace TR
structure St where
 S:Sh
 ws:List Wk
 ns:List Nat
 tk:Nat
inductive Out where
 | rest
 | take (n:Nat)
 | did (n:Nat) (r:Row)
def mv (ds:List Deed) (s:St) (i:Nat):Option (Out×St):=match s.ws[i]? with
  | none=>none
  | some w =>
    if w.ended=true then
      match ds[s.tk]? with
      | none=>some (.rest,s)
      | some d=>some (.take s.tk,{ s with ws:=s.ws.set i (fresh d),ns:=s.ns.set i s.tk,tk:=s.tk+1 })
    else
      match JY s.S w with
      | none=>none
      | some (r,S',w')=>some (.did (s.ns.getD i 0) r,{ s with S:=S',ws:=s.ws.set i w' })
def still (ds:List Deed) (s:St):Bool:=decide (s.tk=ds.length)&&s.ws.all (·.ended)
structure StOk (ds:List Deed) (s:St) (bg:Bg) (b:Nat->Nat):Prop where
 T:Tree s.S bg
 A:All s.S bg s.ws
 K:Fk s.S
 D:Tld s.S s.ws
 rm:s.S.room<=5
 len:s.ns.length=s.ws.length
 tk:s.tk<=ds.length
 cn:XJ s.S 0+zc s.ws<=1+s.tk
 fk:∀ (i:Nat) (w:Wk),s.ws[i]?=some w->w.ended=false->FkOk s.S w
 pr:∀ (i:Nat) (w:Wk),s.ws[i]?=some w->w.ended=false->w.pairs.length<=5 * b i
def upB (b:Nat->Nat) (i:Nat):Nat->Nat:=fun j=>if j=i then b i+1 else b j
def dnT (t:Nat->Nat) (i:Nat):Nat->Nat:=fun j=>if j=i then t i - 1 else t j
section
variable {ds:List Deed} {s:St} {bg:Bg} {b:Nat->Nat}
theorem StOk.mono (Y:StOk ds s bg b) {b':Nat->Nat} (h:∀ i,i < s.ws.length->b i<=b' i):StOk ds s bg b':=⟨Y.T,Y.A,Y.K,Y.D,Y.rm,Y.len,Y.tk,Y.cn,Y.fk,fun i w hi hw=>by
 have:=Y.pr i w hi hw
 have:=h i (List.getElem?_eq_some_iff.mp hi).1
 omega⟩
theorem StOk.pages (Y:StOk ds s bg b):s.S.pg.length<=2 * (1+s.tk):=by
 have h1:=GI Y.T Y.K
 have h2:=Y.cn
 omega
theorem StOk.more (Y:StOk ds s bg b) (d:Deed):StOk (ds++[d]) s bg b:=⟨Y.T,Y.A,Y.K,Y.D,Y.rm,Y.len,by have:=Y.tk;simp;omega,Y.cn,Y.fk,Y.pr⟩
theorem U5 (h:still ds s=true):s.tk=ds.length/\∀ (i:Nat) (w:Wk),s.ws[i]?=some w->w.ended=true:=by
 unfold still at h
 simp only [Bool.and_eq_true,decide_eq_true_eq,List.all_eq_true] at h
 exact ⟨h.1,fun i w hi=>h.2 w (List.mem_of_getElem? hi)⟩
theorem StOk.anew (Y:StOk ds s bg b) (h:still ds s=true) (b':Nat->Nat):StOk ds s bg b':=⟨Y.T,Y.A,Y.K,Y.D,Y.rm,Y.len,Y.tk,Y.cn,Y.fk,fun i w hi hw=>by rw [(U5 h).2 i w hi] at hw;cases hw⟩
theorem gb (Y:StOk ds s bg b) {i:Nat} (hi:i < s.ws.length):∃ o s' bg',mv ds s i=some (o,s')/\StOk ds s' bg' (upB b i)/\s'.ws.length=s.ws.length/\s.tk<=s'.tk /\
    (s.tk < s'.tk∨((∀ t,Lim s.S bg s.ws t->Lim s'.S bg' s'.ws (dnT t i))/\¬ (s.ws[i].ended=true/\s.tk < ds.length))):=by
  have hw:=List.getElem?_eq_getElem hi
  generalize hwe:s.ws[i]=w at hw
  unfold mv
  rw [hw]
  dsimp only
  cases he:w.ended with
  | true =>
    rw [if_pos rfl]
    cases hd:ds[s.tk]? with
    | none =>
      have le:ds.length<=s.tk:=by simpa using hd
      refine ⟨_,s,bg,rfl,Y.mono fun j _=>by unfold upB;split<;>first | omega | (subst_vars;omega),rfl,Nat.le_refl _,.inr ⟨fun t L j u hj hu=>?_,fun h=>by omega⟩⟩
      have ne:j≠i:=fun e=>by subst e;rw [hw] at hj;cases hj;rw [he] at hu;cases hu
      unfold dnT;rw [if_neg ne];exact L j u hj hu
    | some d =>
      have lt:s.tk < ds.length:=(List.getElem?_eq_some_iff.mp hd).1
      have cz:=jQ zf s.ws i w (fresh d) hw
      have cn:=Y.cn
      have z1:∀ c:Bool,(if c=true then 1 else 0)<=1:=fun c=>by cases c<;>simp
      have z2:=z1 (zf (fresh d))
      refine ⟨_,_,bg,rfl,⟨Y.T,Y.A.put rfl rfl rfl,Y.K,Y.D.put (fun v hv=>by rw [hw] at hv;cases hv;exact he) _,Y.rm,by simp [Y.len],by show s.tk+1<=_;omega,?_,fun j u hj hu=>?_,fun j u hj hu=>?_⟩,by simp,by show s.tk<=s.tk+1;omega,.inl (by show s.tk < s.tk+1;omega)⟩
      . show XJ s.S 0+zc (s.ws.set i (fresh d))<=1+(s.tk+1)
        unfold zc at cn ⊢;omega
      . rcases QK hj with ⟨rfl,e,_⟩ | ⟨ne,hj⟩
        . rw [e];exact FkOk.fresh d
        . exact Y.fk j u hj hu
      . rcases QK hj with ⟨rfl,e,_⟩ | ⟨ne,hj⟩
        . rw [e];exact Nat.zero_le _
        . have:=Y.pr j u hj hu
          unfold upB;rw [if_neg ne];exact this
  | false =>
    rw [if_neg (by simp)]
    have W:=Y.A.ok i w hw he
    obtain ⟨r,S2,v2,bg2,es,st⟩:=QdJ Y.T W he (fun g c hc=>Y.A.unt i w c hw he g hc)
    rw [es]
    have rm:=Y.rm
    have sz:=ub (m:=5) (fun m p hm=>by have:=(Y.T.page m p hm).few;omega) es
    have kd:=U4 Y.T W he es
    have zs:=Qht Y.T W hw he kd st.grow
    have li:=hi
    refine ⟨_,_,bg2,rfl,⟨st.tree,Y.A.step hw he st,Y.K.step Y.T es,Y.D.step Y.T W hw he es,by show S2.room<=5;rw [st.room];exact rm,by simp [Y.len],Y.tk,Nat.le_trans zs Y.cn,fun j u hj hu=>?_,fun j u hj hu=>?_⟩,by simp,Nat.le_refl _,.inr ⟨fun t L=>L.step Y.A Y.T hw he es st.grow,fun h=>by cases h.1⟩⟩
    . rcases QK hj with ⟨rfl,e,_⟩ | ⟨ne,hj⟩
      . rw [e];exact (Y.fk j w hw he).step Y.T st.tree st.grow es
      . exact (Y.fk j u hj hu).grow Y.T st.tree st.grow
    . rcases QK hj with ⟨rfl,e,_⟩ | ⟨ne,hj⟩
      . have:=Y.pr j w hw he
        rw [e];unfold upB;rw [if_pos rfl];omega
      . have:=Y.pr j u hj hu
        unfold upB;rw [if_neg ne];exact this
inductive Run (ds:List Deed) (H K:Nat):Nat->St->List Out->St->Prop
 | nil (h:Nat) (s:St):Run ds H K h s [] s
 | cons {h:Nat} {s s1 s2:St} {o:Out} {os:List Out}:still ds s=false->h < s.ws.length->(∃ bg b,StOk ds s bg b/\∀ i,b i<=K)->mv ds s h=some (o,s1)->Run ds H K ((h+1) % H) s1 os s2->Run ds H K h s (o::os) s2
theorem Run.append {H K h:Nat} {s s1 s2:St} {os o2:List Out} (r:Run ds H K h s os s1) (hh:h < H):Run ds H K ((h+os.length) % H) s1 o2 s2->Run ds H K h s (os++o2) s2:=by
  induction r with
  | nil h s=>intro q;rw [List.length_nil,Nat.add_zero,Nat.mod_eq_of_lt hh] at q;exact q
  | @cons h s s1 _ o os a a2 a3 c _ ih =>
    intro q
    refine .cons a a2 a3 c (ih (Nat.mod_lt _ (by omega)) ?_)
    rw [Nat.mod_add_mod,show h+1+os.length=h+(o::os).length by simp;omega]
    exact q
theorem turn {H K B:Nat} (hB:B+1<=K):∀ (k h:Nat) (s:St) (bg:Bg),h+k=H->s.ws.length=H->StOk ds s bg (fun i=>if i < h then B+1 else B) ->
    ∃ os s' bg',Run ds H K h s os s'/\os.length<=k/\s'.ws.length=H/\StOk ds s' bg' (fun _=>B+1)/\s.tk<=s'.tk/\(still ds s'=true∨(os.length=k/\(s.tk < s'.tk∨((∀ T,Lim s.S bg s.ws (fun i=>if i < h then T - 1 else T)->Lim s'.S bg' s'.ws (fun _=>T - 1))/\(0 < k->¬ (∃ w,s.ws[h]?=some w/\w.ended=true/\s.tk < ds.length))))))
  | 0,h,s,bg,e,l,Y=>⟨[],s,bg,.nil _ _,Nat.le_refl _,l,Y.mono fun i hi=>by rw [if_pos (by omega)];omega,Nat.le_refl _,.inr ⟨rfl,.inr ⟨fun T L i w hi hw=>by
      have:=L i w hi hw
      have li:=(List.getElem?_eq_some_iff.mp hi).1
      dsimp only at this ⊢
      rw [if_pos (by omega)] at this
      exact this,fun h=>absurd h (by omega)⟩⟩⟩
  | k+1,h,s,bg,e,l,Y=>by
    cases hs:still ds s with
    | true=>exact ⟨[],s,bg,.nil _ _,Nat.zero_le _,l,Y.anew hs _,Nat.le_refl _,.inl hs⟩
    | false =>
      obtain ⟨o,s1,bg1,e1,Y1,l1,t1,c1⟩:=gb Y (i:=h) (by omega)
      obtain ⟨os,s2,bg2,R,ln,l2,Y2,t2,c2⟩:=turn (H:=H) (B:=B) hB k (h+1) s1 bg1 (by omega) (by omega) (Y1.mono fun i _=>by
        unfold upB
        show (if i=h then (if h < h then B+1 else B)+1 else if i < h then B+1 else B)<=if i < h+1 then B+1 else B
        rw [if_neg (Nat.lt_irrefl h)]
        by_cases a:i=h
        . rw [if_pos a,if_pos (by omega)];omega
        . rw [if_neg a]
          by_cases c:i < h
          . rw [if_pos c,if_pos (by omega)];omega
          . rw [if_neg c,if_neg (by omega)];omega)
      have R':Run ds H K ((h+1) % H) s1 os s2:=by
        by_cases hk:k=0
        . have:os=[]:=by cases os with
            | nil=>rfl
            | cons _ _=>simp at ln;omega
          subst this
          cases R
          exact .nil _ _
        . rw [Nat.mod_eq_of_lt (by omega)];exact R
      refine ⟨o::os,s2,bg2,.cons hs (by omega) ⟨bg,_,Y,fun i=>by show (if i < h then B+1 else B)<=K;split<;>omega⟩ e1 R',by simp;omega,l2,Y2,Nat.le_trans t1 t2,?_⟩
      rcases c2 with c2 | ⟨c2,c3⟩
      . exact .inl c2
      . refine .inr ⟨by simp [c2],?_⟩
        rcases c1 with c1 | ⟨c1,c4⟩
        . exact .inl (by omega)
        . rcases c3 with c3 | ⟨c3,_⟩
          . exact .inl (by omega)
          . refine .inr ⟨fun T L=>c3 T fun i w hi hw=>?_,fun _ ⟨w,hw,he,ht⟩=>c4 ⟨?_,ht⟩⟩
            . have q:=c1 _ L i w hi hw
              unfold dnT at q
              dsimp only at q ⊢
              by_cases a:i=h
              . subst a
                rw [if_pos rfl,if_neg (Nat.lt_irrefl _)] at q
                rw [if_pos (Nat.lt_succ_self _)];exact q
              . rw [if_neg a] at q
                by_cases c:i < h
                . rw [if_pos c] at q;rw [if_pos (by omega)];exact q
                . rw [if_neg c] at q;rw [if_neg (by omega)];exact q
            . have:s.ws[h]=w:=by
                have hl:h < s.ws.length:=by omega
                rw [List.getElem?_eq_getElem hl] at hw
                exact Option.some.inj hw
              rw [this];exact he
theorem QdD {H K C:Nat} (hH:0 < H) (hC:2 * (2 * (1+ds.length))+3 * H+2<=C):∀ (M T B:Nat) (s:St) (bg:Bg),s.ws.length=H->StOk ds s bg (fun _=>B)->Lim s.S bg s.ws (fun _=>T)->(ds.length - s.tk) * (C+1)+T<=M->B+M+1<=K ->
    ∃ os s' bg',Run ds H K 0 s os s'/\still ds s'=true/\os.length<=H * M/\s'.ws.length=H/\StOk ds s' bg' (fun _=>0)
  | M,T,B,s,bg,l,Y,L,hM,hK=>by
    cases hs:still ds s with
    | true=>exact ⟨[],s,bg,.nil _ _,hs,Nat.zero_le _,l,Y.anew hs _⟩
    | false =>
      obtain ⟨os,s1,bg1,R,ln,l1,Y1,t1,c⟩:=turn (H:=H) (B:=B) (K:=K) (by omega) H 0 s bg (by omega) l (Y.mono fun i _=>by rw [if_neg (Nat.not_lt_zero _)];omega)
      have tk:=Y.tk
      have tk1:=Y1.tk
      have w0:s.tk < ds.length∨1<=T:=by
        by_cases a:s.tk < ds.length
        . exact .inl a
        . refine .inr (Nat.pos_of_ne_zero fun h0=>?_)
          have al:s.ws.all (·.ended)=true:=by
            rw [List.all_eq_true]
            intro w hw
            obtain ⟨i,hi⟩:=List.getElem?_of_mem hw
            cases he:w.ended with
            | true=>rfl
            | false =>
              have:=L.pos Y.T Y.K (Y.A.ok i w hi he) hi he
              omega
          unfold still at hs
          rw [al,Bool.and_true,decide_eq_false_iff_not] at hs
          exact hs (by omega)
      have M1:1<=M:=by
        rcases w0 with a | a
        . have:1 * (C+1)<=(ds.length - s.tk) * (C+1):=Nat.mul_le_mul_right _ (by omega)
          omega
        . omega
      rcases c with c | ⟨c,d⟩
      . refine ⟨os,s1,bg1,R,c,?_,l1,Y1.anew c _⟩
        have:H * 1<=H * M:=Nat.mul_le_mul_left _ M1
        omega
      . have go:∀ T',Lim s1.S bg1 s1.ws (fun _=>T')->(ds.length - s1.tk) * (C+1)+T'<=M - 1->∃ os s' bg',Run ds H K 0 s os s'/\still ds s'=true/\os.length<=H * M/\s'.ws.length=H/\StOk ds s' bg' (fun _=>0):=fun T' L' hM'=>by
          obtain ⟨o2,s2,bg2,R2,q2,n2,l2,Y2⟩:=QdD (K:=K) hH hC (M - 1) T' (B+1) s1 bg1 l1 Y1 L' hM' (by have:=M1;omega)
          refine ⟨os++o2,s2,bg2,R.append hH (by rw [Nat.zero_add,c,Nat.mod_self];exact R2),q2,?_,l2,Y2⟩
          have:H * M=H * (M - 1)+H:=by
            obtain ⟨m,rfl⟩:∃ m,M=m+1:=⟨M - 1,by omega⟩
            rw [Nat.add_sub_cancel,Nat.mul_succ]
          rw [List.length_append];omega
        rcases d with d | ⟨d,d2⟩
        . have pg:=Y1.pages
          refine go C (fun i w hi hw=>?_) ?_
          . have:=Lim.first Y1.T Y1.K Y1.T.levels s1.ws i w hi hw
            dsimp only at this ⊢
            rw [l1] at this
            omega
          . have e:(ds.length - s.tk) * (C+1)=(ds.length - s.tk - 1) * (C+1)+(C+1):=by
              obtain ⟨m,hm⟩:∃ m,ds.length - s.tk=m+1:=⟨ds.length - s.tk - 1,by omega⟩
              rw [hm,Nat.add_sub_cancel,Nat.succ_mul]
            have f:(ds.length - s1.tk) * (C+1)<=(ds.length - s.tk - 1) * (C+1):=Nat.mul_le_mul_right _ (by omega)
            omega
        . by_cases e:s1.tk=s.tk
          . have T1:1<=T:=by
              rcases w0 with a | a
              . refine Nat.pos_of_ne_zero fun h0=>?_
                have hl:0 < s.ws.length:=by omega
                cases he:s.ws[0].ended with
                | true=>exact d2 hH ⟨_,List.getElem?_eq_getElem hl,he,a⟩
                | false =>
                  have:=L.pos Y.T Y.K (Y.A.ok 0 _ (List.getElem?_eq_getElem hl) he) (List.getElem?_eq_getElem hl) he
                  omega
              . exact a
            refine go (T - 1) (d T (by simpa using L)) ?_
            rw [e];omega
          . have pg:=Y1.pages
            refine go C (fun i w hi hw=>?_) ?_
            . have:=Lim.first Y1.T Y1.K Y1.T.levels s1.ws i w hi hw
              dsimp only at this ⊢
              rw [l1] at this
              omega
            . have e:(ds.length - s.tk) * (C+1)=(ds.length - s.tk - 1) * (C+1)+(C+1):=by
                obtain ⟨m,hm⟩:∃ m,ds.length - s.tk=m+1:=⟨ds.length - s.tk - 1,by omega⟩
                rw [hm,Nat.add_sub_cancel,Nat.succ_mul]
              have f:(ds.length - s1.tk) * (C+1)<=(ds.length - s.tk - 1) * (C+1):=Nat.mul_le_mul_right _ (by omega)
              omega
  termination_by M=>M
end
end TR
namespace D
open PySem PySem.Spec PyProof.Rows L2
section
variable {prog:Program} {w:World} {A:Around} {E:Value->Shared->Prop} {s:Shared}
end
section
variable {prog:Program} {w:World} {K:Type} [DecidableEq K] {knd:KeyKind prog w K} {A:Around} {R:Result->Shared->Prop}
end
section
variable {prog:Program} {w:World} {K:Type} [DecidableEq K] {knd:KeyKind prog w K} {A:Around} {E:Value->Shared->Prop} {s:Shared}
end
section
variable {X:Cx}
def lsG:DV->M (List DV)
  | .lst ds=>pure ds
  | .ref n=>do
    match <- Z3 n with
    | .lst ds=>pure ds
    | _=>failure
  | _=>failure
theorem uX {d:DV} {ds:List DV} {hp hp':Hs} {K:PySem.W.Frag} {ρ:List Addr} {B:Addr->Prop} {H:Hp} {v:V} (W:WOk K ρ B hp H) (r:RepV K ρ B H d v) (h:lsG d hp=some (ds,hp')):hp=hp'/\∃ p xs,v=.ref p/\SqL K H p xs/\RepL K ρ B H ds xs:=by
  cases d with
  | lst xs =>
    obtain ⟨rfl,rfl⟩:=Qj h
    obtain ⟨a,ys,rfl,_,sq,l⟩:=r.lstI
    exact ⟨rfl,a,ys,rfl,sq,l⟩
  | ref n =>
    obtain ⟨o,hp1,e1,e2⟩:=Qf (show (Z3 n >>= fun o=>(match o with | .lst ds=>pure ds | _=>failure:M (List DV))) hp=some (ds,hp') from h)
    obtain ⟨e3,rfl⟩:=ZZ e1
    cases o with
    | lst zs =>
      obtain ⟨rfl,rfl⟩:=Qj e2
      obtain ⟨a,rfl,_,ys,h1,l1⟩:=RepV.refW W r e3
      exact ⟨rfl,a,ys,rfl,SqL.of h1,l1⟩
    | dic _=>cases e2
    | ins _ _=>cases e2
  | non=>cases h
  | bl _=>cases h
  | int _=>cases h
  | str _=>cases h
  | tup _=>cases h
def opM (o:Option α):M α:=match o with
 | some a=>pure a
 | none=>failure
theorem QbB {o:Option α} {a:α} {hp hp':Hs} (h:opM o hp=some (a,hp')):o=some a/\hp=hp':=by
 cases o with
 | none=>cases h
 | some z=>obtain ⟨rfl,rfl⟩:=Qj h;exact ⟨rfl,rfl⟩
end
end D
namespace D
open PySem PySem.Spec PyProof.Rows L2
def blM:List DV->Option (List Bool)
 | []=>some []
 | .bl b::r=>(blM r).map (b :: ·)
 | _=>none
def QfX:List DV->M DV:=QeT fun d=>do
 let ds <- lsG d
 let bs <- opM (blM ds)
 pure (.bl (bs.all id))
section
variable {prog:Program} {w:World} {A:Around} {E:Value->Shared->Prop} {s:Shared}
theorem Qal (bs:List Bool):(List.range bs.length).all (fun i=>bs.getD i false)=bs.all id:=by
  induction bs with
  | nil=>rfl
  | cons b bs ih =>
    rw [List.length_cons,List.range_succ_eq_map,List.all_cons,List.all_map,List.all_cons,<- ih]
    rfl
theorem V9 {l:Addr} {items:Array Value} {bs:List Bool} {Q:Value->Shared->Prop} (hh:A.handled=none) (hl:s.heap.IsList l items) (hlen:items.size=bs.length) (hb:∀ (i:Nat) (v:Value),items[i]?=some v->v=.bool (bs.getD i false))
  (h:∀ h' tk,(∀ b o,s.heap.get? b=some o->h'.get? b=some o)->Q (.bool (bs.all id)) { s with heap:=h',toks:=tk }):wpAny (model prog w) A (call (.builtin "all") [.ref l]) Q E s:=by
 refine call_all_walk (wpAny_pyIter_list hl ?_)
 have hne:l≠s.heap.objs.size:=fun e=>by
  obtain ⟨o,ho,_⟩:=hl
  exact Nat.lt_irrefl _ (e▸Heap.lt_size ho)
 refine ⟨s.heap.objs.size,_,_,_,_,_,fun i=>bs.getD i false,rfl,Walks.list (by exact hh) s.heap.objs.size l hne items,?_,fun i v s' Q' E' hP hQ=>?_,fun h' tk hk=>?_⟩
 ·exact ⟨⟨_,Heap.get?_push_size _ rfl,rfl,rfl⟩,hl.push _⟩
 ·have:v=.bool (bs.getD i false):=hb i v hP
  subst this
  exact wpAny_pure hQ
 ·rw [hlen,Qal]
  refine h h' tk fun b o e=>hk b o (fun z=>?_) (Heap.get?_push_of_some _ e)
  have:b=s.heap.objs.size:=by simpa using z
  exact Nat.lt_irrefl _ (this▸Heap.lt_size e)
end
section
variable {X:Cx}
theorem QcB {K:PySem.W.Frag} {ρ:List Addr} {B:Addr->Prop} {H:Hp}:∀ {ds:List DV} {bs:List Bool} {ys:List V} {its:List Value},blM ds=some bs->RepL K ρ B H ds ys->Vals ys its->its.length=bs.length/\∀ (i:Nat) (v:Value),its[i]?=some v->v=.bool (bs.getD i false):=by
  intro ds
  induction ds with
  | nil =>
    intro bs ys its h r v
    cases h
    unfold RepL at r;subst r
    cases v
    exact ⟨rfl,fun i v h=>by simp at h⟩
  | cons d ds ih =>
    intro bs ys its h r v
    unfold RepL at r
    obtain ⟨y,ys',rfl,r1,r2⟩:=r
    cases v with
    | @cons _ u _ us v1 v2 =>
    cases d<;>first | (simp [blM] at h;done) | skip
    rename_i b
    have h:(blM ds).map (b :: ·)=some bs:=h
    obtain ⟨bs',h1,rfl⟩:=Option.map_eq_some_iff.mp h
    obtain ⟨a1,a2⟩:=ih h1 r2 v2
    unfold RepV at r1
    subst r1
    cases v1
    refine ⟨by simp [a1],fun i v hv=>?_⟩
    cases i with
    | zero=>cases hv;rfl
    | succ i=>exact a2 i v hv
theorem Qf3 (hc:X.calm=true):Xs X (.builtin "all") (tPn X.K QfX):=by
 intro pins s σ H xs us Q I r h
 obtain ⟨ρ,B,hp,ds,d,hp',W,rl,e,k⟩:=h
 obtain ⟨x,rfl,e⟩:=Qab e
 obtain ⟨zs,hp1,e1,e2⟩:=Qf e
 obtain ⟨bs,hp2,e3,e4⟩:=Qf e2
 obtain ⟨e5,rfl⟩:=QbB e3
 obtain ⟨rfl,rfl⟩:=Qj e4
 obtain ⟨v,rfl,rv⟩:=rl.oneI
 obtain ⟨rfl,p,ys,rfl,sq,l⟩:=uX W rv e1
 obtain ⟨u,rfl,rx⟩:=G9 r
 cases rx
 obtain ⟨its,r',pl,hz⟩:=I.list sq
 obtain ⟨a1,a2⟩:=QcB e5 l r'
 refine V9 (bs:=bs) (I.ok.hd hc) pl.isList (by simpa using a1) (fun i v h=>a2 i v (by simpa using h)) fun h' tk kp=>?_
 exact ⟨.bl (bs.all id),H,I.kept (t':=tk) kp,rfl,k _ ρ B H Gr.refl W (by unfold RepV;rfl)⟩
end
end D
namespace D
open PySem PySem.Spec PyProof.Rows L2
structure UF (K:PySem.W.Frag) (mg:Str->Option Value) (x:Str) (st:Stmt):Prop where
 ex:∃ g fd,Fun K x x st g fd/\mg x=some (.ref g)
structure UC (K:PySem.W.Frag) (c:Str):Prop where
 ex:∀ C,ClsN K c C->Cls K C
structure UM (K:PySem.W.Frag) (c m q:Str) (st:Stmt):Prop where
 ex:∃ C g fd,Fun K m q st g fd/\ClsN K c C/\Cls K C/\vh K C m g
structure UI (K:PySem.W.Frag) (mg:Str->Option Value) (c q:Str) (st:Stmt):Prop where
 ex:∃ C g fd,Fun K "__init__" q st g fd/\ClsN K c C/\mg c=some (.ref C)/\Mk K C g
structure UG (mg:Str->Option Value) (x:Str) (i:Int):Prop where
 ex:∃ t,mg x=some (.int i t)
structure UT (K:PySem.W.Frag) (mg:Str->Option Value) (x:Str) (d:DV):Prop where
 ex:∃ a,mg x=some (.ref a)/\KRep K d (.ref a)
section
variable {K:PySem.W.Frag} {h:Heap} {mg:Str->Option Value} {f C:Addr} {x c m q:Str} {st:Stmt} {oc:Value} {od an:Option Addr} {osl:Array (Option Value)} {kV doc pm cdv ct:Value} {i:Int} {t:Tok} {d:DV} {a:Addr}
theorem uf (X:K.In h) (G:h.Ns mainGlobals mg) (n:PySem.W.nsIn K mainGlobals x=some (some (.ref f))) (l:K.lookup f=some ⟨oc,od,.func (PySem.W.fnOf x x (JI st) (ZH st) (Qo st) .none kV doc pm an cdv ct),osl⟩) (e:PySem.W.codeIn K cdv x=true) (k:PySem.W.keepIn K (.ref f)=true):UF K mg x st:=⟨_,_,Kt l e k,PySem.W.mg_of X G n⟩
theorem uc (X:K.In h) (n:PySem.W.nsIn K mainGlobals c=some (some (.ref C))) (p:PySem.W.plainGet K C Str.empty=true) (e:PySem.W.hasDictIn K C=true) (o:PySem.W.plainOver K C=true) (s:PySem.W.findIn K (.ref C) "__setattr__" = some (some (.builtin "object.__setattr__"))):UC K c:=⟨fun C' n'=>by cases ClsN.uniq (show ClsN K c C from n) n';exact ⟨p,e,o,s⟩⟩
theorem um (X:K.In h) (u:UC K c) (n:PySem.W.nsIn K mainGlobals c=some (some (.ref C))) (a:PySem.W.findIn K (.ref C) m=some (some (.ref f))) (b:PySem.W.isFn K (.ref f)=true) (l:K.lookup f=some ⟨oc,od,.func (PySem.W.fnOf m q (JI st) (ZH st) (Qo st) .none kV doc pm an cdv ct),osl⟩) (e:PySem.W.codeIn K cdv q=true) (k:PySem.W.keepIn K (.ref f)=true):UM K c m q st:=⟨_,_,_,Kt l e k,n,u.ex _ n,a,b,k⟩
theorem ui (X:K.In h) (G:h.Ns mainGlobals mg) (n:PySem.W.nsIn K mainGlobals c=some (some (.ref C))) (a:PySem.W.findIn K (.ref C) "__init__" = some (some (.ref f))) (b:PySem.W.isFn K (.ref f)=true) (l:K.lookup f=some ⟨oc,od,.func (PySem.W.fnOf "__init__" q (JI st) (ZH st) (Qo st) .none kV doc pm an cdv ct),osl⟩) (e:PySem.W.codeIn K cdv q=true) (k:PySem.W.keepIn K (.ref f)=true) (v:PySem.W.makesIn K C=true) (z:PySem.W.keepIn K (.ref C)=true):UI K mg c q st:=⟨_,_,_,Kt l e k,n,PySem.W.mg_of X G n,v,a,b,z⟩
theorem uk (X:K.In h) (u:UC K c) (n:PySem.W.nsIn K mainGlobals c=some (some (.ref C))) (a:PySem.W.findIn K (.ref C) x=some none):X4 K c x:=⟨C,n,u.ex _ n,a⟩
theorem ug (X:K.In h) (G:h.Ns mainGlobals mg) (n:PySem.W.nsIn K mainGlobals x=some (some (.int i t))):UG mg x i:=⟨_,PySem.W.mg_of X G n⟩
theorem ut (X:K.In h) (G:h.Ns mainGlobals mg) (n:PySem.W.nsIn K mainGlobals x=some (some (.ref a))) (r:KRep K d (.ref a)):UT K mg x d:=⟨_,PySem.W.mg_of X G n,r⟩
theorem Q7 {N ps:List Str} {s:Scope} (h:(s.kind==.function&&!s.isCoroutine&&!s.isGenerator&&decide N.Nodup&&decide (N.take ps.length=ps)&&ps.all (fun x=>decide (s.names.lookup x=some .local)||decide (s.names.lookup x=some .cell))&&s.names.all fun y=>decide (y.2≠.free))=true):Qt N ps s:=by
 simp only [Bool.and_eq_true,Bool.not_eq_true',decide_eq_true_eq,List.all_eq_true,Bool.or_eq_true] at h
 obtain ⟨⟨⟨⟨⟨⟨a,b⟩,c⟩,d⟩,e⟩,f⟩,g⟩:=h
 refine ⟨?_,b,c,d,e,f,fun y hy=>by have:=g y hy;simpa using this⟩
 revert a;cases s.kind<;>first | (intro _;rfl) | (intro z;exact absurd z (by decide))
end
section
variable {P:Program} {w:World} {K:PySem.W.Frag} {mg:Str->Option Value} {base:Heap} {x c m q:Str} {st:Stmt} {N ps:List Str} {k:Nat} {body:DSx}
def Bn (ps:List Str) (x q:Str) (st:Stmt):Prop:=∀ (kV doc pm:Value) (an:Option Addr) (cdv ct:Value) (us:List Value),us.length=ps.length->bindArgs (PySem.W.fnOf x q (JI st) (ZH st) (Qo st) .none kV doc pm an cdv ct) ⟨us,[]⟩=pure (ps.zip us)
def Bd (P:Program) (w:World) (K:PySem.W.Frag) (mg:Str->Option Value) (base:Heap) (N:List Str) (k:Nat) (q:Str) (st:Stmt) (body:DSx):Prop:=∀ (g:Addr) (cdv:Value) (A:Around) (outer:List Env) (s:Shared) (H:Hp) (E:XK),Room k (A.deeper (envOfC q (Qo st) s.heap.objs.size g cdv))->DSs (yO CX0 P w K mg base N q (Qo st) g cdv A outer s H E).nox (ZH st) body
theorem hf (u:UF K mg x st) (Sc:Qt N ps (Qo st)) (h:Bd P w K mg base N k x st body) (hb:Bn ps x x st:=by intro _ _ _ _ _ _ us hl;rcases us with _ | ⟨_,_ | ⟨_,_ | ⟨_,_ | ⟨_,_ | ⟨_,_ | ⟨_,_⟩⟩⟩⟩⟩⟩<;>first | rfl | cases hl):Has P w K mg base x (k+1) ps.length (Q5 N.length body):=let ⟨_,_,F,hm⟩:=u.ex;Qa0 F Sc hm hb (h _)
theorem hM (u:UM K c m q st) (Sc:Qt N ps (Qo st)) (h:Bd P w K mg base N k q st body) (hb:Bn ps m q st:=by intro _ _ _ _ _ _ us hl;rcases us with _ | ⟨_,_ | ⟨_,_ | ⟨_,_ | ⟨_,_ | ⟨_,_ | ⟨_,_⟩⟩⟩⟩⟩⟩<;>first | rfl | cases hl):J9 P w K mg base c m (k+1) ps.length (Q5 N.length body):=let ⟨_,_,_,F,nc,cl,me⟩:=u.ex;Qbq nc cl me F Sc hb (h _)
theorem hI (u:UI K mg c q st) (Sc:Qt N ps (Qo st)) (h:Bd P w K mg base N k q st body) (hb:Bn ps "__init__" q st:=by intro _ _ _ _ _ _ us hl;rcases us with _ | ⟨_,_ | ⟨_,_ | ⟨_,_ | ⟨_,_ | ⟨_,_ | ⟨_,_⟩⟩⟩⟩⟩⟩<;>first | rfl | cases hl):gR P w K mg base c (k+1) ps.length (Q5 N.length body):=let ⟨_,_,_,F,nc,hm,me⟩:=u.ex;Qa9 nc hm me F Sc hb (h _)
end
end D
namespace D
open PySem PySem.Spec PyProof.Rows L2
section
variable {X:Cx}
def Qbu:DV->DV->M DV
 | .lst [d],.int n=>do Qw (decide (0<=n/\n.toNat<=100000));XS (.lst (List.replicate n.toNat d))
 | _,_=>failure
theorem Qe2:P2 X (binaryOp .Mult) Qbu:=by
 intro pins s σ H x y v u Q I rx ry h
 obtain ⟨ρ,B,hp,dx,dy,d,hp',W,r1,r2,e,k⟩:=h
 unfold Qbu at e
 split at e
 ·rename_i d0 n
  obtain ⟨_,hp1,e1,e2⟩:=Qf e
  obtain ⟨hs,rfl⟩:=QH e1
  cases e2
  obtain ⟨h0,h1⟩:=of_decide_eq_true hs
  obtain ⟨l,vs,rfl,nb,sq,rl⟩:=r1.lstI
  obtain ⟨z,rfl,rz⟩:=rl.oneI
  refine thn (QdA pins s σ H _ _ v u (fun v H'=>ur X.K H'->Q v H') I rx ry ⟨l,z,n,rfl,r2.intI,sq,h0,h1,uM W (GN rz _) k⟩) fun v s' z=>?_
  obtain ⟨x,H',I',rx',q'⟩:=z
  exact ⟨x,H',I',rx',q' (Inv.kfree I')⟩
 ·cases e
end
section
variable {prog:Program} {w:World} {A:Around} {E:Value->Shared->Prop} {s:Shared}
end
section
variable {X:Cx}
end
end D
namespace D
open PySem PySem.Spec PyProof.Rows L2
def JE (x:Int):Prop:=Builtin.Int.intBits x<=1048576
instance (x:Int):Decidable (JE x):=inferInstanceAs (Decidable (_<=_))
theorem ko {x y:Int} (h:x.natAbs<=y.natAbs) (hy:JE y):JE x:=PySem.intBits_le_of_natAbs h hy
section
variable {X:Cx}
def QdY (i j:Int):Bool:=decide (JE i/\JE j)
def QcZ:DV->DV->M DV:=qA QdY fun i j=>.int (i * j)
theorem Qc5:OpR X (binaryOp .Mult) (rI (fun i j=>JE i/\JE j) fun i j=>.int (i * j)):=opI fun _ _ _ _ _ _ _ hc q=>mul_int q (.of_bits hc.1 hc.2)
theorem Qe1:P2 X (binaryOp .Mult) QcZ:=Vt Qc5 fun i j h=>of_decide_eq_true h
end
theorem VZ:∀ (ns:List Int) (x:Int),x∈ns->Builtin.Int.intBits x<=PySem.W.WData.weightAll (ns.map PySem.W.WData.int)
  | n::r,x,h=>by
    rw [List.map_cons]
    unfold PySem.W.WData.weightAll
    rcases List.mem_cons.mp h with rfl | h
    . exact Nat.le_trans (Nat.le_of_eq (show Builtin.Int.intBits x=PySem.W.WData.weight (.int x) by unfold PySem.W.WData.weight;rfl)) (by omega)
    . have:=VZ r x h
      omega
theorem QcA {ns:List Int} (h:PySem.W.WData.layableAll [PySem.W.WData.list (ns.map PySem.W.WData.int)]=true):∀ x∈ns,JE x:=fun x hx=>by
 have h1:PySem.W.WData.layable (.list (ns.map PySem.W.WData.int))=true:=by
  unfold PySem.W.WData.layableAll at h
  simpa using h
 unfold PySem.W.WData.layable at h1
 have h2:=of_decide_eq_true (Bool.and_eq_true_iff.mp h1).2
 unfold PySem.W.WData.weight at h2
 exact Nat.le_trans (VZ ns x hx) h2
end D
namespace L2
open PySem PySem.Spec PyProof.Rows PySem.W
theorem Qcn {l:PySem.W.OpenLaw} {n k:Nat} {q:Program} {loose:List Str} {XP:(Str->Option Value)->Heap->Prop} {YP:World->Heap->Prop} {d:DefRec} {K:Params->PySem.W.Frag} {CX:World->CXT} {sp:World->Sp} {x:Str}
    (hn:l.most=some n) (hn2:n<=sizeLine) (hdf:d.params.defaults=[]) (hr:Room k callerA)
    (hY:∀ (w:World) (h:Heap),YP w h->(K w.params).In h)
    (F:∀ (w:World) (mg:Str->Option Value) (fa:Addr) (h:Heap),(K w.params).In h->h.Ns mainGlobals mg->mg d.name=some (.ref fa) ->
      ∃ fd : FuncData, (∀ (s : Shared) (u : Value), BindsTo s fd ⟨[u], []⟩ [(x, u)]) /\
        ∀ base:Heap,(K w.params).In base->base.Ns mainGlobals mg->qX l.prog w (K w.params) mg base (CX w) k fa fd [x] (sp w))
    (hsp:∀ (w:World) (H:Hp) (a:Addr) (ns:List Int),ns.length<=n->(∀ x∈ns,D.JE x)->Qek H->SqL (K w.params) H a (ns.map V.int)->sp w [.ref a] H (fun v _=>v=.bl true) fun _ _ _=>False)
    (hCX:∀ (w:World) (H:Hp) (s:Shared) (e:Value) (s':Shared),CX w [] H s (fun _ _ _=>False) e s'->False) :
    PySem.W.WalkO q loose XP YP l.row.toRowW d [] (fun f vs=>PySem.call f vs):=by
  intro w s₀ s₁ mg mb G Y fa o pm cd doc dV kV ho hd hcd hD hmg hg args vals as hpre hlay hrd hwl hlo
  obtain rfl:dV=.none:=Dflts.none hD hdf
  obtain rfl:kV=.none:=Dflts.noKw hD
  obtain ⟨a,vs,ns,rfl,rfl,hobj,hints,hlen⟩:=Att.script_of hn hpre hwl
  have KX:=hY w _ Y
  obtain ⟨fd,hb,hF⟩:=F w mg fa _ KX G.T.g hmg
  refine enter_call (codeAny_mono (Qbg KX G.T.g G.T.b G.T.builtins G.T.nolimit hg hobj hints (Nat.le_trans hlen hn2) hr hF hb (fun H hO hS=>hsp w H a ns hlen (D.QcA hlay) hO hS) fun H e s'=>hCX w H s₁ e s') fun r s' hq=>?_)
  obtain ⟨rfl,h2,h3,h4⟩:=hq
  exact ⟨.inl ⟨.bool true,.bool true,[],rfl,fun _=>rfl,.bool true,Att.post_true l _,fun _=>⟨List.Pairwise.nil,fun _ hm=>(nomatch hm)⟩⟩,h2,h3,h4⟩
end L2
namespace D
open PySem PySem.Spec PyProof.Rows L2
section
variable {X:Cx}
def eqN:DV->DV->M DV:=fun x y=>match y with
  | .lst []=>do
    let ds <- lsG x
    pure (.bl ds.isEmpty)
  | _=>failure
theorem QaW {x y d:DV} {hp hp':Hs} (h:eqN x y hp=some (d,hp')):∃ ds,y=.lst []/\lsG x hp=some (ds,hp')/\d=.bl ds.isEmpty:=by
 unfold eqN at h
 split at h
 ·obtain ⟨ds,hp1,e1,e2⟩:=Qf h
  obtain ⟨rfl,rfl⟩:=Qj e2
  exact ⟨ds,rfl,e1,rfl⟩
 ·cases h
theorem QbD (hu:X.A.units+64 < cLine):P2 X (compareOp .Eq) eqN:=by
  intro pins s σ H x y v u Q I rx ry h
  obtain ⟨ρ,B,hp,dx,dy,d,hp',W,r1,r2,e,k⟩:=h
  obtain ⟨ds,rfl,e1,rfl⟩:=QaW e
  obtain ⟨rfl,p,xs,rfl,sq,rl⟩:=uX W r1 e1
  obtain ⟨b,ys,rfl,_,sq2,rl2⟩:=r2.lstI
  unfold RepL at rl2
  subst rl2
  cases rx
  cases ry
  obtain ⟨its,q1,pl,z1⟩:=I.list sq
  obtain ⟨jts,q2,pm,z2⟩:=I.list sq2
  cases q2
  have ll:=rl.length
  have l2:=q1.length
  have u0:X.A.units < cLine:=by omega
  cases hd:ds with
  | nil =>
    subst hd
    have e0:its=[]:=List.eq_nil_of_length_eq_zero (by simp at ll;omega)
    subst e0
    have R:=SeqAt.RcAt.lists (e:=fun _=>true) pl.isList pm.isList rfl u0 (fun j h1=>by simp at h1)
    exact R X.prog X.w _ _ ⟨.bl _,H,I,rfl,k _ ρ B H Gr.refl W Jd⟩
  | cons d ds' =>
    subst hd
    have hz:(its.toArray.size != ([]:List Value).toArray.size)=true:=by
      have e:its.length=ds'.length+1:=by rw [<- l2,<- ll];rfl
      simp;intro h;rw [h] at e;simp at e
    have R:=SeqAt.RcAt.lists_lengths pl.isList pm.isList hz u0
    exact R X.prog X.w _ _ ⟨.bl _,H,I,rfl,k _ ρ B H Gr.refl W Jd⟩
end
end D
namespace D
open PySem PySem.Spec PyProof.Rows L2
def ixA:DV->DV->M DV
  | .ref n,i=>do
    match <- Z3 n with
    | .lst ds=>do
      let k <- asI i
      Qw (decide (0<=k))
      qG (atI ds k)
    | _=>failure
  | _,_=>failure
def GQ (fo fi fe:DEx):DSx:=fun env=>do
 let o <- fo env
 let i <- fi env
 let x <- ixA o i
 let y <- fe env
 let z <- Yk x y
 zt o i z
 pure (.nx,env)
section
variable {X:Cx}
theorem Qgf:QfW X (tP2 X.K ixA):=by
  intro pins s σ H x y v u Q I rx ry h
  obtain ⟨ρ,B,hp,dx,dy,d,hp',W,r1,r2,e,k⟩:=h
  unfold ixA at e
  split at e
  . rename_i n i
    obtain ⟨o,hp1,e1,e2⟩:=Qf e
    obtain ⟨e3,rfl⟩:=ZZ e1
    obtain ⟨a,rfl,i1,ro⟩:=RepV.refW W r1 e3
    cases o with
    | ins _ _=>cases e2
    | dic kvs=>cases e2
    | lst ds =>
      obtain ⟨m,hp2,e4,e5⟩:=Qf e2
      obtain ⟨rfl,rfl⟩:=jI e4
      obtain ⟨_,hp3,e6,e7⟩:=Qf e5
      obtain ⟨h0,rfl⟩:=QH e6
      obtain ⟨hv,rfl⟩:=zR e7
      obtain ⟨xs,h1,l1⟩:=ro
      obtain ⟨z,hz,rz⟩:=yT l1 hv
      have h0':0<=m:=of_decide_eq_true h0
      obtain rfl:=r2.intI
      cases rx
      obtain ⟨t,rfl⟩:=ry
      obtain ⟨its,r,pl,hzz⟩:=I.list (SqL.of h1)
      obtain ⟨j,g1,g2,g3,g4,g5⟩:=Ki hz
      obtain ⟨w,ew,rw'⟩:=r.get g2
      have hl:=r.length
      have hn:=Vn
      have hj:m.toNat=j:=by
        rw [seqIndex_of h0' g5] at g1
        exact Option.some.inj g1
      exact wpAny_getItem_list pl.isList h0' (by omega) (by rw [hj];simpa using ew) ⟨z,H,I,rw',k _ ρ B H Gr.refl W rz⟩
  . cases e
theorem QcK {o i e:Expr} {fo fi fe:DEx} {tpos pos:Pos} (hu:X.A.units+1 < cLine) (ho:DE X o fo) (hi:DE X i fi) (he:DE X e fe)
  (ha:∀ ov iv new,augStore i ov iv new=(do holding [new,ov,iv] (setItem ov iv new);release [new,ov,iv] [];pure .next):=by intros;rfl):DS X (.AugAssign (.Subscript o i tpos) .Add e pos) (GQ fo fi fe) :=
 L2.PS.imp (Qdo ho hi Qgf he QeA (Qeb hu) ha) fun D σ H h=>by
  obtain ⟨Z,env,ρ,B,hp,fl,env',hp',S,e,k⟩:=h
  obtain ⟨x,hp1,e1,e⟩:=Qf e
  obtain ⟨y,hp2,e2,e⟩:=Qf e
  obtain ⟨v,hp3,e3,e⟩:=Qf e
  obtain ⟨u,hp4,e4,e⟩:=Qf e
  obtain ⟨z,hp5,e5,e⟩:=Qf e
  obtain ⟨_,hp6,e6,e⟩:=Qf e
  obtain ⟨q,rfl⟩:=Qj e
  cases q
  obtain ⟨a,b,rfl,rfl,rfl,rfl⟩:=gY e5
  refine tD.run S e1 fun vx ρ1 B1 H1 g1 S1 r1=>tD.run S1 e2 fun vy ρ2 B2 H2 g2 S2 r2=>?_
  refine ⟨ρ2,B2,hp2,x,y,.int a,hp3,S2.wo,RepV.grow S1.wo.rb g2 _ _ r1,r2,e3,fun v3 ρ3 B3 H3 g3 W3 r3=>?_⟩
  refine tD.run (S2.grow g3 W3) e4 fun v4 ρ4 B4 H4 g4 S4 r4=>?_
  refine ⟨a,b,r3.intI,r4.intI,?_⟩
  have gg:=g3.trans g4
  refine ⟨ρ4,B4,hp4,x,y,.int (a+b),hp6,S4.wo,RepV.grow S1.wo.rb (g2.trans gg) _ _ r1,RepV.grow S2.wo.rb gg _ _ r2,JM,e6,fun ρ5 B5 H5 g5 W5=>?_⟩
  exact k _ ρ5 B5 H5 ((g1.trans (g2.trans (gg.trans g5))).gs S.wo.rb) (S4.grow g5 W5)
end
section
variable {P:Program} {w:World} {K:PySem.W.Frag} {mg:Str->Option Value} {base:Heap} {x:Str} {st:Stmt} {N ps:List Str} {k:Nat} {body:DSx}
theorem hf6 (u:UF K mg x st) (Sc:Qt N ps (Qo st)) (h:Bd P w K mg base N k x st body) (hb:Bn ps x x st:=by intro _ _ _ _ _ _ us hl;rcases us with _ | ⟨_,_ | ⟨_,_ | ⟨_,_ | ⟨_,_ | ⟨_,_ | ⟨_,_ | ⟨_,_⟩⟩⟩⟩⟩⟩⟩<;>first | rfl | cases hl):Has P w K mg base x (k+1) ps.length (Q5 N.length body):=let ⟨_,_,F,hm⟩:=u.ex;Qa0 F Sc hm hb (h _)
end
end D
namespace K32
open PySem PySem.Spec PyProof.Rows L2 D
def top (i:Nat):Stmt:=PySem.Challenge.pw_sidelink_k32_moves_are_steps.main.body.getD i (.Pass ⟨0,0,0,0⟩)
abbrev jg:Stmt:=Q9 (top 30) 8
def jb:DSx:=QE (Zw Z5 (Qc (Qx "Shelf" "kept" (Qb 0)) (Qm)))
def ZW:List DV->M DV:=Q5 1 jb
abbrev XN:Stmt:=Q9 (top 30) 12
def XI:DSx:=sIf (Jy (eB (Xi leD ltD (eC (.int 0)) (Qb 1) (Zw Z5 (Qc (Qx "Shelf" "kept" (Qb 0)) (Qm)))))) (Qb0) (Zb)
def Zm:List DV->M DV:=Q5 2 XI
abbrev xj:Stmt:=Q9 (top 30) 1
def jJ:DSx:=Qr (ZN (Qu "Shelf" "check_number" 2 Zm (Qb 0) (Qc (Qb 1) (Qm)))) (Qr (Xw "Shelf" "read_count" Yk (Qb 0) (eC (.int 1))) (QE (Ql ixG (Qx "Shelf" "kept" (Qb 0)) (Qb 1))))
def Zs:List DV->M DV:=Q5 2 jJ
abbrev xm:Stmt:=Q9 (top 30) 4
def jL:DSx:=QE (Qx "Shelf" "top" (Qb 0))
def ZE:List DV->M DV:=Q5 1 jL
abbrev qO:Stmt:=Q9 (top 25) 0
def yK:DSx:=Qr (Q1 "Walk" "shelf" (Qb 0) (Qb 1)) (Qr (Q1 "Walk" "deed" (Qb 0) (Qb 2)) (Qr (Q1 "Walk" "aim" (Qb 0) (Ql ixG (Qb 2) (eC (.int 1)))) (Qr (Q1 "Walk" "goal" (Qb 0) (eC (.int 0))) (Qr (Q1 "Walk" "place" (Qb 0) (eC .non)) (Qr (Q1 "Walk" "forks" (Qb 0) (Xj)) (Qr (Q1 "Walk" "new_page" (Qb 0) (eC .non)) (Qr (Q1 "Walk" "worth" (Qb 0) (eC .non)) (Qr (Q1 "Walk" "pairs" (Qb 0) (J0 (Qm))) (Q1 "Walk" "ended" (Qb 0) (eC (.bl false)))))))))))
def ZL:List DV->M DV:=Q5 3 yK
abbrev yx:Stmt:=Q9 (top 25) 1
def K4:DSx:=QE (Qx "Walk" "ended" (Qb 0))
def Jv:List DV->M DV:=Q5 1 K4
abbrev YJ:Stmt:=Q9 (top 25) 9
def Jg:DEx:=Zp true (xOf (Kx (Ql ixG (Qb 2) (eC (.int 1))) (Ql ixG (Qb 2) (eC (.int 2))))) [3,4] (eB (Xi leD ltD (Qb 1) (Ql ixG (Qb 0) (eC (.int 0))) (Qb 2))) (Qb 0)
def jN:DSx:=Qr (QC 3 (Ql ixG (Qx "Walk" "deed" (Qb 0)) (eC (.int 1)))) (Qr (QC 4 (Ql ixG (Qx "Walk" "deed" (Qb 0)) (eC (.int 2)))) (Qr (QC 5 (Jg)) (Qr (ZN (JZ "list" xa (Qx "Walk" "pairs" (Qb 0)) (Qc (Qb 5) (Qm)))) (Qr (sIf (eOr (eB (Ql isD (Ql ixG (Qb 2) (eC (.int 3))) (eC .non))) (eB (Ql geD (Ql ixG (Qb 2) (eC (.int 3))) (Qb 4)))) (Qr (Q1 "Walk" "ended" (Qb 0) (eC (.bl true))) (QE (Zu (Qc (eC (.str "read")) (Qc (Qb 1) (Qc (Zw Qaq (Qc (Qb 5) (Qm))) (Qc (eC .non) (Qc (eC .non) (Qm))))))))) (Zb)) (Qr (Q1 "Walk" "aim" (Qb 0) (Ql ixG (Qb 2) (eC (.int 3)))) (Qr (Q1 "Walk" "place" (Qb 0) (Ql ixG (Qb 2) (eC (.int 4)))) (QE (Zu (Qc (eC (.str "read")) (Qc (Qb 1) (Qc (Zw Qaq (Qc (Qb 5) (Qm))) (Qc (Qx "Walk" "place" (Qb 0)) (Qc (Qx "Walk" "aim" (Qb 0)) (Qm))))))))))))))
def Xd:List DV->M DV:=Q5 6 jN
abbrev jh:Stmt:=Q9 (top 30) 2
def jc:DSx:=Qr (ZN (Qu "Shelf" "check_number" 2 Zm (Qb 0) (Qc (Qb 1) (Qm)))) (Qr (Xw "Shelf" "write_count" Yk (Qb 0) (eC (.int 1))) (Xp (Qb 2) (gSb (Qx "Shelf" "kept" (Qb 0)) (Qb 1))))
def JC:List DV->M DV:=Q5 3 jc
abbrev VE:Stmt:=top 18
def vk:DSx:=QE (Zu (Qc (Ql ixD (Qb 0) (eC (.int 0))) (Qc (Qb 1) (Qc (Qb 2) (Qc (Ql ixD (Qb 0) (eC (.int 3))) (Qc (Ql ixD (Qb 0) (eC (.int 4))) (Qm)))))))
def qp:List DV->M DV:=Q5 3 vk
abbrev YL:Stmt:=top 20
def zV:DEx:=Zp false (xOf (iTp (Qb 0))) [1] (eB (Ql leD (Qb 0) (Qb 1))) (Qb 0)
def jP:DSx:=QE (Zw Z5 (Qc (zV) (Qm)))
def Zt:List DV->M DV:=Q5 2 jP
abbrev jm:Stmt:=top 19
def yJ:DEx:=Zp false (xOf (iTp (Qb 0))) [1] (eB (Ql ltD (Qb 0) (Qb 1))) (Qb 0)
def V8:DSx:=QE (Zw Z5 (Qc (yJ) (Qm)))
def XE:List DV->M DV:=Q5 2 V8
abbrev VG:Stmt:=top 17
def vn:DSx:=Qr (QC 4 (Ql ixD (Qb 0) (eC (.int 1)))) (Qr (QC 5 (Ql ixD (Qb 0) (eC (.int 2)))) (Qr (QC 6 (QG 2 XE (Qc (Qb 4) (Qc (Qb 1) (Qm))))) (Qr (QC 7 (QG 2 Zt (Qc (Qb 4) (Qc (Qb 1) (Qm))))) (QE (QG 3 qp (Qc (Qb 0) (Qc (Ql Ja (Ql Ja (eSl (Qb 4) (ZJ) (ZK (Qb 6))) (Qb 2)) (eSl (Qb 4) (ZK (Qb 7)) (ZJ))) (Qc (Ql Ja (Ql Ja (eSl (Qb 5) (ZJ) (ZK (Qb 6))) (Qb 3)) (eSl (Qb 5) (ZK (Qb 7)) (ZJ))) (Qm)))))))))
def qr:List DV->M DV:=Q5 8 vn
abbrev UY:Stmt:=top 15
def km:DSx:=QE (QG 4 qr (Qc (Qb 0) (Qc (Qb 1) (Qc (Zu (Qm)) (Qc (Zu (Qm)) (Qm))))))
def xI:List DV->M DV:=Q5 2 km
abbrev VH:Stmt:=top 13
def vo:DSx:=Qr (QC 2 (Ql ixD (Qb 0) (eC (.int 1)))) (Qr (QC 3 (QG 2 XE (Qc (Qb 2) (Qc (Qb 1) (Qm))))) (Qr (sIf (eB (Ql eqD (Qb 3) (QG 2 Zt (Qc (Qb 2) (Qc (Qb 1) (Qm)))))) (QE (eC .non)) (Zb)) (QE (Ql ixD (Ql ixD (Qb 0) (eC (.int 2))) (Qb 3)))))
def J8:List DV->M DV:=Q5 4 vo
abbrev zy:Stmt:=Q9 (top 25) 8
def yZ:DSx:=Qr (Q1 "Walk" "worth" (Qb 0) (QG 2 J8 (Qc (Qb 2) (Qc (Qx "Walk" "aim" (Qb 0)) (Qm))))) (Qr (sIf (eB (Ql qB (Qx "Walk" "worth" (Qb 0)) (eC .non))) (ZN (Qu "Shelf" "write" 3 JC (Qx "Walk" "shelf" (Qb 0)) (Qc (Qb 1) (Qc (QG 2 xI (Qc (Qb 2) (Qc (Qx "Walk" "aim" (Qb 0)) (Qm)))) (Qm))))) (Zb)) (Qr (Q1 "Walk" "ended" (Qb 0) (eC (.bl true))) (QE (Zu (Qc (eC (.str "cut")) (Qc (Qb 1) (Qc (Qx "Walk" "worth" (Qb 0)) (Qm))))))))
def Yh:List DV->M DV:=Q5 3 yZ
abbrev yw:Stmt:=Q9 (top 30) 3
def yi:DSx:=Qr (Xw "Shelf" "write_count" Yk (Qb 0) (eC (.int 1))) (Qr (ZN (JZ "list" Zo (Qx "Shelf" "kept" (Qb 0)) (Qc (Qb 1) (Qm)))) (QE (Ql xC (Zw Z5 (Qc (Qx "Shelf" "kept" (Qb 0)) (Qm))) (eC (.int 1)))))
def XH:List DV->M DV:=Q5 2 yi
abbrev GT:Stmt:=top 23
def QaD:DSx:=Qr (QC 2 (Ql ixD (Qb 0) (eC (.int 0)))) (Qr (QC 3 (Ql ixD (Qb 0) (eC (.int 1)))) (Qr (QC 4 (Ql ixD (Qb 0) (eC (.int 2)))) (Qr (QC 5 (Ql qx (Zw YS (Qc (Qb 3) (Qm))) (eC (.int 2)))) (Qr (QC 6 (Ql ixD (Qb 3) (Qb 5))) (Qr (QC 7 (eIf (eB (Ql eqD (Qb 2) (eC (.int 0)))) (Qb 5) (Ql Ja (Qb 5) (eC (.int 1))))) (Qr (QC 8 (Zu (Qc (Qb 2) (Qc (eSl (Qb 3) (ZJ) (ZK (Qb 5))) (Qc (eSl (Qb 4) (ZJ) (ZK (Qb 7))) (Qc (Qb 6) (Qc (Qb 1) (Qm)))))))) (Qr (QC 9 (Zu (Qc (Qb 2) (Qc (eSl (Qb 3) (ZK (Qb 7)) (ZJ)) (Qc (eSl (Qb 4) (ZK (Qb 7)) (ZJ)) (Qc (Ql ixD (Qb 0) (eC (.int 3))) (Qc (Ql ixD (Qb 0) (eC (.int 4))) (Qm)))))))) (QE (Zu (Qc (Qb 8) (Qc (Qb 9) (Qc (Qb 6) (Qm)))))))))))))
def jF:List DV->M DV:=Q5 10 QaD
abbrev xk:Stmt:=Q9 (top 30) 7
def jK:DSx:=QE (Qx "Shelf" "page_room" (Qb 0))
def Jw:List DV->M DV:=Q5 1 jK
abbrev UU:Stmt:=top 22
def gZ:DSx:=QE (Ql gtD (Zw YS (Qc (Ql ixD (Qb 0) (eC (.int 1))) (Qm))) (Qb 1))
def Yc:List DV->M DV:=Q5 2 gZ
abbrev ji:Stmt:=Q9 (top 25) 12
def V5:DSx:=Qr (sIf (Jy (eB (QG 2 Yc (Qc (Qb 2) (Qc (Qu "Shelf" "room" 1 Jw (Qx "Walk" "shelf" (Qb 0)) Qm) (Qm)))))) (Qr (ZN (Qu "Shelf" "write" 3 JC (Qx "Walk" "shelf" (Qb 0)) (Qc (Qb 1) (Qc (Qb 2) (Qm))))) (Qr (Q1 "Walk" "ended" (Qb 0) (eC (.bl true))) (QE (eC .non)))) (Zb)) (Qr (QC 3 (QG 2 jF (Qc (Qb 2) (Qc (Qu "Shelf" "pages" 1 ZW (Qx "Walk" "shelf" (Qb 0)) Qm) (Qm))))) (Qr (Q1 "Walk" "new_page" (Qb 0) (Qu "Shelf" "lay" 2 XH (Qx "Walk" "shelf" (Qb 0)) (Qc (Ql ixG (Qb 3) (eC (.int 1))) (Qm)))) (Qr (ZN (Qu "Shelf" "write" 3 JC (Qx "Walk" "shelf" (Qb 0)) (Qc (Qb 1) (Qc (Ql ixG (Qb 3) (eC (.int 0))) (Qm))))) (Qr (Q1 "Walk" "aim" (Qb 0) (Ql ixG (Qb 3) (eC (.int 2)))) (Qr (Q1 "Walk" "goal" (Qb 0) (Ql Ja (Ql ixG (Qb 2) (eC (.int 0))) (eC (.int 1)))) (Qr (Q1 "Walk" "place" (Qb 0) (JZ "dict" XZ (Qx "Walk" "forks" (Qb 0)) (Qc (Qx "Walk" "goal" (Qb 0)) (Qm)))) (QE (Qx "Walk" "new_page" (Qb 0)))))))))
def XC:List DV->M DV:=Q5 4 V5
abbrev yD:Stmt:=top 14
def K8:DSx:=QE (QG 4 qr (Qc (Qb 0) (Qc (Qb 1) (Qc (Zu (Qc (Qb 1) (Qm))) (Qc (Zu (Qc (Qb 2) (Qm))) (Qm))))))
def qW:List DV->M DV:=Q5 3 K8
abbrev qP:Stmt:=Q9 (top 25) 7
def yL:DSx:=Qr (Q1 "Walk" "worth" (Qb 0) (QG 2 J8 (Qc (Qb 2) (Qc (Qx "Walk" "aim" (Qb 0)) (Qm))))) (Qr (QC 3 (Qu "Walk" "settle" 3 XC (Qb 0) (Qc (Qb 1) (Qc (QG 3 qW (Qc (Qb 2) (Qc (Qx "Walk" "aim" (Qb 0)) (Qc (Ql ixG (Qx "Walk" "deed" (Qb 0)) (eC (.int 2))) (Qm))))) (Qm))))) (QE (Zu (Qc (eC (.str "put")) (Qc (Qb 1) (Qc (Qx "Walk" "worth" (Qb 0)) (Qc (Qb 3) (Qm))))))))
def XQ:List DV->M DV:=Q5 4 yL
abbrev YI:Stmt:=Q9 (top 25) 6
def jM:DSx:=Qr (Q1 "Walk" "worth" (Qb 0) (QG 2 J8 (Qc (Qb 2) (Qc (Qx "Walk" "aim" (Qb 0)) (Qm))))) (Qr (Q1 "Walk" "ended" (Qb 0) (eC (.bl true))) (QE (Zu (Qc (eC (.str "found")) (Qc (Qb 1) (Qc (Qx "Walk" "worth" (Qb 0)) (Qm)))))))
def Xc:List DV->M DV:=Q5 3 jM
abbrev zA:Stmt:=Q9 (top 25) 5
def y0:DSx:=Qr (QC 3 (Ql ixG (Qx "Walk" "deed" (Qb 0)) (eC (.int 0)))) (Qr (sIf (eB (Ql eqG (Qb 3) (eC (.str "find")))) (QE (Qu "Walk" "find_worth" 3 Xc (Qb 0) (Qc (Qb 1) (Qc (Qb 2) (Qm))))) (Zb)) (Qr (sIf (eB (Ql eqG (Qb 3) (eC (.str "put")))) (QE (Qu "Walk" "put_pair" 3 XQ (Qb 0) (Qc (Qb 1) (Qc (Qb 2) (Qm))))) (Zb)) (Qr (sIf (eB (Ql eqG (Qb 3) (eC (.str "cut")))) (QE (Qu "Walk" "cut_key" 3 Yh (Qb 0) (Qc (Qb 1) (Qc (Qb 2) (Qm))))) (Zb)) (QE (Qu "Walk" "read_pairs" 3 Xd (Qb 0) (Qc (Qb 1) (Qc (Qb 2) (Qm))))))))
def Yi:List DV->M DV:=Q5 4 y0
abbrev VF:Stmt:=top 16
def vm:DSx:=Qr (QC 3 (Ql ixD (Qb 0) (eC (.int 1)))) (Qr (QC 4 (Ql ixD (Qb 0) (eC (.int 2)))) (Qr (QC 5 (QG 2 Zt (Qc (Qb 3) (Qc (Qb 1) (Qm))))) (Qr (QC 6 (Ql Ja (Qb 5) (eC (.int 1)))) (QE (QG 3 qp (Qc (Qb 0) (Qc (Ql Ja (Ql Ja (eSl (Qb 3) (ZJ) (ZK (Qb 5))) (Zu (Qc (Qb 1) (Qm)))) (eSl (Qb 3) (ZK (Qb 5)) (ZJ))) (Qc (Ql Ja (Ql Ja (eSl (Qb 4) (ZJ) (ZK (Qb 6))) (Zu (Qc (Qb 2) (Qm)))) (eSl (Qb 4) (ZK (Qb 6)) (ZJ))) (Qm)))))))))
def qq:List DV->M DV:=Q5 7 vm
abbrev qg:Stmt:=Q9 (top 25) 10
def xK:DSx:=Qr (QC 3 (Qu "Walk" "settle" 3 XC (Qb 0) (Qc (Qb 1) (Qc (QG 3 qq (Qc (Qb 2) (Qc (Qx "Walk" "aim" (Qb 0)) (Qc (Qx "Walk" "new_page" (Qb 0)) (Qm))))) (Qm))))) (QE (Zu (Qc (eC (.str "told")) (Qc (Qb 1) (Qc (Qb 3) (Qm))))))
def Xx:List DV->M DV:=Q5 4 xK
abbrev xo:Stmt:=Q9 (top 25) 4
def Kk:DSx:=Qr (Q1 "Walk" "place" (Qb 0) (Qb 3)) (QE (Zu (Qc (Qb 1) (Qc (Qb 2) (Qc (Qb 3) (Qm))))))
def JT:List DV->M DV:=Q5 4 Kk
abbrev UV:Stmt:=top 12
def kc:DSx:=QE (Ql ixD (Ql ixD (Qb 0) (eC (.int 2))) (QG 2 Zt (Qc (Ql ixD (Qb 0) (eC (.int 1))) (Qc (Qb 1) (Qm)))))
def YW:List DV->M DV:=Q5 2 kc
abbrev GS:Stmt:=top 11
def QaC:DSx:=Qr (QC 2 (Ql ixD (Qb 0) (eC (.int 3)))) (QE (Jm (Ql qB (Qb 2) (eC .non)) (Ql geD (Qb 1) (Qb 2))))
def YV:List DV->M DV:=Q5 3 QaC
abbrev Yx:Stmt:=Q9 (top 30) 6
def Yl:DSx:=Qr (ZN (Qu "Shelf" "check_number" 2 Zm (Qb 0) (Qc (Qb 2) (Qm)))) (Qr (QC 3 (Ql Ja (Ql ixG (Ql ixG (Qx "Shelf" "kept" (Qb 0)) (Qx "Shelf" "top" (Qb 0))) (eC (.int 0))) (eC (.int 1)))) (Qr (Q1 "Shelf" "top" (Qb 0) (Qu "Shelf" "lay" 2 XH (Qb 0) (Qc (Zu (Qc (Qb 3) (Qc (Zu (Qc (Qb 1) (Qm))) (Qc (Zu (Qc (Qx "Shelf" "top" (Qb 0)) (Qc (Qb 2) (Qm)))) (Qc (eC .non) (Qc (eC .non) (Qm))))))) (Qm)))) (QE (Qx "Shelf" "top" (Qb 0)))))
def Z0:List DV->M DV:=Q5 4 Yl
abbrev Xq:Stmt:=Q9 (top 25) 11
def qu:DSx:=Qr (Q1 "Walk" "ended" (Qb 0) (eC (.bl true))) (QE (Zu (Qc (eC (.str "raised")) (Qc (Qb 1) (Qc (Qu "Shelf" "raise_root" 3 Z0 (Qx "Walk" "shelf" (Qb 0)) (Qc (Qx "Walk" "aim" (Qb 0)) (Qc (Qx "Walk" "new_page" (Qb 0)) (Qm)))) (Qm))))))
def ZO:List DV->M DV:=Q5 2 qu
abbrev yz:Stmt:=Q9 (top 25) 3
def K5:DSx:=Qr (sIf (eB (Qx "Walk" "ended" (Qb 0))) (QE (eC .non)) (Zb)) (Qr (QC 1 (eIf (eB (Ql isD (Qx "Walk" "place" (Qb 0)) (eC .non))) (Qu "Shelf" "root" 1 ZE (Qx "Walk" "shelf" (Qb 0)) Qm) (Qx "Walk" "place" (Qb 0)))) (Qr (QC 2 (Qu "Shelf" "read" 2 Zs (Qx "Walk" "shelf" (Qb 0)) (Qc (Qb 1) (Qm)))) (Qr (sIf (Yo (eB (Ql isD (Qx "Walk" "place" (Qb 0)) (eC .non))) (eB (Ql ltD (Ql ixG (Qb 2) (eC (.int 0))) (Qx "Walk" "goal" (Qb 0))))) (QE (Qu "Walk" "raise_root_over" 2 ZO (Qb 0) (Qc (Qb 1) (Qm)))) (Zb)) (Qr (sIf (eB (QG 2 YV (Qc (Qb 2) (Qc (Qx "Walk" "aim" (Qb 0)) (Qm))))) (QE (Qu "Walk" "go_on" 4 JT (Qb 0) (Qc (eC (.str "side")) (Qc (Qb 1) (Qc (Ql ixG (Qb 2) (eC (.int 4))) (Qm)))))) (Zb)) (Qr (sIf (eB (Ql gtD (Ql ixG (Qb 2) (eC (.int 0))) (Qx "Walk" "goal" (Qb 0)))) (Qr (Xp (Qb 1) (gSb (Qx "Walk" "forks" (Qb 0)) (Ql ixG (Qb 2) (eC (.int 0))))) (QE (Qu "Walk" "go_on" 4 JT (Qb 0) (Qc (eC (.str "down")) (Qc (Qb 1) (Qc (QG 2 YW (Qc (Qb 2) (Qc (Qx "Walk" "aim" (Qb 0)) (Qm)))) (Qm))))))) (Zb)) (Qr (sIf (eB (Ql gtD (Qx "Walk" "goal" (Qb 0)) (eC (.int 0)))) (QE (Qu "Walk" "tell_fork" 3 Xx (Qb 0) (Qc (Qb 1) (Qc (Qb 2) (Qm))))) (Zb)) (QE (Qu "Walk" "do_deed" 3 Yi (Qb 0) (Qc (Qb 1) (Qc (Qb 2) (Qm)))))))))))
def Xb:List DV->M DV:=Q5 3 K5
abbrev UW:Stmt:=top 38
def ki:DSx:=Qr (QC 6 (Ql ixG (Qb 1) (Qb 5))) (Qr (sIf (eB (Ql qB (Qb 6) (eC .non))) (Qr (QC 7 (Qu "Walk" "step" 1 Xb (Qb 6) Qm)) (Qr (sIf (eB (Qu "Walk" "over" 1 Jv (Qb 6) Qm)) (Xp (eC .non) (gSb (Qb 1) (Qb 5))) (Zb)) (QE (Ql Ja (Zu (Qc (Ql ixG (Qb 7) (eC (.int 0))) (Qc (Qb 5) (Qc (Ql ixG (Qb 2) (Qb 5)) (Qm))))) (eSl (Qb 7) (ZK (eC (.int 1))) (ZJ)))))) (Zb)) (Qr (sIf (eB (Ql eqG (Ql ixG (Qb 4) (eC (.int 0))) (Zw Z5 (Qc (Qb 3) (Qm))))) (QE (Zu (Qc (eC (.str "rest")) (Qc (Qb 5) (Qm))))) (Zb)) (Qr (Xp (Ql ixG (Qb 4) (eC (.int 0))) (gSb (Qb 2) (Qb 5))) (Qr (Xp (Jn "Walk" 3 ZL (Qc (Qb 0) (Qc (Ql ixG (Qb 3) (Ql ixG (Qb 4) (eC (.int 0)))) (Qm)))) (gSb (Qb 1) (Qb 5))) (Qr (GQ (Qb 4) (eC (.int 0)) (eC (.int 1))) (QE (Zu (Qc (eC (.str "take")) (Qc (Qb 5) (Qc (Ql ixG (Qb 2) (Qb 5)) (Qm)))))))))))
def Yd:List DV->M DV:=Q5 8 ki
abbrev yC:Stmt:=top 36
def K7:DSx:=QE (Jm (jt "int" (Qb 0)) (Yp (jt "bool" (Qb 0))))
def qV:List DV->M DV:=Q5 1 K7
abbrev VD:Stmt:=top 37
def qD (self:List DV->M DV):DSx:=sIf (Jy (eB (QG 2 self (Qc (Qb 2) (Qc (Qb 3) (Qm)))))) (QE (eC (.bl false))) (Zb)
def jH (self:List DV->M DV):DSx:=Qb1 (Kx (Qb 0) (Qb 1)) (gT [2,3]) (qD self)
def y9 (self:List DV->M DV):DSx:=Qr (sIf (eOr (eB (jt "tuple" (Qb 1))) (eB (jt "list" (Qb 1)))) (Qr (sIf (eOr (eB (Ql neG (jt "tuple" (Qb 0)) (jt "tuple" (Qb 1)))) (eB (Ql neG (jt "list" (Qb 0)) (jt "list" (Qb 1))))) (QE (eC (.bl false))) (Zb)) (Qr (sIf (eB (Ql neG (Zw Z5 (Qc (Qb 0) (Qm))) (Zw Z5 (Qc (Qb 1) (Qm))))) (QE (eC (.bl false))) (Zb)) (Qr (jH self) (QE (eC (.bl true)))))) (Zb)) (Qr (sIf (eB (Ql isD (Qb 1) (eC .non))) (QE (Ql isD (Qb 0) (eC .non))) (Zb)) (Qr (sIf (eB (jt "str" (Qb 1))) (QE (Jm (jt "str" (Qb 0)) (Ql eqG (Qb 0) (Qb 1)))) (Zb)) (QE (Jm (QG 1 qV (Qc (Qb 0) (Qm))) (Ql eqG (Qb 0) (Qb 1))))))
def ZM:Nat->List DV->M DV
 | 0=>fun _=>failure
 | n+1=>Q5 4 (y9 (ZM n))
abbrev jk:Stmt:=Q9 (top 27) 8
def XO:DEx:=Zp false (xLs (Qx "Weaver" "held" (Qb 0))) [] (xD) (Ql isD (Qb 0) (eC .non))
def V6:DSx:=QE (Jm (Ql eqG (Qx "Weaver" "taken" (Qb 0)) (Zw Z5 (Qc (Qx "Weaver" "deeds" (Qb 0)) (Qm)))) (Zw QfX (Qc (XO) (Qm))))
def Zf:List DV->M DV:=Q5 1 V6
abbrev Yz:Stmt:=Q9 (top 27) 3
def jp:DSx:=Qr (QC 2 (Qx "Weaver" "taken" (Qb 0))) (Qr (Xp (Zu (Qc (Qb 2) (Qc (Jn "Walk" 3 ZL (Qc (Qx "Weaver" "shelf" (Qb 0)) (Qc (Ql ixG (Qx "Weaver" "deeds" (Qb 0)) (Qb 2)) (Qm)))) (Qm)))) (gSb (Qx "Weaver" "held" (Qb 0)) (Qb 1))) (Qr (Xw "Weaver" "taken" Yk (Qb 0) (eC (.int 1))) (QE (Zu (Qc (eC (.str "take")) (Qc (Qb 1) (Qc (Qb 2) (Qm))))))))
def Jx:List DV->M DV:=Q5 3 jp
abbrev Yy:Stmt:=Q9 (top 27) 4
def jo:DSx:=Qr (QC 2 (Ql ixG (Qx "Weaver" "held" (Qb 0)) (Qb 1))) (Qr (QC 3 (Ql ixG (Qb 2) (eC (.int 1)))) (Qr (QC 4 (Qu "Walk" "step" 1 Xb (Qb 3) Qm)) (Qr (sIf (eB (Qu "Walk" "over" 1 Jv (Qb 3) Qm)) (Qr (Xp (eC .non) (gSb (Qx "Weaver" "held" (Qb 0)) (Qb 1))) (ZN (JZ "list" Zo (Qx "Weaver" "done" (Qb 0)) (Qc (Qb 2) (Qm))))) (Zb)) (QE (Ql Ja (Zu (Qc (Ql ixG (Qb 4) (eC (.int 0))) (Qc (Qb 1) (Qc (Ql ixG (Qb 2) (eC (.int 0))) (Qm))))) (eSl (Qb 4) (ZK (eC (.int 1))) (ZJ)))))))
def J7:List DV->M DV:=Q5 5 jo
abbrev jl:Stmt:=Q9 (top 27) 2
def V7:DSx:=Qr (sIf (Jy (eB (Xi leD ltD (eC (.int 0)) (Qb 1) (Zw Z5 (Qc (Qx "Weaver" "held" (Qb 0)) (Qm)))))) (Qb0) (Zb)) (Qr (sIf (eB (Ql qB (Ql ixG (Qx "Weaver" "held" (Qb 0)) (Qb 1)) (eC .non))) (QE (Qu "Weaver" "step_walk" 2 J7 (Qb 0) (Qc (Qb 1) (Qm)))) (Zb)) (Qr (sIf (eB (Ql ltD (Qx "Weaver" "taken" (Qb 0)) (Zw Z5 (Qc (Qx "Weaver" "deeds" (Qb 0)) (Qm))))) (QE (Qu "Weaver" "take_deed" 2 Jx (Qb 0) (Qc (Qb 1) (Qm)))) (Zb)) (QE (Zu (Qc (eC (.str "rest")) (Qc (Qb 1) (Qm)))))))
def ZF:List DV->M DV:=Q5 2 V7
abbrev qQ:Stmt:=Q9 (top 27) 5
def YE:DSx:=Qr (ZN (JZ "list" Zo (Qb 1) (Qc (Qu "Weaver" "move" 2 ZF (Qb 0) (Qc (Qb 2) (Qm))) (Qm)))) (QC 2 (Ql XM (Ql Ja (Qb 2) (eC (.int 1))) (Zw Z5 (Qc (Qx "Weaver" "held" (Qb 0)) (Qm)))))
def jG:DSx:=XX (Jy (eB (Qu "Weaver" "idle" 1 Zf (Qb 0) Qm))) (YE) 100000
def yM:DSx:=Qr (QC 1 (J0 (Qm))) (Qr (QC 2 (eC (.int 0))) (Qr (jG) (QE (Qb 1))))
def J4:List DV->M DV:=Q5 3 yM
abbrev zB:Stmt:=top 39
def xG:DEx:=Zp false (xLs (Qb 2)) [] (eB (Ql qB (Qb 0) (eC .non))) (Qb 0)
def xH:DEx:=Zp false (xLs (Qb 2)) [] (eB (Ql qB (Qb 0) (eC .non))) (Qb 0)
def Jo:DSx:=Qr (sIf (Yo (eB (Ql eqG (Ql ixG (Qb 5) (eC (.int 0))) (Zw Z5 (Qc (Qb 4) (Qm))))) (eB (Ql eqN (xH) (XA (Qm))))) (QE (eC (.bl false))) (Zb)) (Qr (sIf (Jy (eB (QG 2 (ZM 6) (Qc (Qb 8) (Qc (QG 6 Yd (Qc (Qb 1) (Qc (Qb 2) (Qc (Qb 3) (Qc (Qb 4) (Qc (Qb 5) (Qc (Qb 6) (Qm)))))))) (Qm)))))) (QE (eC (.bl false))) (Zb)) (QC 6 (Ql XM (Ql Ja (Qb 6) (eC (.int 1))) (Zw Z5 (Qc (Qb 2) (Qm))))))
def YY:DSx:=VB (xLs (Qb 7)) (gN 8) (Jo)
def y6:DSx:=Qr (QC 6 (eC (.int 0))) (Qr (QC 7 (Qu "Weaver" "finish" 1 J4 (Qb 0) Qm)) (Qr (sIf (eOr (Jy (eB (Gj "list" (Qb 7)))) (Jy (eB (Qu "Weaver" "idle" 1 Zf (Qb 0) Qm)))) (QE (eC (.bl false))) (Zb)) (Qr (YY) (QE (Jm (Ql eqG (Ql ixG (Qb 5) (eC (.int 0))) (Zw Z5 (Qc (Qb 4) (Qm)))) (Ql eqN (xG) (XA (Qm))))))))
def JN:List DV->M DV:=Q5 9 y6
abbrev qe:Stmt:=Q9 (top 30) 9
def Y5:DSx:=QE (Qx "Shelf" "read_count" (Qb 0))
def Zy:List DV->M DV:=Q5 1 Y5
abbrev qf:Stmt:=Q9 (top 30) 10
def Y6:DSx:=QE (Qx "Shelf" "write_count" (Qb 0))
def Zz:List DV->M DV:=Q5 1 Y6
abbrev qh:Stmt:=Q9 (top 27) 1
def xL:DSx:=Qr (ZN (JZ "list" Zo (Qx "Weaver" "deeds" (Qb 0)) (Qc (Qb 1) (Qm)))) (QE (Ql xC (Zw Z5 (Qc (Qx "Weaver" "deeds" (Qb 0)) (Qm))) (eC (.int 1))))
def ZY:List DV->M DV:=Q5 2 xL
abbrev UX:Stmt:=top 33
def kj:DSx:=Qr (QC 1 (Ql qx (Qb 0) (eC (.int 6)))) (Qr (sIf (eB (Ql eqD (Ql XM (Qb 0) (eC (.int 6))) (eC (.int 0)))) (QE (Ql xC (Ql XM (Ql QcZ (Qb 1) (Ql YT (eC (.int 1000000007)) (eC (.int 3)))) (Ql Ja (Ql kZ (eC (.int 2)) (Ql YT (eC (.int 10)) (eC (.int 30)))) (eC (.int 1)))) (Ql YT (eC (.int 10)) (eC (.int 30))))) (Zb)) (Qr (sIf (eB (Ql eqD (Ql XM (Qb 0) (eC (.int 6))) (eC (.int 1)))) (QE (Ql ixD (XA (Qc (Ql YT (eC (.int 10)) (eC (.int 30))) (Qc (X6 (Ql YT (eC (.int 10)) (eC (.int 30)))) (Qc (Ql xC (Ql YT (eC (.int 10)) (eC (.int 30))) (eC (.int 1))) (Qc (Ql xC (eC (.int 1)) (Ql YT (eC (.int 10)) (eC (.int 30)))) (Qm)))))) (Ql XM (Qb 1) (eC (.int 4))))) (Zb)) (QE (Ql xC (Ql XM (Qb 1) (eC (.int 17))) (eC (.int 5))))))
def Xy:List DV->M DV:=Q5 2 kj
abbrev VC:Stmt:=top 34
def vj:DSx:=Qr (QC 1 (Ql XM (Qb 0) (eC (.int 9)))) (Qr (QC 2 (QG 1 Xy (Qc (Ql qx (Qb 0) (eC (.int 9))) (Qm)))) (Qr (sIf (eB (Ql eqD (Qb 1) (eC (.int 0)))) (QE (Zu (Qc (eC (.str "find")) (Qc (Qb 2) (Qm))))) (Zb)) (Qr (sIf (eB (Ql ltD (Qb 1) (eC (.int 5)))) (QE (Zu (Qc (eC (.str "put")) (Qc (Qb 2) (Qc (QG 1 Xy (Qc (Ql qx (Qb 0) (eC (.int 37))) (Qm))) (Qm)))))) (Zb)) (Qr (sIf (eB (Ql ltD (Qb 1) (eC (.int 7)))) (QE (Zu (Qc (eC (.str "cut")) (Qc (Qb 2) (Qm))))) (Zb)) (Qr (QC 3 (QG 1 Xy (Qc (Ql qx (Qb 0) (eC (.int 131))) (Qm)))) (Qr (sIf (eB (Ql eqD (Qb 3) (Qb 2))) (QC 3 (Ql xC (Qb 2) (eC (.int 1)))) (Zb)) (Qr (sIf (eB (Ql ltD (Qb 3) (X6 (Ql YT (eC (.int 10)) (eC (.int 30)))))) (QC 3 (Ql Ja (Qb 2) (eC (.int 1)))) (Zb)) (QE (Zu (Qc (eC (.str "stretch")) (Qc (Zw QcY (Qc (Qb 2) (Qc (Qb 3) (Qm)))) (Qc (Zw QcX (Qc (Qb 2) (Qc (Qb 3) (Qm)))) (Qm)))))))))))))
def Yj:List DV->M DV:=Q5 4 vj
abbrev yB:Stmt:=top 35
def ja:DEx:=Zp true (xOf (yQ (Qc (Ql XM (Qb 0) (eC (.int 24))) (Qm)))) [1] (xD) (Zu (Qc (eC (.str "put")) (Qc (Ql xC (Ql XM (Ql kZ (Qb 0) (Qb 1)) (eC (.int 47))) (eC (.int 9))) (Qc (Ql Ja (eC (.int 100)) (Qb 0)) (Qm)))))
def K6:DSx:=Qr (QC 1 (Ql ixG (XA (Qc (eC (.int 7)) (Qc (eC (.int 11)) (Qc (eC (.int 23)) (Qc (eC (.int 1)) (Qc (eC (.int 46)) (Qm))))))) (Ql XM (Ql qx (Qb 0) (eC (.int 24))) (eC (.int 5))))) (QE (ja))
def YB:List DV->M DV:=Q5 2 K6
abbrev YK:Stmt:=Q9 (top 27) 0
def jO:DSx:=Qr (Q1 "Weaver" "shelf" (Qb 0) (Qb 1)) (Qr (Q1 "Weaver" "deeds" (Qb 0) (J0 (Qm))) (Qr (Q1 "Weaver" "taken" (Qb 0) (eC (.int 0))) (Qr (Q1 "Weaver" "held" (Qb 0) (Ql Qbu (XA (Qc (eC .non) (Qm))) (Qb 2))) (Q1 "Weaver" "done" (Qb 0) (J0 (Qm))))))
def JH:List DV->M DV:=Q5 3 jO
abbrev qd:Stmt:=Q9 (top 30) 0
def Y4:DSx:=Qr (Q1 "Shelf" "page_room" (Qb 0) (Qb 1)) (Qr (Q1 "Shelf" "kept" (Qb 0) (J0 (Qc (eC (.tup [.int 0,.tup [],.tup [],.non,.non])) (Qm)))) (Qr (Q1 "Shelf" "top" (Qb 0) (eC (.int 0))) (Qr (Q1 "Shelf" "read_count" (Qb 0) (eC (.int 0))) (Q1 "Shelf" "write_count" (Qb 0) (eC (.int 0))))))
def Zl:List DV->M DV:=Q5 2 Y4
abbrev jn:Stmt:=top 32
def YO:DSx:=Qr (sIf (eB (Ql ltD (Qb 1) (Zw YS (Qc (Qb 0) (Qm))))) (QE (Ql ixD (Qb 0) (Qb 1))) (Zb)) (QE (eC (.int 0)))
def JD:List DV->M DV:=Q5 2 YO
abbrev yA:Stmt:=top 40
def Ka:DEx:=Zp false (xOf (yQ (Qc (Qu "Shelf" "pages" 1 ZW (Qb 4) Qm) (Qm)))) [4] (xD) (Qu "Shelf" "read" 2 Zs (Qb 1) (Qc (Qb 0) (Qm)))
def uo:DEx:=Zp false (xOf (yQ (Qc (Qu "Shelf" "pages" 1 ZW (Qb 5) Qm) (Qm)))) [5] (xD) (Qu "Shelf" "read" 2 Zs (Qb 1) (Qc (Qb 0) (Qm)))
def uq:DEx:=Zp false (xLs (Qb 9)) [] (eB (Ql qB (Qb 0) (eC .non))) (Qb 0)
def KC:DSx:=Qr (sIf (eB (Ql ltD (Qb 12) (eC (.int 24)))) (Qr (ZN (JZ "list" Zo (Qb 7) (Qc (QG 1 Yj (Qc (Ql ixG (Qb 0) (Qb 12)) (Qm))) (Qm)))) (ZN (Qu "Weaver" "hand_in" 2 ZY (Qb 6) (Qc (Ql ixG (Qb 7) (X6 (eC (.int 1)))) (Qm))))) (Zb)) (Qr (QC 14 (Ql XM (Ql qx (Ql ixG (Qb 0) (Qb 12)) (eC (.int 3))) (Qb 2))) (Qr (sIf (Jy (eB (QG 2 (ZM 6) (Qc (Qu "Weaver" "move" 2 ZF (Qb 6) (Qc (Qb 14) (Qm))) (Qc (QG 6 Yd (Qc (Qb 4) (Qc (Qb 9) (Qc (Qb 10) (Qc (Qb 7) (Qc (Qb 11) (Qc (Qb 14) (Qm)))))))) (Qm)))))) (QE (eC (.bl false))) (Zb)) (Qr (QC 15 (Jm (Ql eqG (Ql ixG (Qb 11) (eC (.int 0))) (Zw Z5 (Qc (Qb 7) (Qm)))) (Ql eqN (uq) (XA (Qm))))) (Qr (sIf (eOr (Jy (eB (jt "bool" (Qu "Weaver" "idle" 1 Zf (Qb 6) Qm)))) (eB (Ql neG (Qu "Weaver" "idle" 1 Zf (Qb 6) Qm) (Qb 15)))) (QE (eC (.bl false))) (Zb)) (sIf (eOr (eB (Ql neG (Qu "Shelf" "readings" 1 Zy (Qb 5) Qm) (Qu "Shelf" "readings" 1 Zy (Qb 4) Qm))) (eB (Ql neG (Qu "Shelf" "writings" 1 Zz (Qb 5) Qm) (Qu "Shelf" "writings" 1 Zz (Qb 4) Qm)))) (QE (eC (.bl false))) (Zb))))))
def uu:DSx:=Qb1 (yQ (Qc (Zw Z5 (Qc (Qb 0) (Qm))) (Qm))) (gN 12) (KC)
def Kb:DEx:=Zp true (xOf (yQ (Qc (Qb 2) (Qm)))) [] (xD) (eC (.int 0))
def Kc:DEx:=Zp true (xOf (yQ (Qc (Qb 2) (Qm)))) [] (xD) (eC .non)
def j7:DSx:=ZN (Qu "Weaver" "hand_in" 2 ZY (Qb 6) (Qc (Qb 8) (Qm)))
def uv:DSx:=VB (xLs (Qb 7)) (gN 8) (j7)
def QfY:DSx:=Qr (QC 1 (QG 2 JD (Qc (Qb 0) (Qc (eC (.int 0)) (Qm))))) (Qr (QC 2 (Ql Ja (eC (.int 1)) (Ql XM (Qb 1) (eC (.int 8))))) (Qr (QC 3 (Ql Ja (eC (.int 2)) (Ql XM (Ql qx (Qb 1) (eC (.int 8))) (eC (.int 4))))) (Qr (QC 4 (Jn "Shelf" 2 Zl (Qc (Qb 3) (Qm)))) (Qr (QC 5 (Jn "Shelf" 2 Zl (Qc (Qb 3) (Qm)))) (Qr (QC 6 (Jn "Weaver" 3 JH (Qc (Qb 5) (Qc (Qb 2) (Qm))))) (Qr (QC 7 (QG 1 YB (Qc (Ql qx (Qb 1) (eC (.int 32))) (Qm)))) (Qr (uv) (Qr (QC 9 (Kc)) (Qr (QC 10 (Kb)) (Qr (QC 11 (J0 (Qc (eC (.int 0)) (Qm)))) (Qr (sIf (Jy (eB (QG 6 JN (Qc (Qb 6) (Qc (Qb 4) (Qc (Qb 9) (Qc (Qb 10) (Qc (Qb 7) (Qc (Qb 11) (Qm)))))))))) (QE (eC (.bl false))) (Zb)) (Qr (uu) (Qr (sIf (Jy (eB (QG 6 JN (Qc (Qb 6) (Qc (Qb 4) (Qc (Qb 9) (Qc (Qb 10) (Qc (Qb 7) (Qc (Qb 11) (Qm)))))))))) (QE (eC (.bl false))) (Zb)) (Qr (QC 13 (uo)) (QE (Jm (Ql eqG (Qb 13) (Ka)) (Ql eqG (Qu "Shelf" "root" 1 ZE (Qb 5) Qm) (Qu "Shelf" "root" 1 ZE (Qb 4) Qm))))))))))))))))))
def K3:List DV->M DV:=Q5 16 QfY
structure Al (K:PySem.W.Frag) (mg:Str->Option Value):Prop where
 z0:mg "len" = none
 z1:mg "tuple" = none
 z2:mg "zip" = none
 z3:mg "isinstance" = none
 z4:mg "int" = none
 z5:mg "bool" = none
 z6:mg "str" = none
 z7:mg "list" = none
 z8:mg "all" = none
 z9:mg "max" = none
 z10:mg "min" = none
 z11:mg "range" = none
 g0:UG mg "SIDE" 4
 g1:UG mg "HIGH" 3
 g2:UG mg "KEYS" 1
 g3:UG mg "PARTS" 2
 g4:UG mg "LEVEL" 0
 t0:UT K mg "EMPTY_LEAF" (.tup [.int 0,.tup [],.tup [],.non,.non])
 k0:X4 K "Shelf" "kept"
 k1:X4 K "Shelf" "read_count"
 k2:X4 K "Shelf" "top"
 k3:X4 K "Walk" "ended"
 k4:X4 K "Walk" "pairs"
 k5:X4 K "Walk" "worth"
 k6:X4 K "Walk" "new_page"
 k7:X4 K "Walk" "forks"
 k8:X4 K "Walk" "place"
 k9:X4 K "Walk" "goal"
 k10:X4 K "Walk" "aim"
 k11:X4 K "Walk" "deed"
 k12:X4 K "Walk" "shelf"
 k13:X4 K "Shelf" "write_count"
 k14:X4 K "Shelf" "page_room"
 k15:X4 K "Weaver" "taken"
 k16:X4 K "Weaver" "deeds"
 k17:X4 K "Weaver" "held"
 k18:X4 K "Weaver" "shelf"
 k19:X4 K "Weaver" "done"
 u0:UM K "Shelf" "pages" "Shelf.pages" jg
 u1:UM K "Shelf" "check_number" "Shelf.check_number" XN
 u2:UM K "Shelf" "read" "Shelf.read" xj
 u3:UM K "Shelf" "root" "Shelf.root" xm
 u4:UI K mg "Walk" "Walk.__init__" qO
 u5:UM K "Walk" "over" "Walk.over" yx
 u6:UM K "Walk" "read_pairs" "Walk.read_pairs" YJ
 u7:UM K "Shelf" "write" "Shelf.write" jh
 u8:UF K mg "refilled" VE
 u9:UF K mg "count_not_above" YL
 u10:UF K mg "count_below" jm
 u11:UF K mg "with_run" VG
 u12:UF K mg "without" UY
 u13:UF K mg "worth_of" VH
 u14:UM K "Walk" "cut_key" "Walk.cut_key" zy
 u15:UM K "Shelf" "lay" "Shelf.lay" yw
 u16:UF K mg "parted" GT
 u17:UM K "Shelf" "room" "Shelf.room" xk
 u18:UF K mg "is_full" UU
 u19:UM K "Walk" "settle" "Walk.settle" ji
 u20:UF K mg "with_pair" yD
 u21:UM K "Walk" "put_pair" "Walk.put_pair" qP
 u22:UM K "Walk" "find_worth" "Walk.find_worth" YI
 u23:UM K "Walk" "do_deed" "Walk.do_deed" zA
 u24:UF K mg "with_kid" VF
 u25:UM K "Walk" "tell_fork" "Walk.tell_fork" qg
 u26:UM K "Walk" "go_on" "Walk.go_on" xo
 u27:UF K mg "kid_for" UV
 u28:UF K mg "beyond" GS
 u29:UM K "Shelf" "raise_root" "Shelf.raise_root" Yx
 u30:UM K "Walk" "raise_root_over" "Walk.raise_root_over" Xq
 u31:UM K "Walk" "step" "Walk.step" yz
 u32:UF K mg "_law_due" UW
 u33:UF K mg "_law_whole" yC
 u34:UF K mg "_law_same" VD
 u35:UM K "Weaver" "idle" "Weaver.idle" jk
 u36:UM K "Weaver" "take_deed" "Weaver.take_deed" Yz
 u37:UM K "Weaver" "step_walk" "Weaver.step_walk" Yy
 u38:UM K "Weaver" "move" "Weaver.move" jl
 u39:UM K "Weaver" "finish" "Weaver.finish" qQ
 u40:UF K mg "_law_finished" zB
 u41:UM K "Shelf" "readings" "Shelf.readings" qe
 u42:UM K "Shelf" "writings" "Shelf.writings" qf
 u43:UM K "Weaver" "hand_in" "Weaver.hand_in" qh
 u44:UF K mg "_law_key" UX
 u45:UF K mg "_law_deed" VC
 u46:UF K mg "_law_ahead" yB
 u47:UI K mg "Weaver" "Weaver.__init__" YK
 u48:UI K mg "Shelf" "Shelf.__init__" qd
 u49:UF K mg "_law_cell_at" jn
theorem VI:Qt ["self"] ["self"] (Qo jg):=Q7 (by decide +kernel)
theorem qT:Qt ["self", "number"] ["self", "number"] (Qo XN):=Q7 (by decide +kernel)
theorem Uj:Qt ["self", "number"] ["self", "number"] (Qo xj):=Q7 (by decide +kernel)
theorem Ul:Qt ["self"] ["self"] (Qo xm):=Q7 (by decide +kernel)
theorem yd:Qt ["self", "shelf", "deed"] ["self", "shelf", "deed"] (Qo qO):=Q7 (by decide +kernel)
theorem KO:Qt ["self"] ["self"] (Qo yx):=Q7 (by decide +kernel)
theorem sc_Walk_read_pairs:Qt ["self", "number", "leaf", "low", "high", "pairs"] ["self", "number", "leaf"] (Qo YJ):=Q7 (by decide +kernel)
theorem VJ:Qt ["self", "number", "page"] ["self", "number", "page"] (Qo jh):=Q7 (by decide +kernel)
theorem GU:Qt ["page", "keys", "parts"] ["page", "keys", "parts"] (Qo VE):=Q7 (by decide +kernel)
theorem jB:Qt ["keys", "key"] ["keys", "key"] (Qo YL):=Q7 (by decide +kernel)
theorem VN:Qt ["keys", "key"] ["keys", "key"] (Qo jm):=Q7 (by decide +kernel)
theorem sc_with_run:Qt ["page", "key", "new_keys", "new_worths", "keys", "worths", "start", "stop"] ["page", "key", "new_keys", "new_worths"] (Qo VG):=Q7 (by decide +kernel)
theorem vY:Qt ["page", "key"] ["page", "key"] (Qo UY):=Q7 (by decide +kernel)
theorem sc_worth_of:Qt ["page", "key", "keys", "place"] ["page", "key"] (Qo VH):=Q7 (by decide +kernel)
theorem yS:Qt ["self", "number", "leaf"] ["self", "number", "leaf"] (Qo zy):=Q7 (by decide +kernel)
theorem KN:Qt ["self", "page"] ["self", "page"] (Qo yw):=Q7 (by decide +kernel)
theorem sc_parted:Qt ["page", "number", "level", "keys", "parts", "middle", "key", "cut", "old", "new"] ["page", "number"] (Qo GT):=Q7 (by decide +kernel)
theorem Uk:Qt ["self"] ["self"] (Qo xk):=Q7 (by decide +kernel)
theorem vW:Qt ["page", "room"] ["page", "room"] (Qo UU):=Q7 (by decide +kernel)
theorem sc_Walk_settle:Qt ["self", "number", "page", "halves"] ["self", "number", "page"] (Qo ji):=Q7 (by decide +kernel)
theorem KQ:Qt ["page", "key", "worth"] ["page", "key", "worth"] (Qo yD):=Q7 (by decide +kernel)
theorem sc_Walk_put_pair:Qt ["self", "number", "leaf", "new_page"] ["self", "number", "leaf"] (Qo qP):=Q7 (by decide +kernel)
theorem jy:Qt ["self", "number", "leaf"] ["self", "number", "leaf"] (Qo YI):=Q7 (by decide +kernel)
theorem sc_Walk_do_deed:Qt ["self", "number", "leaf", "word"] ["self", "number", "leaf"] (Qo zA):=Q7 (by decide +kernel)
theorem sc_with_kid:Qt ["page", "key", "kid", "keys", "kids", "place", "behind"] ["page", "key", "kid"] (Qo VF):=Q7 (by decide +kernel)
theorem sc_Walk_tell_fork:Qt ["self", "number", "fork", "new_page"] ["self", "number", "fork"] (Qo qg):=Q7 (by decide +kernel)
theorem Um:Qt ["self", "word", "number", "to"] ["self", "word", "number", "to"] (Qo xo):=Q7 (by decide +kernel)
theorem vX:Qt ["page", "key"] ["page", "key"] (Qo UV):=Q7 (by decide +kernel)
theorem sc_beyond:Qt ["page", "key", "high"] ["page", "key"] (Qo GS):=Q7 (by decide +kernel)
theorem sc_Shelf_raise_root:Qt ["self", "key", "number", "level"] ["self", "key", "number"] (Qo Yx):=Q7 (by decide +kernel)
theorem qi:Qt ["self", "number"] ["self", "number"] (Qo Xq):=Q7 (by decide +kernel)
theorem sc_Walk_step:Qt ["self", "number", "page"] ["self"] (Qo yz):=Q7 (by decide +kernel)
theorem sc_law_due:Qt ["shelf", "walks", "numbers", "deeds", "taken", "hand", "walk", "told"] ["shelf", "walks", "numbers", "deeds", "taken", "hand"] (Qo UW):=Q7 (by decide +kernel)
theorem KP:Qt ["found"] ["found"] (Qo yC):=Q7 (by decide +kernel)
theorem sc_law_same:Qt ["found", "due", "one", "other"] ["found", "due"] (Qo VD):=Q7 (by decide +kernel)
theorem VL:Qt ["self"] ["self"] (Qo jk):=Q7 (by decide +kernel)
theorem sc_Weaver_take_deed:Qt ["self", "hand", "number"] ["self", "hand"] (Qo Yz):=Q7 (by decide +kernel)
theorem sc_Weaver_step_walk:Qt ["self", "hand", "holding", "walk", "told"] ["self", "hand"] (Qo Yy):=Q7 (by decide +kernel)
theorem VM:Qt ["self", "hand"] ["self", "hand"] (Qo jl):=Q7 (by decide +kernel)
theorem sc_Weaver_finish:Qt ["self", "rows", "hand"] ["self"] (Qo qQ):=Q7 (by decide +kernel)
theorem sc_law_finished:Qt ["weaver", "shelf", "walks", "numbers", "deeds", "taken", "hand", "rows", "row"] ["weaver", "shelf", "walks", "numbers", "deeds", "taken"] (Qo zB):=Q7 (by decide +kernel)
theorem xq:Qt ["self"] ["self"] (Qo qe):=Q7 (by decide +kernel)
theorem xr:Qt ["self"] ["self"] (Qo qf):=Q7 (by decide +kernel)
theorem xt:Qt ["self", "deed"] ["self", "deed"] (Qo qh):=Q7 (by decide +kernel)
theorem sc_law_key:Qt ["number", "rest"] ["number"] (Qo UX):=Q7 (by decide +kernel)
theorem sc_law_deed:Qt ["cell", "kind", "key", "other"] ["cell"] (Qo VC):=Q7 (by decide +kernel)
theorem sc_law_ahead:Qt ["cell", "step"] ["cell"] (Qo yB):=Q7 (by decide +kernel)
theorem jA:Qt ["self", "shelf", "hands"] ["self", "shelf", "hands"] (Qo YK):=Q7 (by decide +kernel)
theorem xp:Qt ["self", "room"] ["self", "room"] (Qo qd):=Q7 (by decide +kernel)
theorem VO:Qt ["script", "k"] ["script", "k"] (Qo jn):=Q7 (by decide +kernel)
theorem sc_law:Qt ["script", "cell", "hands", "room", "beside", "shelf", "weaver", "deeds", "deed", "walks", "numbers", "taken", "k", "pages", "hand", "still"] ["script"] (Qo yA):=Q7 (by decide +kernel)
section
variable {P:Program} {w:World} {K:PySem.W.Frag} {mg:Str->Option Value} {base:Heap} (Z:Al K mg)
include Z
theorem XV:J9 P w K mg base "Shelf" "pages" 1 1 ZW:=hM Z.u0 VI fun _ _ _ _ _ _ _ hr=>Qp (Qs (ZP JF Z.z0 PySem.boot_len (Qd (Qv Z.k0 (Qa 0)) Qn)))
theorem JA:J9 P w K mg base "Shelf" "check_number" 1 2 Zm:=hM Z.u1 qT fun _ _ _ _ _ _ _ hr=>Qp (Zh (XU (Ve Qc8 Vv Qq (Qa 1) (ZP JF Z.z0 PySem.boot_len (Qd (Qv Z.k0 (Qa 0)) Qn)))) (Qp uH) QJ)
theorem Ys:J9 P w K mg base "Shelf" "read" 2 2 Zs:=hM Z.u2 Uj fun _ _ _ _ _ _ _ hr=>Qh (JL (Za (JA Z) hr (by decide) Qz (Qa 0) (Qd (Qa 1) Qn))) (Qh (zL Z.k1 (Qa 0) Qq) (Qp (Qs (QV (Q4 hr) (Qv Z.k0 (Qa 0)) (Qa 1)))))
theorem Yu:J9 P w K mg base "Shelf" "root" 1 1 ZE:=hM Z.u3 Ul fun _ _ _ _ _ _ _ hr=>Qp (Qs (Qv Z.k2 (Qa 0)))
theorem YD:gR P w K mg base "Walk" 1 3 ZL:=hI Z.u4 yd fun _ _ _ _ _ _ _ hr=>Qh (Zd Z.k12 (Qa 0) (Qa 1)) (Qh (Zd Z.k11 (Qa 0) (Qa 2)) (Qh (Zd Z.k10 (Qa 0) (QV (Q4 hr) (Qa 2) Qq)) (Qh (Zd Z.k9 (Qa 0) Qq) (Qh (Zd Z.k8 (Qa 0) ZB) (Qh (Zd Z.k7 (Qa 0) QaK) (Qh (Zd Z.k6 (Qa 0) ZB) (Qh (Zd Z.k5 (Qa 0) ZB) (Qh (Zd Z.k4 (Qa 0) (zK Qn)) (Qp (Zd Z.k3 (Qa 0) Xu))))))))))
theorem je:J9 P w K mg base "Walk" "over" 1 1 Jv:=hM Z.u5 KO fun _ _ _ _ _ _ _ hr=>Qp (Qs (Qv Z.k3 (Qa 0)))
theorem zX:J9 P w K mg base "Walk" "read_pairs" 1 3 Xd:=hM Z.u6 sc_Walk_read_pairs fun _ _ _ _ _ _ _ hr=>let ⟨_,g_SIDE⟩:=Z.g0.ex;let ⟨_,g_HIGH⟩:=Z.g1.ex;let ⟨_,g_KEYS⟩:=Z.g2.ex;let ⟨_,g_PARTS⟩:=Z.g3.ex;Qh (QF 3 sc_Walk_read_pairs.nd (QV (Q4 hr) (Qv Z.k11 (Qa 0)) Qq)) (Qh (QF 4 sc_Walk_read_pairs.nd (QV (Q4 hr) (Qv Z.k11 (Qa 0)) Qq)) (Qh (jU 5 sc_Walk_read_pairs.nd (caps:=["low", "high"]) (idx:=[3,4]) ⟨by with_unfolding_all rfl,by decide +kernel,rfl,by decide +kernel,rfl,(by exact ⟨rfl,⟨rfl,trivial⟩⟩),by with_unfolding_all rfl,(by exact ⟨rfl,.inl rfl,⟨_,rfl⟩,(fun h=>NameKind.noConfusion (Option.some.inj (show some NameKind.cell=some NameKind.local from h))),⟨rfl,.inl rfl,⟨_,rfl⟩,(fun h=>NameKind.noConfusion (Option.some.inj (show some NameKind.cell=some NameKind.local from h))),trivial⟩⟩),by decide⟩ rfl (yk (QcI (by rfl) (by exact Z.z2) (QV (Q4 hr) (Qa 2) (Q8 rfl g_KEYS)) (QV (Q4 hr) (Qa 2) (Q8 rfl g_PARTS)))) (fun _ _ _ _=>zN (Ve Qc8 Vv (Qa 1) (QV (Q4 hr) (Qa 0) Qq) (Qa 2))) (fun _ _ _ _=>Qa 0)) (Qh (JL (jq Qbn PySem.F.plainAttrs_list PySem.F.slot_list_extend PySem.F.type_list_extend (Qv Z.k4 (Qa 0)) (Qd (Qa 5) Qn))) (Qh (Zh (DW.pt (UA (Q2 Qad (QV (Q4 hr) (Qa 2) (Q8 rfl g_HIGH)) ZB (QN _)) (xR (Q2 Qgt (QV (Q4 hr) (Qa 2) (Q8 rfl g_HIGH)) (Qa 4) (QN _))))) (Qh (Zd Z.k3 (Qa 0) Xu) (Qp (Qs (Zg (Qd Jb (Qd (Qa 1) (Qd (Qd2 K9 Z.z1 boot_tuple (Qd (Qa 5) Qn)) (Qd ZB (Qd ZB Qn))))))))) QJ) (Qh (Zd Z.k10 (Qa 0) (QV (Q4 hr) (Qa 2) (Q8 rfl g_HIGH))) (Qh (Zd Z.k8 (Qa 0) (QV (Q4 hr) (Qa 2) (Q8 rfl g_SIDE))) (Qp (Qs (Zg (Qd Jb (Qd (Qa 1) (Qd (Qd2 K9 Z.z1 boot_tuple (Qd (Qa 5) Qn)) (Qd (Qv Z.k8 (Qa 0)) (Qd (Qv Z.k10 (Qa 0)) Qn))))))))))))))
theorem XW:J9 P w K mg base "Shelf" "write" 2 3 JC:=hM Z.u7 VJ fun _ _ _ _ _ _ _ hr=>Qh (JL (Za (JA Z) hr (by decide) Qz (Qa 0) (Qd (Qa 1) Qn))) (Qh (zL Z.k13 (Qa 0) Qq) (Qp (js (Qa 2) (jr (Q4 hr) (Qv Z.k0 (Qa 0)) (Qa 1)))))
theorem jZ:Has P w K mg base "refilled" 1 3 qp:=hf Z.u8 GU fun _ _ _ _ _ _ _ hr=>let ⟨_,g_SIDE⟩:=Z.g0.ex;let ⟨_,g_HIGH⟩:=Z.g1.ex;let ⟨_,g_LEVEL⟩:=Z.g4.ex;Qp (Qs (Zg (Qd (JP (Qa 0) (Q8 rfl g_LEVEL)) (Qd (Qa 1) (Qd (Qa 2) (Qd (JP (Qa 0) (Q8 rfl g_HIGH)) (Qd (JP (Qa 0) (Q8 rfl g_SIDE)) Qn)))))))
theorem Jj:Has P w K mg base "count_not_above" 1 2 Zt:=hf Z.u9 jB fun _ _ _ _ _ _ _ hr=>Qp (Qs (ZP JF Z.z0 PySem.boot_len (Qd (XL (caps:=["key"]) (idx:=[1]) ⟨by with_unfolding_all rfl,by decide +kernel,rfl,by decide +kernel,rfl,(by exact ⟨rfl,trivial⟩),by with_unfolding_all rfl,(by exact ⟨rfl,.inl rfl,⟨_,rfl⟩,(fun h=>NameKind.noConfusion (Option.some.inj (show some NameKind.cell=some NameKind.local from h))),trivial⟩),by decide⟩ rfl (yk (QaM (Qa 0))) (fun _ _ _ _=>zN (Q2 Qc8 (Qa 0) (Qa 1) (QN _))) (fun _ _ _ _=>Qa 0)) Qn)))
theorem qM:Has P w K mg base "count_below" 1 2 XE:=hf Z.u10 VN fun _ _ _ _ _ _ _ hr=>Qp (Qs (ZP JF Z.z0 PySem.boot_len (Qd (XL (caps:=["key"]) (idx:=[1]) ⟨by with_unfolding_all rfl,by decide +kernel,rfl,by decide +kernel,rfl,(by exact ⟨rfl,trivial⟩),by with_unfolding_all rfl,(by exact ⟨rfl,.inl rfl,⟨_,rfl⟩,(fun h=>NameKind.noConfusion (Option.some.inj (show some NameKind.cell=some NameKind.local from h))),trivial⟩),by decide⟩ rfl (yk (QaM (Qa 0))) (fun _ _ _ _=>zN (Q2 Vv (Qa 0) (Qa 1) (QN _))) (fun _ _ _ _=>Qa 0)) Qn)))
theorem j2:Has P w K mg base "with_run" 2 4 qr:=hf Z.u11 sc_with_run fun _ _ _ _ _ _ _ hr=>let ⟨_,g_PARTS⟩:=Z.g3.ex;let ⟨_,g_KEYS⟩:=Z.g2.ex;Qh (QF 4 sc_with_run.nd (JP (Qa 0) (Q8 rfl g_KEYS))) (Qh (QF 5 sc_with_run.nd (JP (Qa 0) (Q8 rfl g_PARTS))) (Qh (QF 6 sc_with_run.nd (QY (qM Z) hr (by decide) Qz (Qd (Qa 4) (Qd (Qa 1) Qn)))) (Qh (QF 7 sc_with_run.nd (QY (Jj Z) hr (by decide) Qz (Qd (Qa 4) (Qd (Qa 1) Qn)))) (Qp (Qs (QY (jZ Z) hr (by decide) Qz (Qd (Qa 0) (Qd (QA J1 (QA J1 (YC (Qa 4) JJ (JK (Qa 6))) (Qa 2)) (YC (Qa 4) (JK (Qa 7)) JJ)) (Qd (QA J1 (QA J1 (YC (Qa 5) JJ (JK (Qa 6))) (Qa 3)) (YC (Qa 5) (JK (Qa 7)) JJ)) Qn)))))))))
theorem Gx:Has P w K mg base "without" 3 2 xI:=hf Z.u12 vY fun _ _ _ _ _ _ _ hr=>Qp (Qs (QY (j2 Z) hr (by decide) Qz (Qd (Qa 0) (Qd (Qa 1) (Qd (Zg Qn) (Qd (Zg Qn) Qn))))))
theorem qz:Has P w K mg base "worth_of" 2 2 J8:=hf Z.u13 sc_worth_of fun _ _ _ _ _ _ _ hr=>let ⟨_,g_PARTS⟩:=Z.g3.ex;let ⟨_,g_KEYS⟩:=Z.g2.ex;Qh (QF 2 sc_worth_of.nd (JP (Qa 0) (Q8 rfl g_KEYS))) (Qh (QF 3 sc_worth_of.nd (QY (qM Z) hr (by decide) Qz (Qd (Qa 2) (Qd (Qa 1) Qn)))) (Qh (Zh (Q2 (Qac hr.units) (Qa 3) (QY (Jj Z) hr (by decide) Qz (Qd (Qa 2) (Qd (Qa 1) Qn))) (QN _)) (Qp (Qs ZB)) QJ) (Qp (Qs (JP (JP (Qa 0) (Q8 rfl g_PARTS)) (Qa 3))))))
theorem xU:J9 P w K mg base "Walk" "cut_key" 4 3 Yh:=hM Z.u14 yS fun _ _ _ _ _ _ _ hr=>Qh (Zd Z.k5 (Qa 0) (QY (qz Z) hr (by decide) Qz (Qd (Qa 2) (Qd (Qv Z.k10 (Qa 0)) Qn)))) (Qh (Zh (Q2 Vu (Qv Z.k5 (Qa 0)) ZB (QN _)) (Qp (JL (Za (XW Z) hr (by decide) Qz (Qv Z.k12 (Qa 0)) (Qd (Qa 1) (Qd (QY (Gx Z) hr (by decide) Qz (Qd (Qa 2) (Qd (Qv Z.k10 (Qa 0)) Qn))) Qn))))) QJ) (Qh (Zd Z.k3 (Qa 0) Xu) (Qp (Qs (Zg (Qd Jb (Qd (Qa 1) (Qd (Qv Z.k5 (Qa 0)) Qn))))))))
theorem jd:J9 P w K mg base "Shelf" "lay" 1 2 XH:=hM Z.u15 KN fun _ _ _ _ _ _ _ hr=>Qh (zL Z.k13 (Qa 0) Qq) (Qh (JL (jq zq PySem.F.plainAttrs_list PySem.F.slot_list_append PySem.F.type_list_append (Qv Z.k0 (Qa 0)) (Qd (Qa 1) Qn))) (Qp (Qs (QA yt (ZP JF Z.z0 PySem.boot_len (Qd (Qv Z.k0 (Qa 0)) Qn)) Qq))))
theorem vG:Has P w K mg base "parted" 1 2 jF:=hf Z.u16 sc_parted fun _ _ _ _ _ _ _ hr=>let ⟨_,g_SIDE⟩:=Z.g0.ex;let ⟨_,g_HIGH⟩:=Z.g1.ex;let ⟨_,g_PARTS⟩:=Z.g3.ex;let ⟨_,g_KEYS⟩:=Z.g2.ex;let ⟨_,g_LEVEL⟩:=Z.g4.ex;Qh (QF 2 sc_parted.nd (JP (Qa 0) (Q8 rfl g_LEVEL))) (Qh (QF 3 sc_parted.nd (JP (Qa 0) (Q8 rfl g_KEYS))) (Qh (QF 4 sc_parted.nd (JP (Qa 0) (Q8 rfl g_PARTS))) (Qh (QF 5 sc_parted.nd (QA xf (ZP uA Z.z0 PySem.boot_len (Qd (Qa 3) Qn)) Qq)) (Qh (QF 6 sc_parted.nd (JP (Qa 3) (Qa 5))) (Qh (QF 7 sc_parted.nd (Qd1 (Q2 (Qac hr.units) (Qa 2) Qq (QN _)) (Qa 5) (QA J1 (Qa 5) Qq))) (Qh (QF 8 sc_parted.nd (Zg (Qd (Qa 2) (Qd (YC (Qa 3) JJ (JK (Qa 5))) (Qd (YC (Qa 4) JJ (JK (Qa 7))) (Qd (Qa 6) (Qd (Qa 1) Qn))))))) (Qh (QF 9 sc_parted.nd (Zg (Qd (Qa 2) (Qd (YC (Qa 3) (JK (Qa 7)) JJ) (Qd (YC (Qa 4) (JK (Qa 7)) JJ) (Qd (JP (Qa 0) (Q8 rfl g_HIGH)) (Qd (JP (Qa 0) (Q8 rfl g_SIDE)) Qn))))))) (Qp (Qs (Zg (Qd (Qa 8) (Qd (Qa 9) (Qd (Qa 6) Qn)))))))))))))
theorem Vj:J9 P w K mg base "Shelf" "room" 1 1 Jw:=hM Z.u17 Uk fun _ _ _ _ _ _ _ hr=>Qp (Qs (Qv Z.k14 (Qa 0)))
theorem Gv:Has P w K mg base "is_full" 1 2 Yc:=hf Z.u18 vW fun _ _ _ _ _ _ _ hr=>let ⟨_,g_KEYS⟩:=Z.g2.ex;Qp (Qs (Xf Qe0 (ZP uA Z.z0 PySem.boot_len (Qd (JP (Qa 0) (Q8 rfl g_KEYS)) Qn)) (Qa 1) (QN _)))
theorem qK:J9 P w K mg base "Walk" "settle" 3 3 XC:=hM Z.u19 sc_Walk_settle fun _ _ _ _ _ _ _ hr=>let ⟨_,g_LEVEL⟩:=Z.g4.ex;Qh (Zh (XU (Xh (QY (Gv Z) hr (by decide) Qz (Qd (Qa 2) (Qd (Zn (Vj Z) hr (by decide) Qz (Qv Z.k12 (Qa 0))) Qn))))) (Qh (JL (Za (XW Z) hr (by decide) Qz (Qv Z.k12 (Qa 0)) (Qd (Qa 1) (Qd (Qa 2) Qn)))) (Qh (Zd Z.k3 (Qa 0) Xu) (Qp (Qs ZB)))) QJ) (Qh (QF 3 sc_Walk_settle.nd (QY (vG Z) hr (by decide) Qz (Qd (Qa 2) (Qd (Zn (XV Z) hr (by decide) Qz (Qv Z.k12 (Qa 0))) Qn)))) (Qh (Zd Z.k6 (Qa 0) (Za (jd Z) hr (by decide) Qz (Qv Z.k12 (Qa 0)) (Qd (QV (Q4 hr) (Qa 3) Qq) Qn))) (Qh (JL (Za (XW Z) hr (by decide) Qz (Qv Z.k12 (Qa 0)) (Qd (Qa 1) (Qd (QV (Q4 hr) (Qa 3) Qq) Qn)))) (Qh (Zd Z.k10 (Qa 0) (QV (Q4 hr) (Qa 3) Qq)) (Qh (Zd Z.k9 (Qa 0) (QA J1 (QV (Q4 hr) (Qa 2) (Q8 rfl g_LEVEL)) Qq)) (Qh (Zd Z.k8 (Qa 0) (jq (QeM (Q4 hr)) PySem.F.plainAttrs_dict PySem.F.slot_dict_get PySem.F.type_dict_get (Qv Z.k7 (Qa 0)) (Qd (Qv Z.k9 (Qa 0)) Qn))) (Qp (Qs (Qv Z.k6 (Qa 0))))))))))
theorem Ue:Has P w K mg base "with_pair" 3 3 qW:=hf Z.u20 KQ fun _ _ _ _ _ _ _ hr=>Qp (Qs (QY (j2 Z) hr (by decide) Qz (Qd (Qa 0) (Qd (Qa 1) (Qd (Zg (Qd (Qa 1) Qn)) (Qd (Zg (Qd (Qa 2) Qn)) Qn))))))
theorem jX:J9 P w K mg base "Walk" "put_pair" 4 3 XQ:=hM Z.u21 sc_Walk_put_pair fun _ _ _ _ _ _ _ hr=>Qh (Zd Z.k5 (Qa 0) (QY (qz Z) hr (by decide) Qz (Qd (Qa 2) (Qd (Qv Z.k10 (Qa 0)) Qn)))) (Qh (QF 3 sc_Walk_put_pair.nd (Za (qK Z) hr (by decide) Qz (Qa 0) (Qd (Qa 1) (Qd (QY (Ue Z) hr (by decide) Qz (Qd (Qa 2) (Qd (Qv Z.k10 (Qa 0)) (Qd (QV (Q4 hr) (Qv Z.k11 (Qa 0)) Qq) Qn)))) Qn)))) (Qp (Qs (Zg (Qd Jb (Qd (Qa 1) (Qd (Qv Z.k5 (Qa 0)) (Qd (Qa 3) Qn))))))))
theorem zW:J9 P w K mg base "Walk" "find_worth" 3 3 Xc:=hM Z.u22 jy fun _ _ _ _ _ _ _ hr=>Qh (Zd Z.k5 (Qa 0) (QY (qz Z) hr (by decide) Qz (Qd (Qa 2) (Qd (Qv Z.k10 (Qa 0)) Qn)))) (Qh (Zd Z.k3 (Qa 0) Xu) (Qp (Qs (Zg (Qd Jb (Qd (Qa 1) (Qd (Qv Z.k5 (Qa 0)) Qn)))))))
theorem xV:J9 P w K mg base "Walk" "do_deed" 5 3 Yi:=hM Z.u23 sc_Walk_do_deed fun _ _ _ _ _ _ _ hr=>Qh (QF 3 sc_Walk_do_deed.nd (QV (Q4 hr) (Qv Z.k11 (Qa 0)) Qq)) (Qh (Zh (Q2 (qN hr.units) (Qa 3) Jb (QN _)) (Qp (Qs (Za (zW Z) hr (by decide) Qz (Qa 0) (Qd (Qa 1) (Qd (Qa 2) Qn))))) QJ) (Qh (Zh (Q2 (qN hr.units) (Qa 3) Jb (QN _)) (Qp (Qs (Za (jX Z) hr (by decide) Qz (Qa 0) (Qd (Qa 1) (Qd (Qa 2) Qn))))) QJ) (Qh (Zh (Q2 (qN hr.units) (Qa 3) Jb (QN _)) (Qp (Qs (Za (xU Z) hr (by decide) Qz (Qa 0) (Qd (Qa 1) (Qd (Qa 2) Qn))))) QJ) (Qp (Qs (Za (zX Z) hr (by decide) Qz (Qa 0) (Qd (Qa 1) (Qd (Qa 2) Qn))))))))
theorem Kv:Has P w K mg base "with_kid" 2 3 qq:=hf Z.u24 sc_with_kid fun _ _ _ _ _ _ _ hr=>let ⟨_,g_PARTS⟩:=Z.g3.ex;let ⟨_,g_KEYS⟩:=Z.g2.ex;Qh (QF 3 sc_with_kid.nd (JP (Qa 0) (Q8 rfl g_KEYS))) (Qh (QF 4 sc_with_kid.nd (JP (Qa 0) (Q8 rfl g_PARTS))) (Qh (QF 5 sc_with_kid.nd (QY (Jj Z) hr (by decide) Qz (Qd (Qa 3) (Qd (Qa 1) Qn)))) (Qh (QF 6 sc_with_kid.nd (QA J1 (Qa 5) Qq)) (Qp (Qs (QY (jZ Z) hr (by decide) Qz (Qd (Qa 0) (Qd (QA J1 (QA J1 (YC (Qa 3) JJ (JK (Qa 5))) (Zg (Qd (Qa 1) Qn))) (YC (Qa 3) (JK (Qa 5)) JJ)) (Qd (QA J1 (QA J1 (YC (Qa 4) JJ (JK (Qa 6))) (Zg (Qd (Qa 2) Qn))) (YC (Qa 4) (JK (Qa 6)) JJ)) Qn)))))))))
theorem jv:J9 P w K mg base "Walk" "tell_fork" 4 3 Xx:=hM Z.u25 sc_Walk_tell_fork fun _ _ _ _ _ _ _ hr=>Qh (QF 3 sc_Walk_tell_fork.nd (Za (qK Z) hr (by decide) Qz (Qa 0) (Qd (Qa 1) (Qd (QY (Kv Z) hr (by decide) Qz (Qd (Qa 2) (Qd (Qv Z.k10 (Qa 0)) (Qd (Qv Z.k6 (Qa 0)) Qn)))) Qn)))) (Qp (Qs (Zg (Qd Jb (Qd (Qa 1) (Qd (Qa 3) Qn))))))
theorem zj:J9 P w K mg base "Walk" "go_on" 1 4 JT:=hM Z.u26 Um fun _ _ _ _ _ _ _ hr=>Qh (Zd Z.k8 (Qa 0) (Qa 3)) (Qp (Qs (Zg (Qd (Qa 1) (Qd (Qa 2) (Qd (Qa 3) Qn))))))
theorem Gw:Has P w K mg base "kid_for" 2 2 YW:=hf Z.u27 vX fun _ _ _ _ _ _ _ hr=>let ⟨_,g_PARTS⟩:=Z.g3.ex;let ⟨_,g_KEYS⟩:=Z.g2.ex;Qp (Qs (JP (JP (Qa 0) (Q8 rfl g_PARTS)) (QY (Jj Z) hr (by decide) Qz (Qd (JP (Qa 0) (Q8 rfl g_KEYS)) (Qd (Qa 1) Qn)))))
theorem vF:Has P w K mg base "beyond" 1 2 YV:=hf Z.u28 sc_beyond fun _ _ _ _ _ _ _ hr=>let ⟨_,g_HIGH⟩:=Z.g1.ex;Qh (QF 2 sc_beyond.nd (JP (Qa 0) (Q8 rfl g_HIGH))) (Qp (Qs (qY (Xf Vu (Qa 2) ZB (QN _)) (q8 (Xf Qgt (Qa 1) (Qa 2) (QN _))))))
theorem zi:J9 P w K mg base "Shelf" "raise_root" 2 3 Z0:=hM Z.u29 sc_Shelf_raise_root fun _ _ _ _ _ _ _ hr=>let ⟨_,g_LEVEL⟩:=Z.g4.ex;Qh (JL (Za (JA Z) hr (by decide) Qz (Qa 0) (Qd (Qa 2) Qn))) (Qh (QF 3 sc_Shelf_raise_root.nd (QA J1 (QV (Q4 hr) (QV (Q4 hr) (Qv Z.k0 (Qa 0)) (Qv Z.k2 (Qa 0))) (Q8 rfl g_LEVEL)) Qq)) (Qh (Zd Z.k2 (Qa 0) (Za (jd Z) hr (by decide) Qz (Qa 0) (Qd (Zg (Qd (Qa 3) (Qd (Zg (Qd (Qa 1) Qn)) (Qd (Zg (Qd (Qv Z.k2 (Qa 0)) (Qd (Qa 2) Qn))) (Qd ZB (Qd ZB Qn)))))) Qn))) (Qp (Qs (Qv Z.k2 (Qa 0))))))
theorem YR:J9 P w K mg base "Walk" "raise_root_over" 3 2 ZO:=hM Z.u30 qi fun _ _ _ _ _ _ _ hr=>Qh (Zd Z.k3 (Qa 0) Xu) (Qp (Qs (Zg (Qd Jb (Qd (Qa 1) (Qd (Za (zi Z) hr (by decide) Qz (Qv Z.k12 (Qa 0)) (Qd (Qv Z.k10 (Qa 0)) (Qd (Qv Z.k6 (Qa 0)) Qn))) Qn))))))
theorem jf:J9 P w K mg base "Walk" "step" 6 1 Xb:=hM Z.u31 sc_Walk_step fun _ _ _ _ _ _ _ hr=>let ⟨_,g_LEVEL⟩:=Z.g4.ex;let ⟨_,g_SIDE⟩:=Z.g0.ex;Qh (Zh (Xh (Qv Z.k3 (Qa 0))) (Qp (Qs ZB)) QJ) (Qh (QF 1 sc_Walk_step.nd (Qd1 (Q2 Qad (Qv Z.k8 (Qa 0)) ZB (QN _)) (Zn (Yu Z) hr (by decide) Qz (Qv Z.k12 (Qa 0))) (Qv Z.k8 (Qa 0)))) (Qh (QF 2 sc_Walk_step.nd (Za (Ys Z) hr (by decide) Qz (Qv Z.k12 (Qa 0)) (Qd (Qa 1) Qn))) (Qh (Zh (DW.pt (QaR (Q2 Qad (Qv Z.k8 (Qa 0)) ZB (QN _)) (uJ (Q2 Vv (QV (Q4 hr) (Qa 2) (Q8 rfl g_LEVEL)) (Qv Z.k9 (Qa 0)) (QN _))))) (Qp (Qs (Za (YR Z) hr (by decide) Qz (Qa 0) (Qd (Qa 1) Qn)))) QJ) (Qh (Zh (Xh (QY (vF Z) hr (by decide) Qz (Qd (Qa 2) (Qd (Qv Z.k10 (Qa 0)) Qn)))) (Qp (Qs (Za (zj Z) hr (by decide) Qz (Qa 0) (Qd Jb (Qd (Qa 1) (Qd (QV (Q4 hr) (Qa 2) (Q8 rfl g_SIDE)) Qn)))))) QJ) (Qh (Zh (Q2 Qe0 (QV (Q4 hr) (Qa 2) (Q8 rfl g_LEVEL)) (Qv Z.k9 (Qa 0)) (QN _)) (Qh (js (Qa 1) (jr (Q4 hr) (Qv Z.k7 (Qa 0)) (QV (Q4 hr) (Qa 2) (Q8 rfl g_LEVEL)))) (Qp (Qs (Za (zj Z) hr (by decide) Qz (Qa 0) (Qd Jb (Qd (Qa 1) (Qd (QY (Gw Z) hr (by decide) Qz (Qd (Qa 2) (Qd (Qv Z.k10 (Qa 0)) Qn))) Qn))))))) QJ) (Qh (Zh (Q2 Qe0 (Qv Z.k9 (Qa 0)) Qq (QN _)) (Qp (Qs (Za (jv Z) hr (by decide) Qz (Qa 0) (Qd (Qa 1) (Qd (Qa 2) Qn))))) QJ) (Qp (Qs (Za (xV Z) hr (by decide) Qz (Qa 0) (Qd (Qa 1) (Qd (Qa 2) Qn)))))))))))
theorem ym:Has P w K mg base "_law_due" 7 6 Yd:=hf6 Z.u32 sc_law_due fun _ _ _ _ _ _ _ hr=>Qh (QF 6 sc_law_due.nd (QV (Q4 hr) (Qa 1) (Qa 5))) (Qh (Zh (Q2 Vu (Qa 6) ZB (QN _)) (Qh (QF 7 sc_law_due.nd (Zn (jf Z) hr (by decide) Qz (Qa 6))) (Qh (Zh (Xh (Zn (je Z) hr (by decide) Qz (Qa 6))) (Qp (js ZB (jr (Q4 hr) (Qa 1) (Qa 5)))) QJ) (Qp (Qs (QA J1 (Zg (Qd (QV (Q4 hr) (Qa 7) Qq) (Qd (Qa 5) (Qd (QV (Q4 hr) (Qa 2) (Qa 5)) Qn)))) (YC (Qa 7) (JK Qq) JJ)))))) QJ) (Qh (Zh (Q2 (qN hr.units) (QV (Q4 hr) (Qa 4) Qq) (ZP JF Z.z0 PySem.boot_len (Qd (Qa 3) Qn)) (QN _)) (Qp (Qs (Zg (Qd Jb (Qd (Qa 5) Qn))))) QJ) (Qh (js (QV (Q4 hr) (Qa 4) Qq) (jr (Q4 hr) (Qa 2) (Qa 5))) (Qh (js (jR (YD Z) hr (by decide) Qz (Qd (Qa 0) (Qd (QV (Q4 hr) (Qa 3) (QV (Q4 hr) (Qa 4) Qq)) Qn))) (jr (Q4 hr) (Qa 1) (Qa 5))) (Qh (QcK (Q4 hr) (Qa 4) Qq Qq) (Qp (Qs (Zg (Qd Jb (Qd (Qa 5) (Qd (QV (Q4 hr) (Qa 2) (Qa 5)) Qn)))))))))))
theorem Ud:Has P w K mg base "_law_whole" 1 1 qV:=hf Z.u33 KP fun _ _ _ _ _ _ _ hr=>Qp (Qs (qY (Yn Z.z3 Z.z4 boot_int (by decide) (Qa 0)) (q8 (Qet (Yn Z.z3 Z.z5 boot_bool (by decide) (Qa 0))))))
theorem qy:∀ j:Nat,Has P w K mg base "_law_same" (1+j) 2 (ZM j)
 | 0=>let ⟨_,_,F,hm⟩:=Z.u34.ex;Qa7 F hm (ps:=["found", "due"]) (fun _ _ _ _ _ _ us hl=>match us,hl with | [_,_],_=>rfl)
 | j+1=>have h_law_same:=qy j;hf Z.u34 sc_law_same fun _ _ _ _ _ _ _ hr=>Qh (Zh (DW.pt (UA (Xh (Yn Z.z3 Z.z1 boot_tuple (by decide) (Qa 1))) (xR (Xh (Yn Z.z3 Z.z7 boot_list (by decide) (Qa 1)))))) (Qh (Zh (DW.pt (UA (Q2 (UP hr.units) (Yn Z.z3 Z.z1 boot_tuple (by decide) (Qa 0)) (Yn Z.z3 Z.z1 boot_tuple (by decide) (Qa 1)) (QN _)) (xR (Q2 (UP hr.units) (Yn Z.z3 Z.z7 boot_list (by decide) (Qa 0)) (Yn Z.z3 Z.z7 boot_list (by decide) (Qa 1)) (QN _))))) (Qp (Qs Xu)) QJ) (Qh (Zh (Q2 (UP hr.units) (ZP JF Z.z0 PySem.boot_len (Qd (Qa 0) Qn)) (ZP JF Z.z0 PySem.boot_len (Qd (Qa 1) Qn)) (QN _)) (Qp (Qs Xu)) QJ) (Qh (QaP PassesOwn.never rfl (Qew (by rfl) (by exact Z.z2) (Qa 0) (Qa 1)) (Qev [2,3] sc_law_same.nd (by repeat' (first | exact trivial | refine ⟨rfl,(by first | exact .inl rfl | exact .inr rfl),.inl rfl,?_⟩)) rfl (fun _ _ _=>rfl)) (Qp (Zh (XU (Xh (QY h_law_same hr (Nat.le_refl _) Qz (Qd (Qa 2) (Qd (Qa 3) Qn))))) (Qp (Qs Xu)) QJ))) (Qp (Qs Xu))))) QJ) (Qh (Zh (Q2 Qad (Qa 1) ZB (QN _)) (Qp (Qs (Xf Qad (Qa 0) ZB (QN _)))) QJ) (Qh (Zh (Xh (Yn Z.z3 Z.z6 boot_str (by decide) (Qa 1))) (Qp (Qs (qY (Yn Z.z3 Z.z6 boot_str (by decide) (Qa 0)) (q8 (Xf (qN hr.units) (Qa 0) (Qa 1) (QN _)))))) QJ) (Qp (Qs (qY (QY (Ud Z) hr (Nat.le_add_right _ _) Qz (Qd (Qa 0) Qn)) (q8 (Xf (qN hr.units) (Qa 0) (Qa 1) (QN _))))))))
theorem J6:J9 P w K mg base "Weaver" "idle" 1 1 Zf:=hM Z.u35 VL fun _ _ _ _ _ _ _ hr=>Qp (Qs (qY (Xf (qN hr.units) (Qv Z.k15 (Qa 0)) (ZP JF Z.z0 PySem.boot_len (Qd (Qv Z.k16 (Qa 0)) Qn)) (QN _)) (q8 (ZP (Qf3 rfl) Z.z8 boot_all (Qd (XL (caps:=[]) (idx:=[]) ⟨by with_unfolding_all rfl,by decide +kernel,rfl,by decide +kernel,rfl,(by exact trivial),by with_unfolding_all rfl,(by exact trivial),by decide⟩ rfl (zO (Qv Z.k17 (Qa 0))) (fun _ _ _ _=>zM) (fun _ _ _ _=>Xf Qad (Qa 0) ZB (QN _))) Qn)))))
theorem zm:J9 P w K mg base "Weaver" "take_deed" 3 2 Jx:=hM Z.u36 sc_Weaver_take_deed fun _ _ _ _ _ _ _ hr=>Qh (QF 2 sc_Weaver_take_deed.nd (Qv Z.k15 (Qa 0))) (Qh (js (Zg (Qd (Qa 2) (Qd (jR (YD Z) hr (by decide) Qz (Qd (Qv Z.k18 (Qa 0)) (Qd (QV (Q4 hr) (Qv Z.k16 (Qa 0)) (Qa 2)) Qn))) Qn))) (jr (Q4 hr) (Qv Z.k17 (Qa 0)) (Qa 1))) (Qh (zL Z.k15 (Qa 0) Qq) (Qp (Qs (Zg (Qd Jb (Qd (Qa 1) (Qd (Qa 2) Qn))))))))
theorem zk:J9 P w K mg base "Weaver" "step_walk" 7 2 J7:=hM Z.u37 sc_Weaver_step_walk fun _ _ _ _ _ _ _ hr=>Qh (QF 2 sc_Weaver_step_walk.nd (QV (Q4 hr) (Qv Z.k17 (Qa 0)) (Qa 1))) (Qh (QF 3 sc_Weaver_step_walk.nd (QV (Q4 hr) (Qa 2) Qq)) (Qh (QF 4 sc_Weaver_step_walk.nd (Zn (jf Z) hr (by decide) Qz (Qa 3))) (Qh (Zh (Xh (Zn (je Z) hr (by decide) Qz (Qa 3))) (Qh (js ZB (jr (Q4 hr) (Qv Z.k17 (Qa 0)) (Qa 1))) (Qp (JL (jq zq PySem.F.plainAttrs_list PySem.F.slot_list_append PySem.F.type_list_append (Qv Z.k19 (Qa 0)) (Qd (Qa 2) Qn))))) QJ) (Qp (Qs (QA J1 (Zg (Qd (QV (Q4 hr) (Qa 4) Qq) (Qd (Qa 1) (Qd (QV (Q4 hr) (Qa 2) Qq) Qn)))) (YC (Qa 4) (JK Qq) JJ)))))))
theorem qL:J9 P w K mg base "Weaver" "move" 8 2 ZF:=hM Z.u38 VM fun _ _ _ _ _ _ _ hr=>Qh (Zh (XU (Ve Qc8 Vv Qq (Qa 1) (ZP JF Z.z0 PySem.boot_len (Qd (Qv Z.k17 (Qa 0)) Qn)))) (Qp uH) QJ) (Qh (Zh (Q2 Vu (QV (Q4 hr) (Qv Z.k17 (Qa 0)) (Qa 1)) ZB (QN _)) (Qp (Qs (Za (zk Z) hr (by decide) Qz (Qa 0) (Qd (Qa 1) Qn)))) QJ) (Qh (Zh (Q2 Vv (Qv Z.k15 (Qa 0)) (ZP JF Z.z0 PySem.boot_len (Qd (Qv Z.k16 (Qa 0)) Qn)) (QN _)) (Qp (Qs (Za (zm Z) hr (by decide) Qz (Qa 0) (Qd (Qa 1) Qn)))) QJ) (Qp (Qs (Zg (Qd Jb (Qd (Qa 1) Qn)))))))
theorem jY:J9 P w K mg base "Weaver" "finish" 9 1 J4:=hM Z.u39 sc_Weaver_finish fun _ _ _ _ _ _ _ hr=>Qh (QF 1 sc_Weaver_finish.nd (zK Qn)) (Qh (QF 2 sc_Weaver_finish.nd Qq) (Qh (QaQ 100000 PassesOwn.never (XU (Xh (Zn (J6 Z) hr (by decide) Qz (Qa 0)))) (Qh (JL (jq zq PySem.F.plainAttrs_list PySem.F.slot_list_append PySem.F.type_list_append (Qa 1) (Qd (Za (qL Z) hr (by decide) Qz (Qa 0) (Qd (Qa 2) Qn)) Qn))) (Qp (QF 2 sc_Weaver_finish.nd (QA YF (QA J1 (Qa 2) Qq) (ZP JF Z.z0 PySem.boot_len (Qd (Qv Z.k17 (Qa 0)) Qn))))))) (Qp (Qs (Qa 1)))))
theorem Y7:Has P w K mg base "_law_finished" 10 6 JN:=hf6 Z.u40 sc_law_finished fun _ _ _ _ _ _ _ hr=>Qh (QF 6 sc_law_finished.nd Qq) (Qh (QF 7 sc_law_finished.nd (Zn (jY Z) hr (by decide) Qz (Qa 0))) (Qh (Zh (DW.pt (UA (XU (Xh (QcG Z.z3 Z.z7 boot_list (by decide) (Qa 7)))) (xR (XU (Xh (Zn (J6 Z) hr (by decide) Qz (Qa 0))))))) (Qp (Qs Xu)) QJ) (Qh (uI PassesOwn.never rfl (zO (Qa 7)) (Ko 8 sc_law_finished.nd) (Qh (Zh (DW.pt (QaR (Q2 (qN hr.units) (QV (Q4 hr) (Qa 5) Qq) (ZP JF Z.z0 PySem.boot_len (Qd (Qa 4) Qn)) (QN _)) (uJ (Q2 (QbD hr.units) (XL (caps:=[]) (idx:=[]) ⟨by with_unfolding_all rfl,by decide +kernel,rfl,by decide +kernel,rfl,(by exact trivial),by with_unfolding_all rfl,(by exact trivial),by decide⟩ rfl (zO (Qa 2)) (fun _ _ _ _=>zN (Q2 Vu (Qa 0) ZB (QN _))) (fun _ _ _ _=>Qa 0)) (xP Qn) (QN _))))) (Qp (Qs Xu)) QJ) (Qh (Zh (XU (Xh (QY (qy Z 6) hr (by decide) Qz (Qd (Qa 8) (Qd (QY (ym Z) hr (by decide) Qz (Qd (Qa 1) (Qd (Qa 2) (Qd (Qa 3) (Qd (Qa 4) (Qd (Qa 5) (Qd (Qa 6) Qn))))))) Qn))))) (Qp (Qs Xu)) QJ) (Qp (QF 6 sc_law_finished.nd (QA YF (QA J1 (Qa 6) Qq) (ZP JF Z.z0 PySem.boot_len (Qd (Qa 2) Qn)))))))) (Qp (Qs (qY (Xf (qN hr.units) (QV (Q4 hr) (Qa 5) Qq) (ZP JF Z.z0 PySem.boot_len (Qd (Qa 4) Qn)) (QN _)) (q8 (Xf (QbD hr.units) (XL (caps:=[]) (idx:=[]) ⟨by with_unfolding_all rfl,by decide +kernel,rfl,by decide +kernel,rfl,(by exact trivial),by with_unfolding_all rfl,(by exact trivial),by decide⟩ rfl (zO (Qa 2)) (fun _ _ _ _=>zN (Q2 Vu (Qa 0) ZB (QN _))) (fun _ _ _ _=>Qa 0)) (xP Qn) (QN _)))))))))
theorem Yt:J9 P w K mg base "Shelf" "readings" 1 1 Zy:=hM Z.u41 xq fun _ _ _ _ _ _ _ hr=>Qp (Qs (Qv Z.k1 (Qa 0)))
theorem Yv:J9 P w K mg base "Shelf" "writings" 1 1 Zz:=hM Z.u42 xr fun _ _ _ _ _ _ _ hr=>Qp (Qs (Qv Z.k13 (Qa 0)))
theorem Yw:J9 P w K mg base "Weaver" "hand_in" 1 2 ZY:=hM Z.u43 xt fun _ _ _ _ _ _ _ hr=>Qh (JL (jq zq PySem.F.plainAttrs_list PySem.F.slot_list_append PySem.F.type_list_append (Qv Z.k16 (Qa 0)) (Qd (Qa 1) Qn))) (Qp (Qs (QA yt (ZP JF Z.z0 PySem.boot_len (Qd (Qv Z.k16 (Qa 0)) Qn)) Qq)))
theorem zn:Has P w K mg base "_law_key" 1 1 Xy:=hf Z.u44 sc_law_key fun _ _ _ _ _ _ _ hr=>Qh (QF 1 sc_law_key.nd (QA xf (Qa 0) Qq)) (Qh (Zh (Q2 (Qac hr.units) (QA YF (Qa 0) Qq) Qq (QN _)) (Qp (Qs (QA yt (QA YF (QA Qe1 (Qa 1) (QA yr Qq Qq)) (QA J1 (QA Qea Qq (QA yr Qq Qq)) Qq)) (QA yr Qq Qq)))) QJ) (Qh (Zh (Q2 (Qac hr.units) (QA YF (Qa 0) Qq) Qq (QN _)) (Qp (Qs (JP (xP (Qd (QA yr Qq Qq) (Qd (vz (QA yr Qq Qq)) (Qd (QA yt (QA yr Qq Qq) Qq) (Qd (QA yt Qq (QA yr Qq Qq)) Qn))))) (QA YF (Qa 1) Qq)))) QJ) (Qp (Qs (QA yt (QA YF (Qa 1) Qq) Qq)))))
theorem Ku:Has P w K mg base "_law_deed" 2 1 Yj:=hf Z.u45 sc_law_deed fun _ _ _ _ _ _ _ hr=>Qh (QF 1 sc_law_deed.nd (QA YF (Qa 0) Qq)) (Qh (QF 2 sc_law_deed.nd (QY (zn Z) hr (by decide) Qz (Qd (QA xf (Qa 0) Qq) Qn))) (Qh (Zh (Q2 (Qac hr.units) (Qa 1) Qq (QN _)) (Qp (Qs (Zg (Qd Jb (Qd (Qa 2) Qn))))) QJ) (Qh (Zh (Q2 Vv (Qa 1) Qq (QN _)) (Qp (Qs (Zg (Qd Jb (Qd (Qa 2) (Qd (QY (zn Z) hr (by decide) Qz (Qd (QA xf (Qa 0) Qq) Qn)) Qn)))))) QJ) (Qh (Zh (Q2 Vv (Qa 1) Qq (QN _)) (Qp (Qs (Zg (Qd Jb (Qd (Qa 2) Qn))))) QJ) (Qh (QF 3 sc_law_deed.nd (QY (zn Z) hr (by decide) Qz (Qd (QA xf (Qa 0) Qq) Qn))) (Qh (Zh (Q2 (Qac hr.units) (Qa 3) (Qa 2) (QN _)) (Qp (QF 3 sc_law_deed.nd (QA yt (Qa 2) Qq))) QJ) (Qh (Zh (Q2 Vv (Qa 3) (vz (QA yr Qq Qq)) (QN _)) (Qp (QF 3 sc_law_deed.nd (QA J1 (Qa 2) Qq))) QJ) (Qp (Qs (Zg (Qd Jb (Qd (ZP (Qf5 rfl) Z.z10 boot_min (Qd (Qa 2) (Qd (Qa 3) Qn))) (Qd (ZP (Qf4 rfl) Z.z9 boot_max (Qd (Qa 2) (Qd (Qa 3) Qn))) Qn)))))))))))))
theorem Uc:Has P w K mg base "_law_ahead" 1 1 YB:=hf Z.u46 sc_law_ahead fun _ _ _ _ _ _ _ hr=>Qh (QF 1 sc_law_ahead.nd (QV (Q4 hr) (xP (Qd Qq (Qd Qq (Qd Qq (Qd Qq (Qd Qq Qn)))))) (QA YF (QA xf (Qa 0) Qq) Qq))) (Qp (Qs (XL (caps:=["step"]) (idx:=[1]) ⟨by with_unfolding_all rfl,by decide +kernel,rfl,by decide +kernel,rfl,(by exact ⟨rfl,trivial⟩),by with_unfolding_all rfl,(by exact ⟨rfl,.inl rfl,⟨_,rfl⟩,(fun h=>NameKind.noConfusion (Option.some.inj (show some NameKind.cell=some NameKind.local from h))),trivial⟩),by decide⟩ rfl (yk (Ye rfl Z.z11 (Qd (QA YF (Qa 0) Qq) Qn))) (fun _ _ _ _=>zM) (fun _ _ _ _=>Zg (Qd Jb (Qd (QA yt (QA YF (QA Qea (Qa 0) (Qa 1)) Qq) Qq) (Qd (QA J1 Qq (Qa 0)) Qn)))))))
theorem zY:gR P w K mg base "Weaver" 1 3 JH:=hI Z.u47 jA fun _ _ _ _ _ _ _ hr=>Qh (Zd Z.k18 (Qa 0) (Qa 1)) (Qh (Zd Z.k16 (Qa 0) (zK Qn)) (Qh (Zd Z.k15 (Qa 0) Qq) (Qh (Zd Z.k17 (Qa 0) (QA Qe2 (xP (Qd ZB Qn)) (Qa 2))) (Qp (Zd Z.k19 (Qa 0) (zK Qn))))))
theorem Yr:gR P w K mg base "Shelf" 1 2 Zl:=hI Z.u48 xp fun _ _ _ _ _ _ _ hr=>let ⟨_,g_EMPTY_LEAF,q_EMPTY_LEAF⟩:=Z.t0.ex;Qh (Zd Z.k14 (Qa 0) (Qa 1)) (Qh (Zd Z.k0 (Qa 0) (zK (Qd (QcF rfl g_EMPTY_LEAF q_EMPTY_LEAF) Qn))) (Qh (Zd Z.k2 (Qa 0) Qq) (Qh (Zd Z.k1 (Qa 0) Qq) (Qp (Zd Z.k13 (Qa 0) Qq)))))
theorem yP:Has P w K mg base "_law_cell_at" 1 2 JD:=hf Z.u49 VO fun _ _ _ _ _ _ _ hr=>Qh (Zh (Q2 Vv (Qa 1) (ZP uA Z.z0 PySem.boot_len (Qd (Qa 0) Qn)) (QN _)) (Qp (Qs (JP (Qa 0) (Qa 1)))) QJ) (Qp (Qs Qq))
theorem law_fn {g:Addr} {fd:FuncData} (F:Fun K "law" "law" yA g fd):qX P w K mg base CX0 11 g fd ["script"] (spD K 1 K3):=Qgd F sc_law fun _ _ _ _ _ _ hr=>Qh (QF 1 sc_law.nd (QY (yP Z) hr (by decide) Qz (Qd (Qa 0) (Qd Qq Qn)))) (Qh (QF 2 sc_law.nd (QA J1 Qq (QA YF (Qa 1) Qq))) (Qh (QF 3 sc_law.nd (QA J1 Qq (QA YF (QA xf (Qa 1) Qq) Qq))) (Qh (QF 4 sc_law.nd (jR (Yr Z) hr (by decide) Qz (Qd (Qa 3) Qn))) (Qh (QF 5 sc_law.nd (jR (Yr Z) hr (by decide) Qz (Qd (Qa 3) Qn))) (Qh (QF 6 sc_law.nd (jR (zY Z) hr (by decide) Qz (Qd (Qa 5) (Qd (Qa 2) Qn)))) (Qh (QF 7 sc_law.nd (QY (Uc Z) hr (by decide) Qz (Qd (QA xf (Qa 1) Qq) Qn))) (Qh (uI PassesOwn.never rfl (zO (Qa 7)) (Ko 8 sc_law.nd) (Qp (JL (Za (Yw Z) hr (by decide) Qz (Qa 6) (Qd (Qa 8) Qn))))) (Qh (jU 9 sc_law.nd (caps:=[]) (idx:=[]) ⟨by with_unfolding_all rfl,by decide +kernel,rfl,by decide +kernel,rfl,(by exact trivial),by with_unfolding_all rfl,(by exact trivial),by decide⟩ rfl (yk (Ye rfl Z.z11 (Qd (Qa 2) Qn))) (fun _ _ _ _=>zM) (fun _ _ _ _=>ZB)) (Qh (jU 10 sc_law.nd (caps:=[]) (idx:=[]) ⟨by with_unfolding_all rfl,by decide +kernel,rfl,by decide +kernel,rfl,(by exact trivial),by with_unfolding_all rfl,(by exact trivial),by decide⟩ rfl (yk (Ye rfl Z.z11 (Qd (Qa 2) Qn))) (fun _ _ _ _=>zM) (fun _ _ _ _=>Qq)) (Qh (QF 11 sc_law.nd (zK (Qd Qq Qn))) (Qh (Zh (XU (Xh (QY (Y7 Z) hr (by decide) Qz (Qd (Qa 6) (Qd (Qa 4) (Qd (Qa 9) (Qd (Qa 10) (Qd (Qa 7) (Qd (Qa 11) Qn))))))))) (Qp (Qs Xu)) QJ) (Qh (QaP PassesOwn.never rfl (Ye rfl Z.z11 (Qd (ZP JF Z.z0 PySem.boot_len (Qd (Qa 0) Qn)) Qn)) (Ko 12 sc_law.nd) (Qh (Zh (Q2 Vv (Qa 12) Qq (QN _)) (Qh (JL (jq zq PySem.F.plainAttrs_list PySem.F.slot_list_append PySem.F.type_list_append (Qa 7) (Qd (QY (Ku Z) hr (by decide) Qz (Qd (QV (Q4 hr) (Qa 0) (Qa 12)) Qn)) Qn))) (Qp (JL (Za (Yw Z) hr (by decide) Qz (Qa 6) (Qd (QV (Q4 hr) (Qa 7) (vz Qq)) Qn))))) QJ) (Qh (QF 14 sc_law.nd (QA YF (QA xf (QV (Q4 hr) (Qa 0) (Qa 12)) Qq) (Qa 2))) (Qh (Zh (XU (Xh (QY (qy Z 6) hr (by decide) Qz (Qd (Za (qL Z) hr (by decide) Qz (Qa 6) (Qd (Qa 14) Qn)) (Qd (QY (ym Z) hr (by decide) Qz (Qd (Qa 4) (Qd (Qa 9) (Qd (Qa 10) (Qd (Qa 7) (Qd (Qa 11) (Qd (Qa 14) Qn))))))) Qn))))) (Qp (Qs Xu)) QJ) (Qh (QF 15 sc_law.nd (qY (Xf (qN hr.units) (QV (Q4 hr) (Qa 11) Qq) (ZP JF Z.z0 PySem.boot_len (Qd (Qa 7) Qn)) (QN _)) (q8 (Xf (QbD hr.units) (XL (caps:=[]) (idx:=[]) ⟨by with_unfolding_all rfl,by decide +kernel,rfl,by decide +kernel,rfl,(by exact trivial),by with_unfolding_all rfl,(by exact trivial),by decide⟩ rfl (zO (Qa 9)) (fun _ _ _ _=>zN (Q2 Vu (Qa 0) ZB (QN _))) (fun _ _ _ _=>Qa 0)) (xP Qn) (QN _))))) (Qh (Zh (DW.pt (UA (XU (Xh (Yn Z.z3 Z.z5 boot_bool (by decide) (Zn (J6 Z) hr (by decide) Qz (Qa 6))))) (xR (Q2 (UP hr.units) (Zn (J6 Z) hr (by decide) Qz (Qa 6)) (Qa 15) (QN _))))) (Qp (Qs Xu)) QJ) (Qp (Zh (DW.pt (UA (Q2 (UP hr.units) (Zn (Yt Z) hr (by decide) Qz (Qa 5)) (Zn (Yt Z) hr (by decide) Qz (Qa 4)) (QN _)) (xR (Q2 (UP hr.units) (Zn (Yv Z) hr (by decide) Qz (Qa 5)) (Zn (Yv Z) hr (by decide) Qz (Qa 4)) (QN _))))) (Qp (Qs Xu)) QJ)))))))) (Qh (Zh (XU (Xh (QY (Y7 Z) hr (by decide) Qz (Qd (Qa 6) (Qd (Qa 4) (Qd (Qa 9) (Qd (Qa 10) (Qd (Qa 7) (Qd (Qa 11) Qn))))))))) (Qp (Qs Xu)) QJ) (Qh (jU 13 sc_law.nd (caps:=["shelf"]) (idx:=[5]) ⟨by with_unfolding_all rfl,by decide +kernel,rfl,by decide +kernel,rfl,(by exact ⟨rfl,trivial⟩),by with_unfolding_all rfl,(by exact ⟨rfl,.inl rfl,⟨_,rfl⟩,(fun h=>NameKind.noConfusion (Option.some.inj (show some NameKind.cell=some NameKind.local from h))),trivial⟩),by decide⟩ rfl (yk (Ye rfl Z.z11 (Qd (Zn (XV Z) hr (by decide) Qz (Qa 5)) Qn))) (fun _ _ _ _=>zM) (fun _ _ _ _=>Za (Ys Z) hr (by decide) Qz (Qa 1) (Qd (Qa 0) Qn))) (Qp (Qs (qY (Xf (qN hr.units) (Qa 13) (XL (caps:=["beside"]) (idx:=[4]) ⟨by with_unfolding_all rfl,by decide +kernel,rfl,by decide +kernel,rfl,(by exact ⟨rfl,trivial⟩),by with_unfolding_all rfl,(by exact ⟨rfl,.inl rfl,⟨_,rfl⟩,(fun h=>NameKind.noConfusion (Option.some.inj (show some NameKind.cell=some NameKind.local from h))),trivial⟩),by decide⟩ rfl (yk (Ye rfl Z.z11 (Qd (Zn (XV Z) hr (by decide) Qz (Qa 4)) Qn))) (fun _ _ _ _=>zM) (fun _ _ _ _=>Za (Ys Z) hr (by decide) Qz (Qa 1) (Qd (Qa 0) Qn))) (QN _)) (q8 (Xf (qN hr.units) (Zn (Yu Z) hr (by decide) Qz (Qa 5)) (Zn (Yu Z) hr (by decide) Qz (Qa 4)) (QN _))))))))))))))))))))
end
def _root_.PySem.W.Fast.tw16318758035695438699:Nat:=0
def _root_.PySem.W.Fast.tw13294291960667742202:Nat:=0
def _root_.PySem.W.Fast.tw6869366415135667451:Nat:=0
def _root_.PySem.W.Fast.tw16078567296567490088:Nat:=0
def _root_.PySem.W.Fast.tw18184248476481518301:Nat:=0
def _root_.PySem.W.Fast.tw16697443279585706975:Nat:=0
def _root_.PySem.W.Fast.tw1420428226490501435:Nat:=0
def _root_.PySem.W.Fast.tw2252036943967752864:Nat:=0
def _root_.PySem.W.Fast.tw3575987207257423004:Nat:=0
def _root_.PySem.W.Fast.tw17795153103029114014:Nat:=0
def _root_.PySem.W.Fast.tw6593219050614318168:Nat:=0
def _root_.PySem.W.Fast.tw18400407904884343649:Nat:=0
def _root_.PySem.W.Fast.tw18414624692325647518:Nat:=0
def _root_.PySem.W.Fast.tw9297243829649720669:Nat:=0
def _root_.PySem.W.Fast.tw12990376794661319567:Nat:=0
def _root_.PySem.W.Fast.tw13968477029657320904:Nat:=0
def _root_.PySem.W.Fast.tw16160649042809840901:Nat:=0
def _root_.PySem.W.Fast.tw9115795401976308276:Nat:=0
def _root_.PySem.W.Fast.tw2589511835642044599:Nat:=0
def _root_.PySem.W.Fast.tw16587419075968551308:Nat:=0
def _root_.PySem.W.Fast.tw2411149498763300923:Nat:=0
def _root_.PySem.W.Fast.tw14136280343935865248:Nat:=0
def _root_.PySem.W.Fast.tw16589340923891913688:Nat:=0
def _root_.PySem.W.Fast.tw10199951113878327214:Nat:=0
def _root_.PySem.W.Fast.tw18276488888838880942:Nat:=0
def _root_.PySem.W.Fast.tw8535103909854244312:Nat:=0
def _root_.PySem.W.Fast.tw12967519169509195168:Nat:=0
def _root_.PySem.W.Fast.tw17272493013593638174:Nat:=0
def _root_.PySem.W.Fast.tw13986316119703990073:Nat:=0
def _root_.PySem.W.Fast.tw7973079150564469278:Nat:=0
def _root_.PySem.W.Fast.tw14595005927641619331:Nat:=0
def _root_.PySem.W.Fast.tw15178269697981245315:Nat:=0
def _root_.PySem.W.Fast.tw358331811237981025:Nat:=0
def _root_.PySem.W.Fast.tw1723301151666090958:Nat:=0
def _root_.PySem.W.Fast.tw11629561490622926867:Nat:=0
def _root_.PySem.W.Fast.tw15473785632815208398:Nat:=0
def _root_.PySem.W.Fast.tw3246869810228373299:Nat:=0
def _root_.PySem.W.Fast.tw11402865030153061860:Nat:=0
def _root_.PySem.W.Fast.tw13650054970449210718:Nat:=0
def _root_.PySem.W.Fast.tw5374055390186998134:Nat:=0
def _root_.PySem.W.Fast.tw10083535242012949352:Nat:=0
def _root_.PySem.W.Fast.tw8713533057013602629:Nat:=0
def _root_.PySem.W.Fast.tw3926531280784057591:Nat:=0
def _root_.PySem.W.Fast.tw17013554490862558088:Nat:=0
def _root_.PySem.W.Fast.tw421953423151457855:Nat:=0
def _root_.PySem.W.Fast.tw1183883162753782287:Nat:=0
def _root_.PySem.W.Fast.tw10647377549485159611:Nat:=0
def _root_.PySem.W.Fast.tw14630613837056687413:Nat:=0
def _root_.PySem.W.Fast.tw3582906376470931423:Nat:=0
def _root_.PySem.W.Fast.tw11938236612941979406:Nat:=0
def _root_.PySem.W.Fast.tw1891950942636566802:Nat:=0
def _root_.PySem.W.Fast.tw3714491316497838868:Nat:=0
def _root_.PySem.W.Fast.tw16548663136225403805:Nat:=0
def _root_.PySem.W.Fast.tw13123774215226347739:Nat:=0
def _root_.PySem.W.Fast.tw7279037802861594325:Nat:=0
def _root_.PySem.W.Fast.tw5424070548137554169:Nat:=0
def _root_.PySem.W.Fast.tw2621094229238579618:Nat:=0
def _root_.PySem.W.Fast.tw2092444588875912708:Nat:=0
def _root_.PySem.W.Fast.tw8838039014066204707:Nat:=0
def _root_.PySem.W.Fast.tw1574197542540591023:Nat:=0
def _root_.PySem.W.Fast.tw4042084334592162114:Nat:=0
def _root_.PySem.W.Fast.tw2648934065892660265:Nat:=0
def _root_.PySem.W.Fast.tw3422393469974037896:Nat:=0
def _root_.PySem.W.Fast.tw7572909376216265635:Nat:=0
def _root_.PySem.W.Fast.tw3777981015260399638:Nat:=0
def _root_.PySem.W.Fast.tw10752807730267185245:Nat:=0
def _root_.PySem.W.Fast.tw784772469605535267:Nat:=0
def _root_.PySem.W.Fast.tw17001024028056971814:Nat:=0
def _root_.PySem.W.Fast.tw16153658399617242129:Nat:=0
def _root_.PySem.W.Fast.tw8903874984983493386:Nat:=0
def _root_.PySem.W.Fast.tw14457876101036339679:Nat:=0
def _root_.PySem.W.Fast.tw14830755760247815804:Nat:=0
def _root_.PySem.W.Fast.tw6669233810673696174:Nat:=0
def _root_.PySem.W.Fast.tw2546475785414356346:Nat:=0
def _root_.PySem.W.Fast.tw13366924346542599142:Nat:=0
def _root_.PySem.W.Fast.tw7603742253856120766:Nat:=0
def _root_.PySem.W.Fast.tw2315019516741325347:Nat:=0
def _root_.PySem.W.Fast.tw6723376021193162599:Nat:=0
def _root_.PySem.W.Fast.tw8153118632812853201:Nat:=0
def _root_.PySem.W.Fast.tw7062583145955727328:Nat:=0
def _root_.PySem.W.Fast.tw10956968320482229593:Nat:=0
def _root_.PySem.W.Fast.tw5754757766736153787:Nat:=0
def _root_.PySem.W.Fast.tw11144078799966247384:Nat:=0
def _root_.PySem.W.Fast.tw15824151338225177013:Nat:=0
def _root_.PySem.W.Fast.tw9148583112343379867:Nat:=0
def _root_.PySem.W.Fast.tw13550184712976019560:Nat:=0
def _root_.PySem.W.Fast.tw17904767312049538524:Nat:=0
def _root_.PySem.W.Fast.tw3378594918571812399:Nat:=0
def _root_.PySem.W.Fast.tw9547789528511905534:Nat:=0
def _root_.PySem.W.Fast.tw12542191993123349553:Nat:=0
def _root_.PySem.W.Fast.tw7273859381087025164:Nat:=0
def _root_.PySem.W.Fast.tw18014249885746092032:Nat:=0
def _root_.PySem.W.Fast.tw70713324842975749:Nat:=0
def _root_.PySem.W.Fast.tw15995011029994141468:Nat:=0
def _root_.PySem.W.Fast.tw4435717397673088456:Nat:=0
def _root_.PySem.W.Fast.tw4148764724449482345:Nat:=0
def _root_.PySem.W.Fast.tw7539158956514295894:Nat:=0
def _root_.PySem.W.Fast.tw4277187699688101386:Nat:=0
def _root_.PySem.W.Fast.tw7511347249140285458:Nat:=0
def _root_.PySem.W.Fast.tw8710764738872420095:Nat:=0
def _root_.PySem.W.Fast.tw3435913993004709467:Nat:=0
def _root_.PySem.W.Fast.tw6532522802648147927:Nat:=0
def _root_.PySem.W.Fast.tw16069490528590697491:Nat:=0
def _root_.PySem.W.Fast.tw16617319523074734587:Nat:=0
def _root_.PySem.W.Fast.tw7841159534499303104:Nat:=0
def _root_.PySem.W.Fast.tw12952150215838462852:Nat:=0
def _root_.PySem.W.Fast.tw16187225672190451855:Nat:=0
def _root_.PySem.W.Fast.tw892643734993825394:Nat:=0
def _root_.PySem.W.Fast.tw581361819737260815:Nat:=0
def _root_.PySem.W.Fast.tw16200721524052725277:Nat:=0
def _root_.PySem.W.Fast.tw8520254507664035866:Nat:=0
def _root_.PySem.W.Fast.tw7499288728818357488:Nat:=0
def _root_.PySem.W.Fast.tw9219607271075882154:Nat:=0
def _root_.PySem.W.Fast.tw11762235885703780156:Nat:=0
def _root_.PySem.W.Fast.tw12912163718839994750:Nat:=0
def _root_.PySem.W.Fast.tw16394356658366516209:Nat:=0
def _root_.PySem.W.Fast.tw3333018611172314586:Nat:=0
def _root_.PySem.W.Fast.tw2974856157302530428:Nat:=0
def _root_.PySem.W.Fast.tw10094801147290313812:Nat:=0
def _root_.PySem.W.Fast.tw16370279992929871675:Nat:=0
def _root_.PySem.W.Fast.tw6531739190170361025:Nat:=0
def _root_.PySem.W.Fast.tw5247792973320556686:Nat:=0
def _root_.PySem.W.Fast.tw4722225236909240724:Nat:=0
def _root_.PySem.W.Fast.tw17442615001313265572:Nat:=0
def _root_.PySem.W.Fast.tw6969723670989309934:Nat:=0
def _root_.PySem.W.Fast.tw10269102544508076026:Nat:=0
def _root_.PySem.W.Fast.tw9795596051412819491:Nat:=0
def _root_.PySem.W.Fast.tw13615976245171140330:Nat:=0
def _root_.PySem.W.Fast.tw14233505779418999179:Nat:=0
def _root_.PySem.W.Fast.tw2193820823635233012:Nat:=0
def _root_.PySem.W.Fast.tw8036204380391159083:Nat:=0
def _root_.PySem.W.Fast.tw12978460127221509534:Nat:=0
def _root_.PySem.W.Fast.tw6385282850003178911:Nat:=0
def _root_.PySem.W.Fast.tw15126012858725977270:Nat:=0
def _root_.PySem.W.Fast.tw14569052968434000986:Nat:=0
def _root_.PySem.W.Fast.tw15206434640401200901:Nat:=0
def _root_.PySem.W.Fast.tw1169387632385316960:Nat:=0
def _root_.PySem.W.Fast.tw15153107756964612290:Nat:=0
def _root_.PySem.W.Fast.tw14064332172288194439:Nat:=0
def _root_.PySem.W.Fast.tw11610020493903242107:Nat:=0
def _root_.PySem.W.Fast.tw7502936676758541703:Nat:=0
def _root_.PySem.W.Fast.tw16617209841658656174:Nat:=0
def _root_.PySem.W.Fast.tw11191932712702978136:Nat:=0
def _root_.PySem.W.Fast.tw11177065400508678165:Nat:=0
def _root_.PySem.W.Fast.tw5534112094995127311:Nat:=0
def _root_.PySem.W.Fast.tw12616091455594767088:Nat:=0
def _root_.PySem.W.Fast.tw11298421402208803782:Nat:=0
def _root_.PySem.W.Fast.tw2355654105162454657:Nat:=0
def _root_.PySem.W.Fast.tw14382082732287634889:Nat:=0
def _root_.PySem.W.Fast.tw6245777934601068833:Nat:=0
def _root_.PySem.W.Fast.tw14094917110991454336:Nat:=0
def _root_.PySem.W.Fast.tw11370874990990625961:Nat:=0
def _root_.PySem.W.Fast.tw3058116089017457764:Nat:=0
def _root_.PySem.W.Fast.tw8810734687733046057:Nat:=0
def _root_.PySem.W.Fast.tw12229075609606464103:Nat:=0
def _root_.PySem.W.Fast.tw16028630919532672649:Nat:=0
def _root_.PySem.W.Fast.tw7209895172813156841:Nat:=0
def _root_.PySem.W.Fast.tw13343906766264862762:Nat:=0
def _root_.PySem.W.Fast.tw2768878113426851179:Nat:=0
def _root_.PySem.W.Fast.tw11446935305963918897:Nat:=0
def _root_.PySem.W.Fast.tw9808682721223945176:Nat:=0
def _root_.PySem.W.Fast.tw526762944177647329:Nat:=0
def _root_.PySem.W.Fast.tw7504088174644061201:Nat:=0
def _root_.PySem.W.Fast.tw6018839432883088032:Nat:=0
def _root_.PySem.W.Fast.tw12867142802612874583:Nat:=0
def _root_.PySem.W.Fast.tw15411776202873321605:Nat:=0
def _root_.PySem.W.Fast.tw16635880600704708762:Nat:=0
def _root_.PySem.W.Fast.tw14957250378680520035:Nat:=0
def _root_.PySem.W.Fast.tw3932428941746530242:Nat:=0
def _root_.PySem.W.Fast.tw8223677500154521016:Nat:=0
def _root_.PySem.W.Fast.tw16455627340073594043:Nat:=0
def _root_.PySem.W.Fast.tw15723870774366543937:Nat:=0
def _root_.PySem.W.Fast.tw5762654460167883796:Nat:=0
def _root_.PySem.W.Fast.tw9830771170951049242:Nat:=0
def _root_.PySem.W.Fast.tw2180007268184239843:Nat:=0
def _root_.PySem.W.Fast.tw14994374609130733631:Nat:=0
def _root_.PySem.W.Fast.tw14726515414431077450:Nat:=0
def _root_.PySem.W.Fast.tw10095291738499559319:Nat:=0
def _root_.PySem.W.Fast.tw17494162806022335092:Nat:=0
def _root_.PySem.W.Fast.tw13948484101385529311:Nat:=0
def _root_.PySem.W.Fast.tw14075109026851551392:Nat:=0
def _root_.PySem.W.Fast.tw8830607684137026297:Nat:=0
def _root_.PySem.W.Fast.tw9441919457418626963:Nat:=0
def _root_.PySem.W.Fast.tw7111203370442984079:Nat:=0
def _root_.PySem.W.Fast.tw1472132657046862852:Nat:=0
def _root_.PySem.W.Fast.tw13971373238822261691:Nat:=0
def _root_.PySem.W.Fast.tw17118516505332645814:Nat:=0
def _root_.PySem.W.Fast.tw6557756865881380210:Nat:=0
def _root_.PySem.W.Fast.tw17957108057913081483:Nat:=0
def _root_.PySem.W.Fast.tw352386975812548299:Nat:=0
def _root_.PySem.W.Fast.tw4598155909271390912:Nat:=0
def _root_.PySem.W.Fast.tw10427993725227826215:Nat:=0
def _root_.PySem.W.Fast.tw5782623676935404633:Nat:=0
def shF (r:Int) (k:Nat) (t a b:Int):List (Str×DV):=[("page_room", .int r),("kept", .ref k),("top", .int t),("read_count", .int a),("write_count", .int b)]
theorem Qca (r:Int) (k:Nat) (t a b:Int):List.lookup ("page_room" : Str) (shF r k t a b)=some (DV.int r):=by rfl
theorem qj (r:Int) (k:Nat) (t a b:Int):List.lookup ("kept" : Str) (shF r k t a b)=some (DV.ref k):=by rfl
theorem gD (r:Int) (k:Nat) (t a b:Int):List.lookup ("top" : Str) (shF r k t a b)=some (DV.int t):=by rfl
theorem Qcb (r:Int) (k:Nat) (t a b:Int):List.lookup ("write_count" : Str) (shF r k t a b)=some (DV.int b):=by rfl
theorem Qef (r:Int) (k:Nat) (t a b:Int):List.lookup ("read_count" : Str) (shF r k t a b)=some (DV.int a):=by rfl
theorem GZ (r:Int) (k:Nat) (t a b c:Int):JR ("write_count" : Str) (.int c) (shF r k t a b)=shF r k t a c:=by rfl
theorem Qb8 (r:Int) (k:Nat) (t a b c:Int):JR ("read_count" : Str) (.int c) (shF r k t a b)=shF r k t c b:=by rfl
theorem Qb9 (r:Int) (k:Nat) (t a b c:Int):JR ("top" : Str) (.int c) (shF r k t a b)=shF r k c a b:=by rfl
theorem yX (r:Int) (k:Nat) (t a b:Int):(shF r k t a b).length=5:=rfl
theorem yf (r:Int) (k:Nat) (t a b:Int):List.lookup ("check_number" : Str) (shF r k t a b)=none:=by rfl
theorem U2 (r:Int) (k:Nat) (t a b:Int):List.lookup ("lay" : Str) (shF r k t a b)=none:=by rfl
theorem VQ (r:Int) (k:Nat) (t a b:Int):List.lookup ("read" : Str) (shF r k t a b)=none:=by rfl
theorem zD (r:Int) (k:Nat) (t a b:Int):List.lookup ("write" : Str) (shF r k t a b)=none:=by rfl
theorem jC (r:Int) (k:Nat) (t a b:Int):List.lookup ("root" : Str) (shF r k t a b)=none:=by rfl
theorem GW (r:Int) (k:Nat) (t a b:Int):List.lookup ("raise_root" : Str) (shF r k t a b)=none:=by rfl
theorem Qb7 (r:Int) (k:Nat) (t a b:Int):List.lookup ("room" : Str) (shF r k t a b)=none:=by rfl
theorem yF (r:Int) (k:Nat) (t a b:Int):List.lookup ("pages" : Str) (shF r k t a b)=none:=by rfl
theorem GX (r:Int) (k:Nat) (t a b:Int):List.lookup ("readings" : Str) (shF r k t a b)=none:=by rfl
theorem GY (r:Int) (k:Nat) (t a b:Int):List.lookup ("writings" : Str) (shF r k t a b)=none:=by rfl
section
variable {r t a b:Int} {n k:Nat} {ps:List DV} {hp:Hs}
theorem GH (h1:hp[n]?=some (.ins "Shelf" (shF r k t a b))) (h2:hp[k]?=some (.lst ps)):ZW [.ref n] hp=some (.int ps.length,hp):=by
 simp [ZW,jb,Q5,Qr,QC,QE,qc,sIf,Zb,yb,jS,x9,ya,Ql,Qb,eC,eB,asB,Yo,eOr,Jy,Jm,xT,Yp,eIf,X6,Qm,Qc,Zu,XA,QG,Zw,Qw,gN,Z7,Ju,Ji,Jk,JB,Jz,Jq,YG,Y8,x8,ZQ,JX,ZN,Q1,Xw,VA,Xp,gSb,zt,JZ,Xv,Qx,zg,zC,onI,onL,onD,Zo,Xk,zp,XZ,ixG,Z5,YS,qG,X8,qS,asI,Yk,VV,Qu,Jn,J0,Xj,ze,evP,Jr,Xm,Jt,JS,Js,Xl,Xo,Xn,Ze,QI,Z1,h1,h2,qj]
theorem KM (h1:hp[n]?=some (.ins "Shelf" (shF r k t a b))):ZE [.ref n] hp=some (.int t,hp):=by
 simp [ZE,jL,Q5,Qr,QC,QE,qc,sIf,Zb,yb,jS,x9,ya,Ql,Qb,eC,eB,asB,Yo,eOr,Jy,Jm,xT,Yp,eIf,X6,Qm,Qc,Zu,XA,QG,Zw,Qw,gN,Z7,Ju,Ji,Jk,JB,Jz,Jq,YG,Y8,x8,ZQ,JX,ZN,Q1,Xw,VA,Xp,gSb,zt,JZ,Xv,Qx,zg,zC,onI,onL,onD,Zo,Xk,zp,XZ,ixG,Z5,YS,qG,X8,qS,asI,Yk,VV,Qu,Jn,J0,Xj,ze,evP,Jr,Xm,Jt,JS,Js,Xl,Xo,Xn,Ze,QI,Z1,h1,gD]
theorem QdC (h1:hp[n]?=some (.ins "Shelf" (shF r k t a b))):Jw [.ref n] hp=some (.int r,hp):=by
 simp [Jw,jK,Q5,Qr,QC,QE,qc,sIf,Zb,yb,jS,x9,ya,Ql,Qb,eC,eB,asB,Yo,eOr,Jy,Jm,xT,Yp,eIf,X6,Qm,Qc,Zu,XA,QG,Zw,Qw,gN,Z7,Ju,Ji,Jk,JB,Jz,Jq,YG,Y8,x8,ZQ,JX,ZN,Q1,Xw,VA,Xp,gSb,zt,JZ,Xv,Qx,zg,zC,onI,onL,onD,Zo,Xk,zp,XZ,ixG,Z5,YS,qG,X8,qS,asI,Yk,VV,Qu,Jn,J0,Xj,ze,evP,Jr,Xm,Jt,JS,Js,Xl,Xo,Xn,Ze,QI,Z1,h1,Qca]
theorem yu (h1:hp[n]?=some (.ins "Shelf" (shF r k t a b))):Zy [.ref n] hp=some (.int a,hp):=by
 simp [Zy,Y5,Q5,Qr,QC,QE,qc,sIf,Zb,yb,jS,x9,ya,Ql,Qb,eC,eB,asB,Yo,eOr,Jy,Jm,xT,Yp,eIf,X6,Qm,Qc,Zu,XA,QG,Zw,Qw,gN,Z7,Ju,Ji,Jk,JB,Jz,Jq,YG,Y8,x8,ZQ,JX,ZN,Q1,Xw,VA,Xp,gSb,zt,JZ,Xv,Qx,zg,zC,onI,onL,onD,Zo,Xk,zp,XZ,ixG,Z5,YS,qG,X8,qS,asI,Yk,VV,Qu,Jn,J0,Xj,ze,evP,Jr,Xm,Jt,JS,Js,Xl,Xo,Xn,Ze,QI,Z1,h1,Qef]
theorem yI (h1:hp[n]?=some (.ins "Shelf" (shF r k t a b))):Zz [.ref n] hp=some (.int b,hp):=by
 simp [Zz,Y6,Q5,Qr,QC,QE,qc,sIf,Zb,yb,jS,x9,ya,Ql,Qb,eC,eB,asB,Yo,eOr,Jy,Jm,xT,Yp,eIf,X6,Qm,Qc,Zu,XA,QG,Zw,Qw,gN,Z7,Ju,Ji,Jk,JB,Jz,Jq,YG,Y8,x8,ZQ,JX,ZN,Q1,Xw,VA,Xp,gSb,zt,JZ,Xv,Qx,zg,zC,onI,onL,onD,Zo,Xk,zp,XZ,ixG,Z5,YS,qG,X8,qS,asI,Yk,VV,Qu,Jn,J0,Xj,ze,evP,Jr,Xm,Jt,JS,Js,Xl,Xo,Xn,Ze,QI,Z1,h1,Qcb]
theorem Va {i:Int} (h1:hp[n]?=some (.ins "Shelf" (shF r k t a b))) (h2:hp[k]?=some (.lst ps)) (i0:0<=i) (i1:i < ps.length) :
  Zm [.ref n,.int i] hp=some (.non,hp):=by
 have q0:¬ i < 0:=by omega
 have q1:¬ (ps.length:Int)<=i:=by omega
 simp [Zm,XI,Q5,Qr,QC,QE,qc,sIf,Zb,yb,jS,x9,ya,Ql,Qb,eC,eB,asB,Yo,eOr,Jy,Jm,xT,Yp,eIf,X6,Qm,Qc,Zu,XA,QG,Zw,Qw,gN,Z7,Ju,Ji,Jk,JB,Jz,Jq,YG,Y8,x8,ZQ,JX,ZN,Q1,Xw,VA,Xp,gSb,zt,JZ,Xv,Qx,zg,zC,onI,onL,onD,Zo,Xk,zp,XZ,ixG,Z5,YS,qG,X8,qS,asI,Yk,VV,Qu,Jn,J0,Xj,ze,evP,Jr,Xm,Jt,JS,Js,Xl,Xo,Xn,Ze,QI,Z1,Xi,h1,h2,qj,i0,i1,q0,q1]
theorem gq {i:Nat} {d:DV} (h1:hp[n]?=some (.ins "Shelf" (shF r k t a b))) (h2:hp[k]?=some (.lst ps)) (hnk:n≠k) (hd:ps[i]?=some d) :
  Zs [.ref n,.int i] hp=some (d,hp.set n (.ins "Shelf" (shF r k t (a+1) b))):=by
 have i1:i < ps.length:=(List.getElem?_eq_some_iff.mp hd).1
 have c:=Va (i:=(i:Int)) h1 h2 (by omega) (by omega)
 have hd':=qt hd
 simp [Zs,jJ,Q5,Qr,QC,QE,qc,sIf,Zb,yb,jS,x9,ya,Ql,Qb,eC,eB,asB,Yo,eOr,Jy,Jm,xT,Yp,eIf,X6,Qm,Qc,Zu,XA,QG,Zw,Qw,gN,Z7,Ju,Ji,Jk,JB,Jz,Jq,YG,Y8,x8,ZQ,JX,ZN,Q1,Xw,VA,Xp,gSb,zt,JZ,Xv,Qx,zg,zC,onI,onL,onD,Zo,Xk,zp,XZ,ixG,Z5,YS,qG,X8,qS,asI,Yk,VV,Qu,Jn,J0,Xj,ze,evP,Jr,Xm,Jt,JS,Js,Xl,Xo,Xn,Ze,QI,Z1,h1,h2,c,qj,Qef,Qb8,yX,yf,hd',hnk,hnk.symm]
theorem V1 {i:Nat} {d:DV} (h1:hp[n]?=some (.ins "Shelf" (shF r k t a b))) (h2:hp[k]?=some (.lst ps)) (hnk:n≠k) (i1:i < ps.length) :
  JC [.ref n,.int i,d] hp=some (.non,(hp.set n (.ins "Shelf" (shF r k t a (b+1)))).set k (.lst (ps.set i d))):=by
 have c:=Va (i:=(i:Int)) h1 h2 (by omega) (by omega)
 simp [JC,jc,Q5,Qr,QC,QE,qc,sIf,Zb,yb,jS,x9,ya,Ql,Qb,eC,eB,asB,Yo,eOr,Jy,Jm,xT,Yp,eIf,X6,Qm,Qc,Zu,XA,QG,Zw,Qw,gN,Z7,Ju,Ji,Jk,JB,Jz,Jq,YG,Y8,x8,ZQ,JX,ZN,Q1,Xw,VA,Xp,gSb,zt,JZ,Xv,Qx,zg,zC,onI,onL,onD,Zo,Xk,zp,XZ,ixG,Z5,YS,qG,X8,qS,asI,Yk,VV,Qu,Jn,J0,Xj,ze,evP,Jr,Xm,Jt,JS,Js,Xl,Xo,Xn,Ze,QI,Z1,h1,h2,c,qj,Qcb,GZ,yX,yf,hnk,hnk.symm,uU i1]
theorem Qbi {pg:DV} (h1:hp[n]?=some (.ins "Shelf" (shF r k t a b))) (h2:hp[k]?=some (.lst ps)) (hnk:n≠k) (hl:ps.length < 99999) :
  XH [.ref n,pg] hp=some (.int ps.length,(hp.set n (.ins "Shelf" (shF r k t a (b+1)))).set k (.lst (ps++[pg]))):=by
 have hlim:ps.length < lim:=by unfold lim;omega
 simp [XH,yi,Q5,Qr,QC,QE,qc,sIf,Zb,yb,jS,x9,ya,Ql,Qb,eC,eB,asB,Yo,eOr,Jy,Jm,xT,Yp,eIf,X6,Qm,Qc,Zu,XA,QG,Zw,Qw,gN,Z7,Ju,Ji,Jk,JB,Jz,Jq,YG,Y8,x8,ZQ,JX,ZN,Q1,Xw,VA,Xp,gSb,zt,JZ,Xv,Qx,zg,zC,onI,onL,onD,Zo,Xk,zp,XZ,ixG,Z5,YS,qG,X8,qS,asI,Yk,VV,Qu,Jn,J0,Xj,ze,evP,Jr,Xm,Jt,JS,Js,Xl,Xo,Xn,Ze,QI,Z1,h1,h2,qj,Qcb,GZ,yX,hlim,hnk,hnk.symm]
end
def Zi (l:Int) (ks ps:List Int) (hi sd:Option Int):DV:=.tup [.int l,.tup (ks.map .int),.tup (ps.map .int),opt hi,opt sd]
def hiB (hi:Option Int) (k:Int):Bool:=match hi with
 | none=>false
 | some h=>decide (h<=k)
def cLe (ks:List Int) (k:Int):Nat:=(ks.filter fun x=>decide (x<=k)).length
def cLt (ks:List Int) (k:Int):Nat:=(ks.filter fun x=>decide (x < k)).length
theorem Xz (ks:List Int) (k:Int):cLe ks k<=ks.length:=List.length_filter_le _ _
theorem xM (ks:List Int) (k:Int):cLt ks k<=ks.length:=List.length_filter_le _ _
theorem QfG {f:DEx} {env:En} {hp:Hs} {ds:List DV} (hf:f env hp=some (.tup ds,hp)):iTp f env hp=some (ds,hp):=by
 unfold iTp;rw [Qg hf];rfl
theorem QaG {t:DTx} {p:Int->Bool} (ks:List Int) (k:Int) (hl:ks.length<=100) (ht:∀ x hp,t [.val (.int x),.val (.int k)] hp=some (p x,hp)) (hp:Hs):Zw Z5 (Qc (Zp false (xOf (iTp (Qb 0))) [1] t (Qb 0)) Qm) [.val (.tup (ks.map .int)),.val (.int k)] hp=some (.int (ks.filter p).length,hp):=by
 have q:Zp false (xOf (iTp (Qb 0))) [1] t (Qb 0) [.val (.tup (ks.map .int)),.val (.int k)] hp=some (.lst (((ks.filter p).map fun x=>x).map .int),hp):=by
  unfold Zp
  rw [Qg (K1 (QfG (ds:=ks.map .int) (Qe rfl)))]
  exact (Qg (vv (p:=p) (g:=fun x=>x) ks (fun i hi=>jw (ks.map .int) i (by rw [List.length_map];exact hi) hp) (fun x=>ht x hp) (fun x=>rfl) (by omega))).trans rfl
 rw [Ym (ZD q) (Qbl ..),List.length_map,List.length_map]
theorem Km (ks:List Int) (k:Int) (hl:ks.length<=100):Zt [.tup (ks.map .int),.int k]=pure (.int (cLe ks k)):=uy fun hp=>Qy (env:=[.val (.tup (ks.map .int)),.val (.int k)]) (QB (QaG ks k hl (fun _ _=>rfl) hp))
theorem Qd0 (ks:List Int) (k:Int) (hl:ks.length<=100):XE [.tup (ks.map .int),.int k]=pure (.int (cLt ks k)):=uy fun hp=>Qy (env:=[.val (.tup (ks.map .int)),.val (.int k)]) (QB (QaG ks k hl (fun _ _=>rfl) hp))
theorem kn (l:Int) (ks ps:List Int) (hi sd:Option Int) (k:Int):YV [Zi l ks ps hi sd,.int k]=pure (.bl (hiB hi k)):=by
 cases hi<;>rfl
theorem QeI (l:Int) (ks ps:List Int) (hi sd:Option Int) (k:Int) (hl:ks.length<=100) (hp:ps.length=ks.length+1):YW [Zi l ks ps hi sd,.int k]=pure (.int (ps.getD (cLe ks k) 0)):=by
 have h:=Xz ks k
 have a:=Kj ps (i:=(cLe ks k:Int)) (by omega) (by omega)
 rw [Int.toNat_natCast] at a
 refine YH (Ya (zP (x:=.tup (ps.map .int)) (y:=.int (cLe ks k)) rfl (xS (x:=.tup (ks.map .int)) (y:=.int k) rfl rfl (Km ks k hl)) ?_))<;>try exact []
 simp [ixD,a]
theorem Qcr (l:Int) (ks ps:List Int) (hi sd:Option Int) (k:Int) (hl:ks.length<=100) (hp:ps.length=ks.length):J8 [Zi l ks ps hi sd,.int k]=pure (if cLt ks k=cLe ks k then .non else .int (ps.getD (cLt ks k) 0)):=by
 have h:=Xz ks k
 have hlt:=xM ks k
 refine YH (env:=[.val (Zi l ks ps hi sd),.val (.int k),.val (.tup (ks.map .int)),.val (.int (cLt ks k))]) ?_
 refine (ZT (Z2 (d:=.tup (ks.map .int)) rfl)).trans ?_
 refine (ZT (Z2 (d:=.int (cLt ks k)) (xS (x:=.tup (ks.map .int)) (y:=.int k) rfl rfl (Qd0 ks k hl)))).trans ?_
 have tst:eB (Ql eqD (Qb 3) (QG 2 Zt (Qc (Qb 2) (Qc (Qb 1) Qm)))) [.val (Zi l ks ps hi sd),.val (.int k),.val (.tup (ks.map .int)),.val (.int (cLt ks k))]=pure (decide (cLt ks k=cLe ks k)):=by
  refine Qf9 (zP (x:=.int (cLt ks k)) (y:=.int (cLe ks k)) rfl (xS (x:=.tup (ks.map .int)) (y:=.int k) rfl rfl (Km ks k hl)) ?_)
  rw [ZQ]
  congr 2
  rw [Bool.eq_iff_iff];simp only [beq_iff_eq,decide_eq_true_eq];omega
 by_cases hc:cLt ks k=cLe ks k
 ·rw [if_pos hc]
  exact QdF ((QgH (tst.trans (by simp [hc]))).trans (Ya rfl))
 ·rw [if_neg hc]
  refine (ZT ((QgG (tst.trans (by simp [hc]))).trans rfl)).trans ?_
  have hlt2:cLt ks k < ks.length:=by
   have:cLt ks k<=cLe ks k:=by
    unfold cLt cLe
    rw [<- List.countP_eq_length_filter,<- List.countP_eq_length_filter]
    exact List.countP_mono_left fun x _ hx=>by simp at hx ⊢;omega
   omega
  have a:=Kj ps (i:=(cLt ks k:Int)) (by omega) (by omega)
  rw [Int.toNat_natCast] at a
  exact Ya (zP (x:=.tup (ps.map .int)) (y:=.int (cLt ks k)) rfl rfl (by simp [ixD,a]))
theorem QaV {F:List DV->M DV} {f f' f'' f3:DEx} {env:En} {x y z u d:DV} (h:f env=pure x) (h':f' env=pure y) (h'':f'' env=pure z) (h3:f3 env=pure u) (hF:F [x,y,z,u]=pure d):QG 4 F (Qc f (Qc f' (Qc f'' (Qc f3 Qm)))) env=pure d:=by simp [QG,Qc,Qm,h,h',h'',h3,Qw,hF]
theorem yv (l:Int) (ks ps:List Int) (hi sd:Option Int) (a b:DV):qp [Zi l ks ps hi sd,a,b]=pure (.tup [.int l,a,b,opt hi,opt sd]):=rfl
theorem QdD (ks ns:List Int) (a b:Nat) (h:ks.length<=1000) (hn:ns.length<=10):(do let x <- slD (.tup (ks.map .int)) none (some (a:Int));let y <- Ja x (.tup (ns.map .int));let d <- slD (.tup (ks.map .int)) (some (b:Int)) none;Ja y d:M DV)=pure (.tup ((ks.take a++ns++ks.drop b).map .int)):=by
 rw [VS,VR]
 simp only [pure_bind,Ja]
 rw [Yf (by simp;omega)]
 simp only [Qw,if_true,pure_bind]
 rw [Yf (by simp;omega)]
 simp [List.map_take,List.map_drop]
theorem Qd6 {f g h q:DEx} {env:En} {ks ns:List Int} {a b:Nat} (hf:f env=pure (.tup (ks.map .int))) (hg:g env=pure (.int (a:Int))) (hh:h env=pure (.int (b:Int))) (hq:q env=pure (.tup (ns.map .int))) (hl:ks.length<=1000) (hn:ns.length<=10):Ql Ja (Ql Ja (eSl f ZJ (ZK g)) q) (eSl f (ZK h) ZJ) env=pure (.tup ((ks.take a++ns++ks.drop b).map .int)):=by
 have e1:eSl f ZJ (ZK g) env=slD (.tup (ks.map .int)) none (some (a:Int)):=by simp only [eSl,hf,hg,ZJ,ZK,asI,pure_bind]
 have e2:eSl f (ZK h) ZJ env=slD (.tup (ks.map .int)) (some (b:Int)) none:=by simp only [eSl,hf,hh,ZJ,ZK,asI,pure_bind]
 rw [<- QdD ks ns a b hl hn]
 simp only [Ql,e1,e2,hq,pure_bind,bind_assoc]
theorem yH (l:Int) (ks ps nk nw:List Int) (hi sd:Option Int) (k:Int) (hl:ks.length<=100) (hp:ps.length<=100) (h1:nk.length<=10) (h2:nw.length<=10):qr [Zi l ks ps hi sd,.int k,.tup (nk.map .int),.tup (nw.map .int)]=pure (Zi l (ks.take (cLt ks k)++nk++ks.drop (cLe ks k)) (ps.take (cLt ks k)++nw++ps.drop (cLe ks k)) hi sd):=by
 refine YH (env:=[.val (Zi l ks ps hi sd),.val (.int k),.val (.tup (nk.map .int)),.val (.tup (nw.map .int)),.val (.tup (ks.map .int)),.val (.tup (ps.map .int)),.val (.int (cLt ks k:Int)),.val (.int (cLe ks k:Int))]) ?_
 refine (ZT (Z2 (d:=.tup (ks.map .int)) rfl)).trans ?_
 refine (ZT (Z2 (d:=.tup (ps.map .int)) rfl)).trans ?_
 refine (ZT (Z2 (d:=.int (cLt ks k:Int)) (xS (x:=.tup (ks.map .int)) (y:=.int k) rfl rfl (Qd0 ks k hl)))).trans ?_
 refine (ZT (Z2 (d:=.int (cLe ks k:Int)) (xS (x:=.tup (ks.map .int)) (y:=.int k) rfl rfl (Km ks k hl)))).trans ?_
 exact Ya (QaU (x:=Zi l ks ps hi sd) rfl (Qd6 rfl rfl rfl rfl (by omega) h1) (Qd6 rfl rfl rfl rfl (by omega) h2) (yv l ks ps hi sd _ _))
def vH (ks:List Int) (c:Nat) (k:Int):List Int:=ks.take c++k::ks.drop c
theorem Qfx (ks:List Int) (c:Nat) (k:Int) (h:ks.length<=1000):(do let a <- slD (.tup (ks.map .int)) none (some (c:Int));let b <- Ja a (.tup [.int k]);let d <- slD (.tup (ks.map .int)) (some (c:Int)) none;Ja b d:M DV)=pure (.tup ((vH ks c k).map .int)):=by
 rw [VS,VR]
 simp only [pure_bind,Ja]
 rw [Yf (by simp;omega)]
 simp only [Qw,if_true,pure_bind]
 rw [Yf (by simp;omega)]
 simp [vH,List.map_take,List.map_drop]
theorem uK {f g h:DEx} {env:En} {ks:List Int} {c:Nat} {k:Int} (hf:f env=pure (.tup (ks.map .int))) (hg:g env=pure (.int (c:Int))) (hk:h env=pure (.int k)) (hl:ks.length<=1000):Ql Ja (Ql Ja (eSl f ZJ (ZK g)) (Zu (Qc h Qm))) (eSl f (ZK g) ZJ) env=pure (.tup ((vH ks c k).map .int)):=by
 have e1:eSl f ZJ (ZK g) env=slD (.tup (ks.map .int)) none (some (c:Int)):=by simp only [eSl,hf,hg,ZJ,ZK,asI,pure_bind]
 have e2:eSl f (ZK g) ZJ env=slD (.tup (ks.map .int)) (some (c:Int)) none:=by simp only [eSl,hf,hg,ZJ,ZK,asI,pure_bind]
 have e3:Zu (Qc h Qm) env=pure (.tup [.int k]):=by
  simp only [Zu,Qc,Qm,hk,pure_bind];rfl
 rw [<- Qfx ks c k hl]
 simp only [Ql,e1,e2,e3,pure_bind,bind_assoc]
theorem kR (l:Int) (ks ps:List Int) (hi sd:Option Int) (k kid:Int) (hl:ks.length<=100) (hp:ps.length<=1000):qq [Zi l ks ps hi sd,.int k,.int kid]=pure (Zi l (vH ks (cLe ks k) k) (vH ps (cLe ks k+1) kid) hi sd):=by
 refine YH (env:=[.val (Zi l ks ps hi sd),.val (.int k),.val (.int kid),.val (.tup (ks.map .int)),.val (.tup (ps.map .int)),.val (.int (cLe ks k:Int)),.val (.int ((cLe ks k:Int)+1))]) ?_
 refine (ZT (Z2 (d:=.tup (ks.map .int)) rfl)).trans ?_
 refine (ZT (Z2 (d:=.tup (ps.map .int)) rfl)).trans ?_
 refine (ZT (Z2 (d:=.int (cLe ks k:Int)) (xS (x:=.tup (ks.map .int)) (y:=.int k) rfl rfl (Km ks k hl)))).trans ?_
 refine (ZT (Z2 (d:=.int ((cLe ks k:Int)+1)) rfl)).trans ?_
 refine Ya (QaU (x:=Zi l ks ps hi sd) (y:=.tup ((vH ks (cLe ks k) k).map .int)) (z:=.tup ((vH ps (cLe ks k+1) kid).map .int)) rfl ?_ ?_ (yv l ks ps hi sd _ _))
 ·exact uK rfl rfl rfl (by omega)
 ·exact uK rfl (by show (pure (DV.int ((cLe ks k:Int)+1)):M DV)=_;rw [show ((cLe ks k:Int)+1)=((cLe ks k+1:Nat):Int) by omega]) rfl hp
def Zk (l:Int) (n:Nat):Nat:=if l=0 then n / 2 else n / 2+1
def QbF (l:Int) (ks ps:List Int) (hi sd:Option Int) (num:Int):DV :=
 .tup [Zi l (ks.take (ks.length / 2)) (ps.take (Zk l ks.length)) (some (ks.getD (ks.length / 2) 0)) (some num),Zi l (ks.drop (Zk l ks.length)) (ps.drop (Zk l ks.length)) hi sd,.int (ks.getD (ks.length / 2) 0)]
theorem Qae (l:Int) (ks ps:List Int) (hi sd:Option Int) (num:Int) (h3:3<=ks.length) (hl:ks.length<=100):jF [Zi l ks ps hi sd,.int num]=pure (QbF l ks ps hi sd num):=by
 have hm:((ks.length:Int)) / 2=((ks.length / 2:Nat):Int):=by omega
 have a:=Kj ks (i:=((ks.length / 2:Nat):Int)) (by omega) (by omega)
 rw [Int.toNat_natCast] at a
 have hcut:(if l=0 then DV.int ((ks.length / 2:Nat):Int) else .int (((ks.length / 2:Nat):Int)+1))=.int ((Zk l ks.length:Nat):Int):=by
  unfold Zk
  split<;>simp
 generalize hC:Zk l ks.length=C at hcut
 generalize hK:ks.getD (ks.length / 2) 0=kk at a
 have e7:eIf (eB (Ql eqD (Qb 2) (eC (.int 0)))) (Qb 5) (Ql Ja (Qb 5) (eC (.int 1))) [.val (Zi l ks ps hi sd),.val (.int num),.val (.int l),.val (.tup (ks.map .int)),.val (.tup (ps.map .int)),.val (.int ((ks.length / 2:Nat):Int)),.val (.int kk),.un,.un,.un]=pure (.int (C:Int)):=by
  rw [<- hcut]
  by_cases q:l=0
  ·simp [eIf,eB,Ql,Qb,eC,ZQ,asB,q]
  ·have:(l==0)=false:=by simpa using q
   simp [eIf,eB,Ql,Qb,eC,ZQ,asB,q,this,Z7]
 unfold QbF
 rw [hC,hK]
 refine YH (env:=[.val (Zi l ks ps hi sd),.val (.int num),.val (.int l),.val (.tup (ks.map .int)),.val (.tup (ps.map .int)),.val (.int ((ks.length / 2:Nat):Int)),.val (.int kk),.val (.int (C:Int)),.val (Zi l (ks.take (ks.length / 2)) (ps.take C) (some kk) (some num)),.val (Zi l (ks.drop C) (ps.drop C) hi sd)]) ?_
 refine (ZT (Z2 (d:=.int l) rfl)).trans ?_
 refine (ZT (Z2 (d:=.tup (ks.map .int)) rfl)).trans ?_
 refine (ZT (Z2 (d:=.tup (ps.map .int)) rfl)).trans ?_
 refine (ZT (Z2 (d:=.int ((ks.length / 2:Nat):Int)) ?_)).trans ?_
 ·refine zP (x:=.int (ks.length:Int)) (y:=.int 2) ?_ rfl ((Xg _ 2 (by decide) (by decide)).trans (by rw [hm]))
  show (pure (DV.int ((ks.map DV.int).length:Int)):M DV)=_
  rw [List.length_map]
 refine (ZT (Z2 (d:=.int kk) (zP (x:=.tup (ks.map .int)) (y:=.int ((ks.length / 2:Nat):Int)) rfl rfl (QcV a)))).trans ?_
 refine (ZT (Z2 (d:=.int (C:Int)) e7)).trans ?_
 refine (ZT (Z2 (d:=Zi l (ks.take (ks.length / 2)) (ps.take C) (some kk) (some num)) ?_)).trans ?_
 ·have t1:=Gm (f:=Qb 3) (g:=Qb 5) (env:=[.val (Zi l ks ps hi sd),.val (.int num),.val (.int l),.val (.tup (ks.map .int)),.val (.tup (ps.map .int)),.val (.int ((ks.length / 2:Nat):Int)),.val (.int kk),.val (.int (C:Int)),.un,.un]) (ds:=ks.map .int) (m:=ks.length / 2) rfl rfl
  have t2:=Gm (f:=Qb 4) (g:=Qb 7) (env:=[.val (Zi l ks ps hi sd),.val (.int num),.val (.int l),.val (.tup (ks.map .int)),.val (.tup (ps.map .int)),.val (.int ((ks.length / 2:Nat):Int)),.val (.int kk),.val (.int (C:Int)),.un,.un]) (ds:=ps.map .int) (m:=C) rfl rfl
  simp only [List.set_cons_succ,List.set_cons_zero,List.map_cons,List.map_nil,List.length_cons,List.length_nil,List.cons_append,List.nil_append,List.replicate,Zu,Qc,Qm,t1,t2,pure_bind]
  simp only [Zi,List.map_take,opt]
  rfl
 refine (ZT (Z2 (d:=Zi l (ks.drop C) (ps.drop C) hi sd) ?_)).trans ?_
 ·have t1:=Gk (f:=Qb 3) (g:=Qb 7) (env:=[.val (Zi l ks ps hi sd),.val (.int num),.val (.int l),.val (.tup (ks.map .int)),.val (.tup (ps.map .int)),.val (.int ((ks.length / 2:Nat):Int)),.val (.int kk),.val (.int (C:Int)),.val (Zi l (ks.take (ks.length / 2)) (ps.take C) (some kk) (some num)),.un]) (ds:=ks.map .int) (m:=C) rfl rfl
  have t2:=Gk (f:=Qb 4) (g:=Qb 7) (env:=[.val (Zi l ks ps hi sd),.val (.int num),.val (.int l),.val (.tup (ks.map .int)),.val (.tup (ps.map .int)),.val (.int ((ks.length / 2:Nat):Int)),.val (.int kk),.val (.int (C:Int)),.val (Zi l (ks.take (ks.length / 2)) (ps.take C) (some kk) (some num)),.un]) (ds:=ps.map .int) (m:=C) rfl rfl
  simp only [List.set_cons_succ,List.set_cons_zero,List.map_cons,List.map_nil,List.length_cons,List.length_nil,List.cons_append,List.nil_append,List.replicate,Zu,Qc,Qm,t1,t2,pure_bind]
  simp only [Zi,List.map_drop]
  rfl
 exact Ya rfl
theorem XB (p:TR.Pg):pgD p=Zi p.lv p.ks p.ps p.hi (p.sd.map fun n=>(n:Int)):=by
 unfold pgD Zi;cases p.sd<;>rfl
theorem Qah (p:TR.Pg) (k:Int):YV [pgD p,.int k]=pure (.bl (TR.JU p k)):=by
 rw [XB,kn]
 unfold hiB TR.JU
 cases p.hi<;>rfl
theorem Qff (p:TR.Pg) (k c:Int) (hl:p.ks.length<=100) (hp:p.ps.length=p.ks.length+1) (hc:p.ps[TR.cLe p.ks k]?=some c):YW [pgD p,.int k]=pure (.int c):=by
 rw [XB,QeI _ _ _ _ _ _ hl hp]
 rw [List.getD_eq_getElem?_getD,show p.ps[cLe p.ks k]?=some c from hc];rfl
theorem QbM (p:TR.Pg) (k:Int) (hl:p.ks.length<=100) (hp:p.ps.length=p.ks.length):J8 [pgD p,.int k]=pure (opt (TR.QX p k)):=by
 rw [XB,Qcr _ _ _ _ _ _ hl hp]
 unfold TR.QX
 by_cases h:cLt p.ks k=cLe p.ks k
 ·rw [if_pos h,if_pos (show TR.cLt p.ks k=TR.cLe p.ks k from h)];rfl
 ·rw [if_neg h,if_neg (show ¬ TR.cLt p.ks k=TR.cLe p.ks k from h)]
  have h1:=TR.Kl p.ks k
  have h2:=TR.Xz p.ks k
  have h3:¬ TR.cLt p.ks k=TR.cLe p.ks k:=h
  rw [List.getD_eq_getElem?_getD,show p.ps[cLt p.ks k]?=some (p.ps[TR.cLt p.ks k]'(by omega)) from List.getElem?_eq_getElem _,List.getElem?_eq_getElem (show TR.cLt p.ks k < p.ps.length by omega)];rfl
theorem Qde (p:TR.Pg) (k x:Int) (hl:p.ks.length<=100) (hp:p.ps.length<=100):qW [pgD p,.int k,.int x]=pure (pgD (TR.QZ p k x)):=by
 have e:=yH p.lv p.ks p.ps [k] [x] p.hi (p.sd.map fun n=>(n:Int)) k hl hp (by simp) (by simp)
 rw [XB,XB]
 refine YH (env:=[.val (Zi p.lv p.ks p.ps p.hi (p.sd.map fun n=>(n:Int))),.val (.int k),.val (.int x)]) (Ya (QaV rfl rfl rfl rfl (e.trans ?_)))
 simp [TR.QZ,TR.cLt,TR.cLe,cLt,cLe]
theorem vR (p:TR.Pg) (k:Int) (hl:p.ks.length<=100) (hp:p.ps.length<=100):xI [pgD p,.int k]=pure (pgD (TR.without p k)):=by
 have e:=yH p.lv p.ks p.ps [] [] p.hi (p.sd.map fun n=>(n:Int)) k hl hp (by simp) (by simp)
 rw [XB,XB]
 refine YH (env:=[.val (Zi p.lv p.ks p.ps p.hi (p.sd.map fun n=>(n:Int))),.val (.int k)]) (Ya (QaV rfl rfl rfl rfl (e.trans ?_)))
 simp [TR.without,TR.cLt,TR.cLe,cLt,cLe]
theorem vQ (p:TR.Pg) (k:Int) (c:Nat) (hl:p.ks.length<=100) (hp:p.ps.length<=1000):qq [pgD p,.int k,.int c]=pure (pgD (TR.Zv p k c)):=by
 rw [XB,kR _ _ _ _ _ _ _ hl hp,XB];rfl
theorem Qdd (p:TR.Pg) (room:Nat):Yc [pgD p,.int room]=pure (.bl (decide (room < p.ks.length))):=by
 have e:(decide ((room:Int) < ((p.ks.map DV.int).length:Int)))=decide (room < p.ks.length):=by
  rw [List.length_map];congr 1;rw [eq_iff_iff];omega
 refine YH (env:=[.val (pgD p),.val (.int room)]) (Ya (zP (x:=.int ((p.ks.map DV.int).length:Int)) (y:=.int room) rfl rfl ((Ji _ _).trans ?_)))
 rw [<- e]
theorem Qai (p:TR.Pg) (n:Nat) (h3:3<=p.ks.length) (hl:p.ks.length<=100):jF [pgD p,.int n]=pure (.tup [pgD (TR.Q6 p n),pgD (TR.QU p),.int (TR.Xa p)]):=by
 rw [XB,Qae _ _ _ _ _ _ h3 hl]
 unfold QbF
 rw [XB,XB]
 have hc:Zk p.lv p.ks.length=TR.Zk p:=by
  unfold Zk TR.Zk TR.mid
  by_cases h:p.lv=0
  ·simp [h]
  ·rw [if_neg h,if_neg (by omega)]
 rw [hc];rfl
structure At (hp:Hs) (n k a f q:Nat) (S:TR.Sh) (w:TR.Wk):Prop where
 h1:hp[n]?=some (.ins "Shelf" (shF S.room k S.top S.rd S.wr))
 h2:hp[k]?=some (.lst (S.pg.map pgD))
 h3:hp[a]?=some (wkO n f q w)
 h4:hp[f]?=some (.dic (fkD w.forks))
 h5:hp[q]?=some (.lst (prD w.pairs))
structure Dif (n k a f q:Nat):Prop where
 nk:n≠k
 na:n≠a
 nf:n≠f
 nq:n≠q
 ka:k≠a
 kf:k≠f
 kq:k≠q
 af:a≠f
 aq:a≠q
 fq:f≠q
def Fr (hp hp':Hs) (n k a f q:Nat):Prop:=hp.length<=hp'.length/\∀ i,i < hp.length->i≠n->i≠k->i≠a->i≠f->i≠q->hp'[i]?=hp[i]?
section
variable {hp hp' hp2:Hs} {n k a f q:Nat} {S S':TR.Sh} {w w':TR.Wk}
theorem Fr.refl:Fr hp hp n k a f q:=⟨Nat.le_refl _,fun _ _ _ _ _ _ _=>rfl⟩
theorem Fr.trans (x:Fr hp hp' n k a f q) (y:Fr hp' hp2 n k a f q):Fr hp hp2 n k a f q:=⟨Nat.le_trans x.1 y.1,fun i hi a1 a2 a3 a4 a5=>(y.2 i (Nat.lt_of_lt_of_le hi x.1) a1 a2 a3 a4 a5).trans (x.2 i hi a1 a2 a3 a4 a5)⟩
theorem gs {n m:Nat} {X:OV} {Y:Option OV} (h:n≠m) (h':hp[m]?=Y):(hp.set n X)[m]?=Y:=(QI _ _ _ _ h).trans h'
theorem gss {n:Nat} {X Y:OV} (h':hp[n]?=some Y):(hp.set n X)[n]?=some X:=Ze _ _ _ (by rw [h'];rfl)
theorem At.walk (A:At hp n k a f q S w) (D:Dif n k a f q) (w':TR.Wk) (e1:w'.forks=w.forks) (e2:w'.pairs=w.pairs):At (hp.set a (wkO n f q w')) n k a f q S w'/\Fr hp (hp.set a (wkO n f q w')) n k a f q :=
 ⟨⟨gs D.na.symm A.h1,gs D.ka.symm A.h2,gss A.h3,gs D.af (by rw [e1];exact A.h4),gs D.aq (by rw [e2];exact A.h5)⟩,by simp,fun i hi a1 a2 a3 a4 a5=>QI _ _ _ _ (Ne.symm a3)⟩
theorem At.shelf (A:At hp n k a f q S w) (D:Dif n k a f q) (S':TR.Sh) (e:S'.room=S.room):At ((hp.set n (.ins "Shelf" (shF S.room k S'.top S'.rd S'.wr))).set k (.lst (S'.pg.map pgD))) n k a f q S' w/\Fr hp ((hp.set n (.ins "Shelf" (shF S.room k S'.top S'.rd S'.wr))).set k (.lst (S'.pg.map pgD))) n k a f q :=
 ⟨⟨gs D.nk.symm (by rw [e];exact gss A.h1),gss (gs D.nk A.h2),gs D.ka (gs D.na A.h3),gs D.kf (gs D.nf A.h4),gs D.kq (gs D.nq A.h5)⟩,by simp,fun i hi a1 a2 a3 a4 a5=>(QI _ _ _ _ (Ne.symm a2)).trans (QI _ _ _ _ (Ne.symm a1))⟩
theorem At.count (A:At hp n k a f q S w) (D:Dif n k a f q) (S':TR.Sh) (e:S'.room=S.room) (e2:S'.pg=S.pg):At (hp.set n (.ins "Shelf" (shF S.room k S'.top S'.rd S'.wr))) n k a f q S' w/\Fr hp (hp.set n (.ins "Shelf" (shF S.room k S'.top S'.rd S'.wr))) n k a f q :=
 ⟨⟨by rw [e];exact gss A.h1,gs D.nk (by rw [e2];exact A.h2),gs D.na A.h3,gs D.nf A.h4,gs D.nq A.h5⟩,by simp,fun i hi a1 a2 a3 a4 a5=>QI _ _ _ _ (Ne.symm a1)⟩
theorem At.fork (A:At hp n k a f q S w) (D:Dif n k a f q) (w':TR.Wk) (h:wkO n f q w'=wkO n f q w) (e:w'.pairs=w.pairs):At (hp.set f (.dic (fkD w'.forks))) n k a f q S w'/\Fr hp (hp.set f (.dic (fkD w'.forks))) n k a f q :=
 ⟨⟨gs D.nf.symm A.h1,gs D.kf.symm A.h2,gs D.af.symm (by rw [h];exact A.h3),gss A.h4,gs D.fq (by rw [e];exact A.h5)⟩,by simp,fun i hi a1 a2 a3 a4 a5=>QI _ _ _ _ (Ne.symm a4)⟩
theorem At.pair (A:At hp n k a f q S w) (D:Dif n k a f q) (w':TR.Wk) (h:wkO n f q w'=wkO n f q w) (e:w'.forks=w.forks):At (hp.set q (.lst (prD w'.pairs))) n k a f q S w'/\Fr hp (hp.set q (.lst (prD w'.pairs))) n k a f q :=
 ⟨⟨gs D.nq.symm A.h1,gs D.kq.symm A.h2,gs D.aq.symm (by rw [h];exact A.h3),gs D.fq.symm (by rw [e];exact A.h4),gss A.h5⟩,by simp,fun i hi a1 a2 a3 a4 a5=>QI _ _ _ _ (Ne.symm a5)⟩
theorem At.more (A:At hp n k a f q S w) (x:OV):At (hp++[x]) n k a f q S w/\Fr hp (hp++[x]) n k a f q:=by
 have ap:∀ {i:Nat} {y:OV},hp[i]?=some y->(hp++[x])[i]?=some y:=fun {i y} h=>by rw [List.getElem?_append_left (List.getElem?_eq_some_iff.mp h).1];exact h
 exact ⟨⟨ap A.h1,ap A.h2,ap A.h3,ap A.h4,ap A.h5⟩,by simp,fun i hi _ _ _ _ _=>List.getElem?_append_left hi⟩
theorem uZ (ps:List TR.Pg) (p:TR.Pg):ps.map pgD++[pgD p]=(ps++[p]).map pgD:=by simp
theorem map_set (ps:List TR.Pg) (i:Nat) (p:TR.Pg):(ps.map pgD).set i (pgD p)=(ps.set i p).map pgD:=by rw [List.map_set]
theorem Xr (A:At hp n k a f q S w) {env:En} (h:env[0]?=some (.val (.ref a))):Qx "Walk" "shelf" (Qb 0) env hp=some (.ref n,hp):=QP (Qe h) A.h3 (Qau ..)
theorem UZ (A:At hp n k a f q S w) (D:Dif n k a f q) {i:Nat} (hi:i < S.pg.length) (P:TR.Pg) (h3:S.room < P.ks.length->3<=P.ks.length) (hP:P.ks.length<=100) (hl:S.pg.length < 90000) :
  ∃ hp',XC [.ref a,.int i,pgD P] hp=some (oN (TR.QD S w i P).1,hp')/\At hp' n k a f q (TR.QD S w i P).2.1 (TR.QD S w i P).2.2/\Fr hp hp' n k a f q:=by
 have t0:QG 2 Yc (Qc (Qb 2) (Qc (Qu "Shelf" "room" 1 Jw (Qx "Walk" "shelf" (Qb 0)) Qm) Qm)) [.val (.ref a),.val (.int i),.val (pgD P),.un] hp=some (.bl (decide (S.room < P.ks.length)),hp) :=
  ZG (Z4 (Qe rfl) (QS (Xr A rfl) A.h1 (Qb7 ..) Xe rfl (QdC A.h1))) rfl (Zr (Qdd P S.room) hp)
 unfold TR.QD
 by_cases hr:P.ks.length<=S.room
 ·rw [if_pos hr]
  have hd:decide (S.room < P.ks.length)=false:=decide_eq_false (by omega)
  rw [hd] at t0
  have t1:Jy (eB (QG 2 Yc (Qc (Qb 2) (Qc (Qu "Shelf" "room" 1 Jw (Qx "Walk" "shelf" (Qb 0)) Qm) Qm)))) [.val (.ref a),.val (.int i),.val (pgD P),.un] hp=some (true,hp):=J5 (b:=false) (QT t0)
  have wr:=V1 (d:=pgD P) (i:=i) A.h1 A.h2 D.nk (by simpa using hi)
  rw [map_set] at wr
  obtain ⟨A1,F1⟩:=A.shelf D { S with pg:=S.pg.set i P,wr:=S.wr+1 } rfl
  obtain ⟨A2,F2⟩:=A1.walk D { w with ended:=true } rfl rfl
  refine ⟨_,?_,A2,F1.trans F2⟩
  refine Qy (env:=[.val (.ref a),.val (.int i),.val (pgD P),.un]) (Zc ((Zq t1).trans ?_))
  refine (Qi (J3 (QS (Xr A rfl) A.h1 (zD ..) (Z4 (Qe rfl) (Qe rfl)) rfl wr))).trans ?_
  exact (Qi (Jh (v:=.bl true) rfl (Qe rfl) A1.h3 wl)).trans (QB (d:=.non) rfl)
 ·rw [if_neg hr]
  have hd:decide (S.room < P.ks.length)=true:=decide_eq_true (by omega)
  rw [hd] at t0
  have t1:Jy (eB (QG 2 Yc (Qc (Qb 2) (Qc (Qu "Shelf" "room" 1 Jw (Qx "Walk" "shelf" (Qb 0)) Qm) Qm)))) [.val (.ref a),.val (.int i),.val (pgD P),.un] hp=some (false,hp):=J5 (b:=true) (QT t0)
  have pl:(S.pg.map pgD).length=S.pg.length:=by simp
  have pe:=Qai P S.pg.length (h3 (by omega)) hP
  have ly:=Qbi (pg:=pgD (TR.QU P)) A.h1 A.h2 D.nk (by rw [pl];omega)
  rw [pl,uZ] at ly
  obtain ⟨A1,F1⟩:=A.shelf D { S with pg:=S.pg++[TR.QU P],wr:=S.wr+1 } rfl
  obtain ⟨A2,F2⟩:=A1.walk D { w with newp:=some S.pg.length } rfl rfl
  have wr:=V1 (d:=pgD (TR.Q6 P S.pg.length)) (i:=i) A2.h1 A2.h2 D.nk (by simp;omega)
  rw [map_set] at wr
  obtain ⟨A3,F3⟩:=A2.shelf D { S with pg:=(S.pg++[TR.QU P]).set i (TR.Q6 P S.pg.length),wr:=S.wr+1+1 } rfl
  obtain ⟨A4,F4⟩:=A3.walk D { w with newp:=some S.pg.length,aim:=TR.Xa P } rfl rfl
  obtain ⟨A5,F5⟩:=A4.walk D { w with newp:=some S.pg.length,aim:=TR.Xa P,goal:=P.lv+1 } rfl rfl
  obtain ⟨A6,F6⟩:=A5.walk D { w with newp:=some S.pg.length,aim:=TR.Xa P,goal:=P.lv+1,place:=TR.JV w.forks (P.lv+1) } rfl rfl
  refine ⟨_,?_,A6,F1.trans (F2.trans (F3.trans (F4.trans (F5.trans F6))))⟩
  refine Qy (env:=[.val (.ref a),.val (.int i),.val (pgD P),.val (.tup [pgD (TR.Q6 P S.pg.length),pgD (TR.QU P),.int (TR.Xa P)])]) ?_
  refine (Qi ((QL t1).trans QM)).trans ?_
  have pg:=GH A.h1 A.h2
  rw [pl] at pg
  refine (Qi (QR (ZG (Z4 (Qe rfl) (QS (Xr A rfl) A.h1 (yF ..) Xe rfl pg)) rfl (Zr pe hp)))).trans ?_
  refine (Qi (Jh (QS (Xr A rfl) A.h1 (U2 ..) (ZD (Qk (Qe rfl) rfl (JG (i:=1) rfl _))) rfl ly) (Qe rfl) A1.h3 wl)).trans ?_
  refine (Qi (J3 (QS (Xr A2 rfl) A2.h1 (zD ..) (Z4 (Qe rfl) (Qk (Qe rfl) rfl (JG (i:=0) rfl _))) rfl wr))).trans ?_
  refine (Qi (Jh (Qk (Qe rfl) rfl (JG (i:=2) rfl _)) (Qe rfl) A3.h3 wl)).trans ?_
  refine (Qi (Jh (v:=.int ((P.lv+1:Nat):Int)) (Qk (Qk (Qe rfl) rfl (QbK P _)) rfl rfl) (Qe rfl) A4.h3 wl)).trans ?_
  have dg:JZ "dict" XZ (Qx "Walk" "forks" (Qb 0)) (Qc (Qx "Walk" "goal" (Qb 0)) Qm) [.val (.ref a),.val (.int i),.val (pgD P),.val (.tup [pgD (TR.Q6 P S.pg.length),pgD (TR.QU P),.int (TR.Xa P)])] _=some (oN (TR.JV w.forks (P.lv+1)),_) :=
   QcH (QP (Qe rfl) A5.h3 (U8 ..)) A5.h4 (ZD (QP (Qe rfl) A5.h3 (vc ..)))
  refine (Qi (Jh dg (Qe rfl) A5.h3 wl)).trans ?_
  exact QB (QP (Qe rfl) A6.h3 (K0 ..))
end
theorem QaB (x:DV) (xs:List DV):atI (x::xs) 0=some x:=qt (j:=0) rfl
theorem Uh {r a b:Int} {n k:Nat} {ps:List DV} {hp:Hs} {t i:Nat} {key:Int} {l:Int} {ks qs:List Int} {hi sd:Option Int} (h1:hp[n]?=some (.ins "Shelf" (shF r k t a b))) (h2:hp[k]?=some (.lst ps)) (hnk:n≠k) (hi1:i < ps.length) (ht:ps[t]?=some (Zi l ks qs hi sd)) (hl:ps.length < 99999) :
  Z0 [.ref n,.int key,.int i] hp=some (.int ps.length,(hp.set n (.ins "Shelf" (shF r k ps.length a (b+1)))).set k (.lst (ps++[Zi (l+1) [key] [(t:Int),(i:Int)] none none]))):=by
 have c:=Va (i:=(i:Int)) h1 h2 (by omega) (by omega)
 have ht':atI ps (t:Int)=some (.tup [.int l,.tup (ks.map .int),.tup (qs.map .int),opt hi,opt sd]):=qt ht
 have y:=Qbi (pg:=Zi (l+1) [key] [(t:Int),(i:Int)] none none) h1 h2 hnk hl
 have pd:DV.tup [.int (l+1),.tup [.int key],.tup [.int (t:Int),.int (i:Int)],.non,.non]=Zi (l+1) [key] [(t:Int),(i:Int)] none none:=rfl
 have g1:((hp.set n (.ins "Shelf" (shF r k t a (b+1)))).set k (.lst (ps++[Zi (l+1) [key] [(t:Int),(i:Int)] none none])))[n]?=some (.ins "Shelf" (shF r k t a (b+1))):=by
  rw [QI _ _ _ _ hnk.symm];exact Ze _ _ _ (by rw [h1];rfl)
 have g2:∀ X Y Z:OV,((hp.set n X).set k Y).set n Z=(hp.set n Z).set k Y:=fun X Y Z=>by
  rw [List.set_comm _ _ hnk,List.set_set,List.set_comm _ _ hnk.symm,List.set_comm _ _ hnk]
 have g3:((hp.set n (.ins "Shelf" (shF r k ps.length a (b+1)))).set k (.lst (ps++[Zi (l+1) [key] [(t:Int),(i:Int)] none none])))[n]?=some (.ins "Shelf" (shF r k ps.length a (b+1))):=by
  rw [QI _ _ _ _ hnk.symm];exact Ze _ _ _ (by rw [h1];rfl)
 simp [Z0,Yl,Q5,Qr,QC,QE,qc,sIf,Zb,yb,jS,x9,ya,Ql,Qb,eC,eB,asB,Yo,eOr,Jy,Jm,xT,Yp,eIf,X6,Qm,Qc,Zu,XA,QG,Zw,Qw,gN,Z7,Ju,Ji,Jk,JB,Jz,Jq,YG,Y8,x8,ZQ,JX,ZN,Q1,Xw,VA,Xp,gSb,zt,JZ,Xv,Qx,zg,zC,onI,onL,onD,Zo,Xk,zp,XZ,ixG,Z5,YS,qG,X8,qS,asI,Yk,VV,Qu,Jn,J0,Xj,ze,evP,Jr,Xm,Jt,JS,Js,Xl,Xo,Xn,Ze,QI,Z1,qR,lim,ixD,h1,h2,c,qj,gD,Qb9,yX,yf,U2,ht',QaB,pd,y,g1,g2,g3]
theorem QbX {hp:Hs} {n k a f q:Nat} {S:TR.Sh} {w:TR.Wk} (A:At hp n k a f q S w) (D:Dif n k a f q) {c:Nat} {r:TR.Pg} {key:Int} (hc:c < S.pg.length) (hr:S.pg[S.top]?=some r) (hl:S.pg.length < 90000) :
  Z0 [.ref n,.int key,.int c] hp=some (.int S.pg.length,(hp.set n (.ins "Shelf" (shF S.room k S.pg.length S.rd (S.wr+1)))).set k (.lst ((S.pg++[(⟨r.lv+1,[key],[(S.top:Int),(c:Int)],none,none⟩:TR.Pg)]).map pgD))):=by
 have ht:(S.pg.map pgD)[S.top]?=some (Zi r.lv r.ks r.ps r.hi (r.sd.map fun n=>(n:Int))):=by rw [List.getElem?_map,hr,Option.map_some,XB]
 have e:=Uh (key:=key) A.h1 A.h2 D.nk (i:=c) (by simpa using hc) ht (by simp;omega)
 rw [e,List.length_map]
 rw [show Zi ((r.lv:Int)+1) [key] [(S.top:Int),(c:Int)] none none=pgD ⟨r.lv+1,[key],[(S.top:Int),(c:Int)],none,none⟩ from rfl,uZ]
theorem KS (S:TR.Sh) (w:TR.Wk) (i:Nat) (P:TR.Pg):(TR.QD S w i P).2.2.worth=w.worth:=by
 unfold TR.QD;split<;>rfl
section
variable {hp:Hs} {n k a f q:Nat} {S:TR.Sh} {w:TR.Wk} {i:Nat} {p:TR.Pg}
theorem Gu (A:At hp n k a f q S w) (D:Dif n k a f q) (word:Str) (t:Option Nat):∃ hp',JT [.ref a,.str word,.int i,oN t] hp=some (.tup [.str word,.int i,oN t],hp')/\At hp' n k a f q S { w with place:=t }/\Fr hp hp' n k a f q:=by
 obtain ⟨A1,F1⟩:=A.walk D { w with place:=t } rfl rfl
 refine ⟨_,?_,A1,F1⟩
 refine Qy (env:=[.val (.ref a),.val (.str word),.val (.int i),.val (oN t)]) ?_
 exact (Qi (Jh (Qe rfl) (Qe rfl) A.h3 wl)).trans (QB (Je (Xt (Qe rfl) (Qe rfl) (Qe rfl)) (by simp)))
theorem Ug (A:At hp n k a f q S w) (D:Dif n k a f q) {c:Nat} {r:TR.Pg} (hw:w.newp=some c) (hc:c < S.pg.length) (hr:S.pg[S.top]?=some r) (hl:S.pg.length < 90000):∃ hp',ZO [.ref a,.int i] hp=some (.tup [.str "raised", .int i,.int S.pg.length],hp')/\At hp' n k a f q { S with pg:=S.pg++[⟨r.lv+1,[w.aim],[(S.top:Int),(c:Int)],none,none⟩],top:=S.pg.length,wr:=S.wr+1 } { w with ended:=true }/\Fr hp hp' n k a f q:=by
 obtain ⟨A1,F1⟩:=A.walk D { w with ended:=true } rfl rfl
 have e:=QbX (key:=w.aim) A1 D hc hr hl
 obtain ⟨A2,F2⟩:=A1.shelf D { S with pg:=S.pg++[⟨r.lv+1,[w.aim],[(S.top:Int),(c:Int)],none,none⟩],top:=S.pg.length,wr:=S.wr+1 } rfl
 refine ⟨_,?_,A2,F1.trans F2⟩
 refine Qy (env:=[.val (.ref a),.val (.int i)]) ?_
 refine (Qi (Jh (v:=.bl true) rfl (Qe rfl) A.h3 wl)).trans ?_
 refine QB (Je (Xt rfl (Qe rfl) (QS (Xr A1 rfl) A1.h1 (GW ..) (Z4 (QP (Qe rfl) A1.h3 (YM ..)) (QP (d:=.int c) (Qe rfl) A1.h3 ((K0 ..).trans (by show some (oN w.newp)=_;rw [hw];rfl)))) rfl e)) (by simp))
theorem V0 (A:At hp n k a f q S w) (D:Dif n k a f q) {env:En} (e0:env[0]?=some (.val (.ref a))) (e2:env[2]?=some (.val (pgD p))) (h1:p.ks.length<=100) (h2:p.ps.length=p.ks.length) :
  ∃ hp',Q1 "Walk" "worth" (Qb 0) (QG 2 J8 (Qc (Qb 2) (Qc (Qx "Walk" "aim" (Qb 0)) Qm))) env hp=some ((.nx,env),hp')/\At hp' n k a f q S { w with worth:=TR.QX p w.aim }/\Fr hp hp' n k a f q:=by
 obtain ⟨A1,F1⟩:=A.walk D { w with worth:=TR.QX p w.aim } rfl rfl
 exact ⟨_,Jh (ZG (Z4 (Qe e2) (QP (Qe e0) A.h3 (YM ..))) rfl (Zr (QbM p w.aim h1 h2) hp)) (Qe e0) A.h3 wl,A1,F1⟩
theorem QcL (A:At hp n k a f q S w) (D:Dif n k a f q) (h1:p.ks.length<=100) (h2:p.ps.length=p.ks.length) :
  ∃ hp',Xc [.ref a,.int i,pgD p] hp=some (.tup [.str "found", .int i,opt (TR.QX p w.aim)],hp')/\At hp' n k a f q S { w with worth:=TR.QX p w.aim,ended:=true }/\Fr hp hp' n k a f q:=by
 obtain ⟨hp1,e1,A1,F1⟩:=V0 (env:=[.val (.ref a),.val (.int i),.val (pgD p)]) A D rfl rfl h1 h2
 obtain ⟨A2,F2⟩:=A1.walk D { w with worth:=TR.QX p w.aim,ended:=true } rfl rfl
 refine ⟨_,?_,A2,F1.trans F2⟩
 refine Qy (env:=[.val (.ref a),.val (.int i),.val (pgD p)]) ?_
 refine (Qi e1).trans ((Qi (Jh (v:=.bl true) rfl (Qe rfl) A1.h3 wl)).trans ?_)
 exact QB (Je (Xt rfl (Qe rfl) (QP (Qe rfl) A2.h3 (qm ..))) (by simp))
theorem Qfs (A:At hp n k a f q S w) (D:Dif n k a f q) (hi:i < S.pg.length) {x y:Int} (hd:w.deed=.put y x) (h1:p.ks.length<=90) (h2:p.ps.length=p.ks.length) (h3:S.room < (TR.QZ p w.aim x).ks.length->3<=(TR.QZ p w.aim x).ks.length) (h4:(TR.QZ p w.aim x).ks.length<=100) (hl:S.pg.length < 90000) :
  ∃ hp',XQ [.ref a,.int i,pgD p] hp=some (.tup [.str "put", .int i,opt (TR.QX p w.aim),oN (TR.QD S { w with worth:=TR.QX p w.aim } i (TR.QZ p w.aim x)).1],hp')/\At hp' n k a f q (TR.QD S { w with worth:=TR.QX p w.aim } i (TR.QZ p w.aim x)).2.1 (TR.QD S { w with worth:=TR.QX p w.aim } i (TR.QZ p w.aim x)).2.2/\Fr hp hp' n k a f q:=by
 obtain ⟨hp1,e1,A1,F1⟩:=V0 (env:=[.val (.ref a),.val (.int i),.val (pgD p),.un]) A D rfl rfl (by omega) h2
 obtain ⟨hp2,e2,A2,F2⟩:=UZ A1 D hi (TR.QZ p w.aim x) h3 h4 hl
 refine ⟨hp2,?_,A2,F1.trans F2⟩
 refine Qy (env:=[.val (.ref a),.val (.int i),.val (pgD p),.val (oN (TR.QD S { w with worth:=TR.QX p w.aim } i (TR.QZ p w.aim x)).1)]) ?_
 refine (Qi e1).trans ?_
 have dx:ixG (Q3 w.deed) (.int 2) hp1=some (.int x,hp1):=by rw [hd];exact JG (i:=2) rfl hp1
 refine (Qi (QR (QS (Qe rfl) A1.h3 (Qcq ..) (Z4 (Qe rfl) (ZG (Xt (Qe rfl) (QP (Qe rfl) A1.h3 (YM ..)) (Qk (QP (Qe rfl) A1.h3 (xF ..)) rfl dx)) rfl (Zr (Qde p w.aim x (by omega) (by omega)) hp1))) rfl e2))).trans ?_
 refine QB (Je (Qay rfl (Qe rfl) (QP (Qe rfl) A2.h3 ((qm ..).trans ?_)) (Qe rfl)) (by simp))
 rw [KS]
theorem Qeq (A:At hp n k a f q S w) (D:Dif n k a f q) (hi:i < S.pg.length) (h1:p.ks.length<=100) (h2:p.ps.length=p.ks.length) :
    ∃ hp',Yh [.ref a,.int i,pgD p] hp=some (.tup [.str "cut", .int i,opt (TR.QX p w.aim)],hp')/\At hp' n k a f q (if (TR.QX p w.aim).isSome=true then { S with pg:=S.pg.set i (TR.without p w.aim),wr:=S.wr+1 } else S) { w with worth:=TR.QX p w.aim,ended:=true }/\Fr hp hp' n k a f q:=by
  obtain ⟨hp1,e1,A1,F1⟩:=V0 (env:=[.val (.ref a),.val (.int i),.val (pgD p)]) A D rfl rfl h1 h2
  have t:∀ b:Bool,(TR.QX p w.aim).isSome=b->eB (Ql qB (Qx "Walk" "worth" (Qb 0)) (eC .non)) [.val (.ref a),.val (.int i),.val (pgD p)] hp1=some (b,hp1):=fun b hb=>QT (Qk (QP (Qe rfl) A1.h3 (qm ..)) rfl (by rw [vP,hb];rfl))
  cases hs:(TR.QX p w.aim).isSome with
  | true =>
    rw [if_pos rfl]
    have wr:=V1 (d:=pgD (TR.without p w.aim)) (i:=i) A1.h1 A1.h2 D.nk (by simpa using hi)
    rw [map_set] at wr
    obtain ⟨A2,F2⟩:=A1.shelf D { S with pg:=S.pg.set i (TR.without p w.aim),wr:=S.wr+1 } rfl
    obtain ⟨A3,F3⟩:=A2.walk D { w with worth:=TR.QX p w.aim,ended:=true } rfl rfl
    refine ⟨_,?_,A3,F1.trans (F2.trans F3)⟩
    refine Qy (env:=[.val (.ref a),.val (.int i),.val (pgD p)]) ?_
    refine (Qi e1).trans ?_
    refine (Qi ((Zq (t true hs)).trans (J3 (QS (Xr A1 rfl) A1.h1 (zD ..) (Z4 (Qe rfl) (ZG (Z4 (Qe rfl) (QP (Qe rfl) A1.h3 (YM ..))) rfl (Zr (vR p w.aim (by omega) (by omega)) hp1))) rfl wr)))).trans ?_
    refine (Qi (Jh (v:=.bl true) rfl (Qe rfl) A2.h3 wl)).trans ?_
    exact QB (Je (Xt rfl (Qe rfl) (QP (Qe rfl) A3.h3 (qm ..))) (by simp))
  | false =>
    rw [if_neg (by simp)]
    obtain ⟨A3,F3⟩:=A1.walk D { w with worth:=TR.QX p w.aim,ended:=true } rfl rfl
    refine ⟨_,?_,A3,F1.trans F3⟩
    refine Qy (env:=[.val (.ref a),.val (.int i),.val (pgD p)]) ?_
    refine (Qi e1).trans ?_
    refine (Qi ((QL (t false hs)).trans QM)).trans ?_
    refine (Qi (Jh (v:=.bl true) rfl (Qe rfl) A1.h3 wl)).trans ?_
    exact QB (Je (Xt rfl (Qe rfl) (QP (Qe rfl) A3.h3 (qm ..))) (by simp))
theorem QdM (A:At hp n k a f q S w) (D:Dif n k a f q) (hi:i < S.pg.length) {c:Nat} (hw:w.newp=some c) (h1:p.ks.length<=90) (h2:p.ps.length<=100) (h3:S.room < (TR.Zv p w.aim c).ks.length->3<=(TR.Zv p w.aim c).ks.length) (h4:(TR.Zv p w.aim c).ks.length<=100) (hl:S.pg.length < 90000) :
  ∃ hp',Xx [.ref a,.int i,pgD p] hp=some (.tup [.str "told", .int i,oN (TR.QD S w i (TR.Zv p w.aim c)).1],hp')/\At hp' n k a f q (TR.QD S w i (TR.Zv p w.aim c)).2.1 (TR.QD S w i (TR.Zv p w.aim c)).2.2/\Fr hp hp' n k a f q:=by
 obtain ⟨hp2,e2,A2,F2⟩:=UZ A D hi (TR.Zv p w.aim c) h3 h4 hl
 refine ⟨hp2,?_,A2,F2⟩
 refine Qy (env:=[.val (.ref a),.val (.int i),.val (pgD p),.val (oN (TR.QD S w i (TR.Zv p w.aim c)).1)]) ?_
 have nw:Qx "Walk" "new_page" (Qb 0) [.val (.ref a),.val (.int i),.val (pgD p),.un] hp=some (.int c,hp):=QP (Qe rfl) A.h3 ((K0 ..).trans (by rw [hw];rfl))
 refine (Qi (QR (QS (Qe rfl) A.h3 (Qcq ..) (Z4 (Qe rfl) (ZG (Xt (Qe rfl) (QP (Qe rfl) A.h3 (YM ..)) nw) rfl (Zr (vQ p w.aim c (by omega) (by omega)) hp))) rfl e2))).trans ?_
 exact QB (Je (Xt rfl (Qe rfl) (Qe rfl)) (by simp))
end
section
variable {hp:Hs} {n k a f q:Nat} {S:TR.Sh} {w:TR.Wk} {i:Nat} {p:TR.Pg}
theorem QbE (A:At hp n k a f q S w) {l h:Int} (hl:p.ks.length<=100) :
  Jg [.val (.ref a),.val (.int i),.val (pgD p),.val (.int l),.val (.int h),.un] hp=some (.ref hp.length,hp++[OV.lst (prD (TR.QW p l h))]):=by
 have e0:Kx (Ql ixG (Qb 2) (eC (.int 1))) (Ql ixG (Qb 2) (eC (.int 2))) [.val (.ref a),.val (.int i),.val (pgD p),.val (.int l),.val (.int h),.un] hp=some (prD (p.ks.zip p.ps),hp):=by
  have x1:Ql ixG (Qb 2) (eC (.int 1)) [.val (.ref a),.val (.int i),.val (pgD p),.val (.int l),.val (.int h),.un] hp=some (.tup (p.ks.map .int),hp):=Qk (Qe rfl) rfl (Qfd p hp)
  have x2:Ql ixG (Qb 2) (eC (.int 2)) [.val (.ref a),.val (.int i),.val (pgD p),.val (.int l),.val (.int h),.un] hp=some (.tup (p.ps.map .int),hp):=Qk (Qe rfl) rfl (Qfe p hp)
  unfold Kx
  rw [Qg x1]
  show (Uq (.tup (p.ks.map .int)) >>= _) hp=_
  rw [show Uq (.tup (p.ks.map .int))=pure (p.ks.map .int) from rfl,pure_bind,Qg x2,show Uq (.tup (p.ps.map .int))=pure (p.ps.map .int) from rfl,pure_bind,gO];rfl
 have e1:xOf (Kx (Ql ixG (Qb 2) (eC (.int 1))) (Ql ixG (Qb 2) (eC (.int 2)))) [.val (.ref a),.val (.int i),.val (pgD p),.val (.int l),.val (.int h),.un] hp=some (nxD (prD (p.ks.zip p.ps)),hp):=by
  unfold xOf;rw [Qg e0];rfl
 have hz:(p.ks.zip p.ps).length<=100:=by rw [List.length_zip];omega
 have e2:=kB (hp:=hp) (t:=fun d=>eB (Xi leD ltD (Qb 1) (Ql ixG (Qb 0) (eC (.int 0))) (Qb 2)) (cE [3,4] [.val (.ref a),.val (.int i),.val (pgD p),.val (.int l),.val (.int h),.un] d)) (f:=fun d=>Qb 0 (cE [3,4] [.val (.ref a),.val (.int i),.val (pgD p),.val (.int l),.val (.int h),.un] d)) (p:=Qdn l h) (prD (p.ks.zip p.ps)) (fun d hd=>by
   obtain ⟨z,_,rfl⟩:=List.mem_map.mp hd
   have c:cE [3,4] [.val (.ref a),.val (.int i),.val (pgD p),.val (.int l),.val (.int h),.un] (.tup [.int z.1,.int z.2])=[.val (.tup [.int z.1,.int z.2]),.val (.int l),.val (.int h)]:=rfl
   show eB (Xi leD ltD (Qb 1) (Ql ixG (Qb 0) (eC (.int 0))) (Qb 2)) (cE [3,4] [.val (.ref a),.val (.int i),.val (pgD p),.val (.int l),.val (.int h),.un] (.tup [.int z.1,.int z.2])) hp=_
   rw [c]
   have x1:Ql ixG (Qb 0) (eC (.int 0)) [.val (.tup [.int z.1,.int z.2]),.val (.int l),.val (.int h)] hp=some (.int z.1,hp):=Qk (Qe rfl) rfl (JG (i:=0) rfl hp)
   by_cases q1:l<=z.1
   ·by_cases q2:z.1 < h<;>simp [eB,Xi,Jr,Jt,x1,Qb,JB,Jk,asB,Qdn,q1,q2]
   ·simp [eB,Xi,Jr,Jt,x1,Qb,JB,Jk,asB,Qdn,q1])
  (fun d hd=>rfl) (by rw [KJ];omega)
 rw [vT] at e2
 unfold Jg Zp
 rw [Qg e1,Qg (show ZX _ _ _ lim 0 hp=_ from e2)]
 rfl
theorem Ui (A:At hp n k a f q S w) (D:Dif n k a f q) {l h:Int} (hd:w.deed=.stretch l h) (h1:p.ks.length<=100) (hw:w.pairs.length<=50000) (hlk:(p.hi=none/\p.sd=none)∨∃ x s,p.hi=some x/\p.sd=some s) :
  ∃ hp',Xd [.ref a,.int i,pgD p] hp=some (xi (TR.Jf S w i p).1,hp')/\At hp' n k a f q (TR.Jf S w i p).2.1 (TR.Jf S w i p).2.2/\Fr hp hp' n k a f q:=by
 have d1:ixG (Q3 w.deed) (.int 1) hp=some (.int l,hp):=by rw [hd];exact JG (i:=1) rfl hp
 have d2:ixG (Q3 w.deed) (.int 2) hp=some (.int h,hp):=by rw [hd];exact JG (i:=2) rfl hp
 obtain ⟨A1,F1⟩:=A.more (OV.lst (prD (TR.QW p l h)))
 obtain ⟨A2,F2⟩:=A1.pair D { w with pairs:=w.pairs++TR.QW p l h } rfl rfl
 have pl:(TR.QW p l h).length<=100:=by
  unfold TR.QW
  refine Nat.le_trans (List.length_filter_le _ _) ?_
  rw [List.length_zip];omega
 have gl:(hp++[OV.lst (prD (TR.QW p l h))])[hp.length]?=some (.lst (prD (TR.QW p l h))):=by simp
 have ql:q≠hp.length:=fun e=>by
  have:=(List.getElem?_eq_some_iff.mp A.h5).1;omega
 have ex:=kK (o:=Qx "Walk" "pairs" (Qb 0)) (fa:=Qc (Qb 5) Qm) (env:=[.val (.ref a),.val (.int i),.val (pgD p),.val (.int l),.val (.int h),.val (.ref hp.length)]) (QP (Qe rfl) A1.h3 (Qat ..)) A1.h5 (ZD (Qe rfl)) gl (by rw [KJ,KJ];omega)
 rw [Qdm] at ex
 have tw:∀ {hpx:Hs} {env:En},hpx[hp.length]?=some (.lst (prD (TR.QW p l h)))->env[5]?=some (.val (.ref hp.length))->Zw Qaq (Qc (Qb 5) Qm) env hpx=some (.tup (prD (TR.QW p l h)),hpx):=fun {hpx env} hx he=>by
  unfold Zw
  rw [Qg (ZD (Qe he))]
  show (Z3 hp.length >>= _) hpx=_
  rw [Qg (ZI hx)];rfl
 have gl2:((hp++[OV.lst (prD (TR.QW p l h))]).set q (OV.lst (prD (w.pairs++TR.QW p l h))))[hp.length]?=some (.lst (prD (TR.QW p l h))):=gs ql gl
 have al:a≠hp.length:=fun e=>by
  have:=(List.getElem?_eq_some_iff.mp A.h3).1;omega
 have start:∀ (g:DSx) (r:(Fl×En)×Hs),g [.val (.ref a),.val (.int i),.val (pgD p),.val (.int l),.val (.int h),.val (.ref hp.length)] ((hp++[OV.lst (prD (TR.QW p l h))]).set q (OV.lst (prD (w.pairs++TR.QW p l h))))=some r ->
   Qr (QC 3 (Ql ixG (Qx "Walk" "deed" (Qb 0)) (eC (.int 1)))) (Qr (QC 4 (Ql ixG (Qx "Walk" "deed" (Qb 0)) (eC (.int 2)))) (Qr (QC 5 Jg) (Qr (ZN (JZ "list" xa (Qx "Walk" "pairs" (Qb 0)) (Qc (Qb 5) Qm))) g))) [.val (.ref a),.val (.int i),.val (pgD p),.un,.un,.un] hp=some r:=fun g r hg=>by
  refine (Qi (QR (Qk (QP (Qe rfl) A.h3 (xF ..)) rfl d1))).trans ?_
  refine (Qi (QR (Qk (QP (Qe rfl) A.h3 (xF ..)) rfl d2))).trans ?_
  refine (Qi (QR (QbE A h1))).trans ?_
  exact (Qi (J3 ex)).trans hg
 have fin:∃ hp',Qr (Q1 "Walk" "ended" (Qb 0) (eC (.bl true))) (QE (Zu (Qc (eC (.str "read")) (Qc (Qb 1) (Qc (Zw Qaq (Qc (Qb 5) Qm)) (Qc (eC .non) (Qc (eC .non) Qm))))))) [.val (.ref a),.val (.int i),.val (pgD p),.val (.int l),.val (.int h),.val (.ref hp.length)] ((hp++[OV.lst (prD (TR.QW p l h))]).set q (OV.lst (prD (w.pairs++TR.QW p l h))))=some ((.rt (xi (.read i (TR.QW p l h) none)),[.val (.ref a),.val (.int i),.val (pgD p),.val (.int l),.val (.int h),.val (.ref hp.length)]),hp')/\At hp' n k a f q S { w with pairs:=w.pairs++TR.QW p l h,ended:=true }/\Fr hp hp' n k a f q:=by
  obtain ⟨A3,F3⟩:=A2.walk D { w with pairs:=w.pairs++TR.QW p l h,ended:=true } rfl rfl
  refine ⟨_,?_,A3,F1.trans (F2.trans F3)⟩
  refine (Qi (Jh (v:=.bl true) rfl (Qe rfl) A2.h3 wl)).trans ?_
  exact QB (Je (QdX rfl (Qe rfl) (tw (gs al gl2) rfl) rfl rfl) (by simp))
 have hiE:∀ hpx:Hs,Ql ixG (Qb 2) (eC (.int 3)) [.val (.ref a),.val (.int i),.val (pgD p),.val (.int l),.val (.int h),.val (.ref hp.length)] hpx=some (opt p.hi,hpx):=fun hpx=>Qk (Qe rfl) rfl (Qfc p hpx)
 have sdE:∀ hpx:Hs,Ql ixG (Qb 2) (eC (.int 4)) [.val (.ref a),.val (.int i),.val (pgD p),.val (.int l),.val (.int h),.val (.ref hp.length)] hpx=some (oN p.sd,hpx):=fun hpx=>Qk (Qe rfl) rfl (QbL p hpx)
 rcases hlk with ⟨e1,e2⟩ | ⟨x,s,e1,e2⟩
 ·rw [kT hd e1]
  obtain ⟨hp',ef,Af,Ff⟩:=fin
  refine ⟨hp',Qy (start _ _ (Zc ((Zq (hp1:=_) ?_).trans ef))),Af,Ff⟩
  exact Qd5 (QT (Qk (hiE _) rfl (by rw [x6,e1];rfl)))
 ·rw [Qbk hd e1 e2]
  by_cases hx:h<=x
  ·rw [if_pos hx]
   obtain ⟨hp',ef,Af,Ff⟩:=fin
   refine ⟨hp',Qy (start _ _ (Zc ((Zq (hp1:=_) ?_).trans ef))),Af,Ff⟩
   exact (jV (QT (b:=false) (Qk (hiE _) rfl (by rw [x6,e1];rfl)))).trans (QT (Qk (hiE _) (Qe rfl) (by rw [e1];show geD (.int x) (.int h) _=_;rw [Jz,decide_eq_true hx];rfl)))
  ·rw [if_neg hx]
   obtain ⟨A3,F3⟩:=A2.walk D { w with pairs:=w.pairs++TR.QW p l h,aim:=x } rfl rfl
   obtain ⟨A4,F4⟩:=A3.walk D { w with pairs:=w.pairs++TR.QW p l h,aim:=x,place:=some s } rfl rfl
   refine ⟨_,Qy (env:=[.val (.ref a),.val (.int i),.val (pgD p),.val (.int l),.val (.int h),.val (.ref hp.length)]) (start _ _ ?_),A4,F1.trans (F2.trans (F3.trans F4))⟩
   refine (Qi ((QL ((jV (QT (b:=false) (Qk (hiE _) rfl (by rw [x6,e1];rfl)))).trans (QT (b:=false) (Qk (hiE _) (Qe rfl) (by rw [e1];show geD (.int x) (.int h) _=_;rw [Jz,decide_eq_false hx];rfl))))).trans QM)).trans ?_
   refine (Qi (Jh (v:=.int x) ((hiE _).trans (by rw [e1];rfl)) (Qe rfl) A2.h3 wl)).trans ?_
   refine (Qi (Jh (v:=.int s) ((sdE _).trans (by rw [e2];rfl)) (Qe rfl) A3.h3 wl)).trans ?_
   exact QB (Je (QdX rfl (Qe rfl) (tw (gs al (gs al gl2)) rfl) (QP (Qe rfl) A4.h3 (qk ..)) (QP (Qe rfl) A4.h3 (YM ..))) (by simp))
end
section
variable {hp:Hs} {n k a f q:Nat} {S:TR.Sh} {w:TR.Wk} {i:Nat} {p:TR.Pg}
theorem zF:PyData.strOk "find" = true:=by decide +kernel
theorem xA:PyData.strOk "put" = true:=by decide +kernel
theorem xy:PyData.strOk "cut" = true:=by decide +kernel
theorem KY:PyData.strOk "stretch" = true:=by decide +kernel
def Vc:TR.Deed->Str
 | .find _ => "find"
 | .put _ _ => "put"
 | .cut _ => "cut"
 | .stretch _ _ => "stretch"
theorem kF (d:TR.Deed) (hp:Hs):ixG (Q3 d) (.int 0) hp=some (.str (Vc d),hp):=by cases d<;>exact JG (i:=0) rfl hp
theorem vB (A:At hp n k a f q S w) (D:Dif n k a f q) (hi:i < S.pg.length) (h1:p.ks.length<=90) (h2:p.ps.length=p.ks.length) (h3:∀ x,S.room < (TR.QZ p w.aim x).ks.length->3<=(TR.QZ p w.aim x).ks.length) (h4:∀ x,(TR.QZ p w.aim x).ks.length<=100) (hl:S.pg.length < 90000) (hw:w.pairs.length<=50000) (hlk:(p.hi=none/\p.sd=none)∨∃ x s,p.hi=some x/\p.sd=some s) :
    ∃ hp',Yi [.ref a,.int i,pgD p] hp=some (xi (TR.Jf S w i p).1,hp')/\At hp' n k a f q (TR.Jf S w i p).2.1 (TR.Jf S w i p).2.2/\Fr hp hp' n k a f q:=by
  have s0:QC 3 (Ql ixG (Qx "Walk" "deed" (Qb 0)) (eC (.int 0))) [.val (.ref a),.val (.int i),.val (pgD p),.un] hp=some ((.nx,[.val (.ref a),.val (.int i),.val (pgD p),.val (.str (Vc w.deed))]),hp):=QR (Qk (QP (Qe rfl) A.h3 (xF ..)) rfl (kF w.deed hp))
  have tst:∀ (x:Str) (b:Bool),PyData.strOk (Vc w.deed)=true->PyData.strOk x=true->(Vc w.deed==x)=b->eB (Ql eqG (Qb 3) (eC (.str x))) [.val (.ref a),.val (.int i),.val (pgD p),.val (.str (Vc w.deed))] hp=some (b,hp):=fun x b o1 o2 e=>QT (Qk (Qe rfl) rfl (eqS hp o1 o2 e))
  have ag:∀ (nm:Str) (fn:List DV->M DV) (d:DV) (hp':Hs),List.lookup nm (wkF n f q (Q3 w.deed) (.int w.aim) (.int w.goal) (oN w.place) (oN w.newp) (opt w.worth) (.bl w.ended))=none->fn [.ref a,.int i,pgD p] hp=some (d,hp')->QE (Qu "Walk" nm 3 fn (Qb 0) (Qc (Qb 1) (Qc (Qb 2) Qm))) [.val (.ref a),.val (.int i),.val (pgD p),.val (.str (Vc w.deed))] hp=some ((.rt d,[.val (.ref a),.val (.int i),.val (pgD p),.val (.str (Vc w.deed))]),hp'):=fun nm fn d hp' e1 e2=>QB (QS (Qe rfl) A.h3 e1 (Z4 (Qe rfl) (Qe rfl)) rfl e2)
  cases hd:w.deed with
  | find y =>
    obtain ⟨hp',e,A',F'⟩:=QcL (i:=i) A D (by omega) h2
    refine ⟨hp',?_,by rw [Vm hd];exact A',F'⟩
    rw [Vm hd]
    have t:=tst "find" true (by rw [hd];exact zF) zF (by rw [hd];show (("find" : Str)==("find" : Str))=true;decide)
    exact Qy ((Qi s0).trans (Zc ((Zq t).trans (ag _ _ _ _ (QfN ..) e))))
  | put y x =>
    obtain ⟨hp',e,A',F'⟩:=Qfs (i:=i) A D hi hd h1 h2 (h3 x) (h4 x) hl
    refine ⟨hp',?_,by rw [UL hd];exact A',F'⟩
    rw [UL hd]
    have t1:=tst "find" false (by rw [hd];exact xA) zF (by rw [hd];show (("put" : Str)==("find" : Str))=false;decide)
    have t2:=tst "put" true (by rw [hd];exact xA) xA (by rw [hd];show (("put" : Str)==("put" : Str))=true;decide)
    exact Qy ((Qi s0).trans ((Qi ((QL t1).trans QM)).trans (Zc ((Zq t2).trans (ag _ _ _ _ (QfO ..) e)))))
  | cut y =>
    obtain ⟨hp',e,A',F'⟩:=Qeq (i:=i) A D hi (by omega) h2
    refine ⟨hp',?_,by rw [UK hd];exact A',F'⟩
    rw [UK hd]
    have t1:=tst "find" false (by rw [hd];exact xy) zF (by rw [hd];show (("cut" : Str)==("find" : Str))=false;decide)
    have t2:=tst "put" false (by rw [hd];exact xy) xA (by rw [hd];show (("cut" : Str)==("put" : Str))=false;decide)
    have t3:=tst "cut" true (by rw [hd];exact xy) xy (by rw [hd];show (("cut" : Str)==("cut" : Str))=true;decide)
    exact Qy ((Qi s0).trans ((Qi ((QL t1).trans QM)).trans ((Qi ((QL t2).trans QM)).trans (Zc ((Zq t3).trans (ag _ _ _ _ (QfP ..) e))))))
  | stretch l h =>
    obtain ⟨hp',e,A',F'⟩:=Ui (i:=i) A D hd (by omega) hw hlk
    refine ⟨hp',?_,A',F'⟩
    have t1:=tst "find" false (by rw [hd];exact KY) zF (by rw [hd];show (("stretch" : Str)==("find" : Str))=false;decide)
    have t2:=tst "put" false (by rw [hd];exact KY) xA (by rw [hd];show (("stretch" : Str)==("put" : Str))=false;decide)
    have t3:=tst "cut" false (by rw [hd];exact KY) xy (by rw [hd];show (("stretch" : Str)==("cut" : Str))=false;decide)
    exact Qy ((Qi s0).trans ((Qi ((QL t1).trans QM)).trans ((Qi ((QL t2).trans QM)).trans ((Qi ((QL t3).trans QM)).trans (ag _ _ _ _ (QfQ ..) e)))))
theorem gG {bg:TR.Bg} {r:TR.Row} {S':TR.Sh} {w':TR.Wk} (T:TR.Tree S bg) (W:TR.WOk S bg w) (hr:S.room<=50) (A:At hp n k a f q S w) (D:Dif n k a f q) (hl:S.pg.length < 90000) (hf:w.forks.length < 5000) (hw:w.pairs.length<=50000) (hs:TR.JY S w=some (r,S',w')) :
    ∃ hp',Xb [.ref a] hp=some (xi r,hp')/\At hp' n k a f q S' w'/\Fr hp hp' n k a f q:=by
  have env0:([DV.ref a].map Sl.val++List.replicate (3 - [DV.ref a].length) Sl.un)=[.val (.ref a),.un,.un]:=rfl
  cases he:w.ended with
  | true =>
    unfold TR.JY at hs
    rw [if_pos he] at hs
    cases hs
    refine ⟨hp,?_,A,Fr.refl⟩
    exact Qy (env:=[.val (.ref a),.un,.un]) (Zc ((Zq (QT (QP (Qe rfl) A.h3 ((yg ..).trans (by rw [he]))))).trans (QB (d:=.non) rfl)))
  | false =>
    obtain ⟨m,hm0,hpl⟩:∃ m,w.place.getD S.top=m/\(w.place=some m∨(w.place=none/\m=S.top)):=by
      cases e:w.place with
      | none=>exact ⟨S.top,rfl,.inr ⟨rfl,rfl⟩⟩
      | some m=>exact ⟨m,rfl,.inl rfl⟩
    unfold TR.JY at hs
    rw [if_neg (by rw [he];simp),hm0] at hs
    cases hg:S.pg[m]? with
    | none=>rw [hg] at hs;cases hs
    | some p =>
      rw [hg] at hs
      simp only at hs
      have ok:=T.page m p hg
      have hml:m < S.pg.length:=(List.getElem?_eq_some_iff.mp hg).1
      have hps:p.ps.length<=100:=by have a1:=ok.parts;have a2:=ok.few;split at a1<;>omega
      have hks:p.ks.length<=90:=by have a2:=ok.few;omega
      have r2:=T.room2
      have st0:sIf (eB (Qx "Walk" "ended" (Qb 0))) (QE (eC .non)) Zb [.val (.ref a),.un,.un] hp=some ((.nx,[.val (.ref a),.un,.un]),hp):=(QL (QT (QP (Qe rfl) A.h3 ((yg ..).trans (by rw [he]))))).trans QM
      have num:eIf (eB (Ql isD (Qx "Walk" "place" (Qb 0)) (eC .non))) (Qu "Shelf" "root" 1 ZE (Qx "Walk" "shelf" (Qb 0)) Qm) (Qx "Walk" "place" (Qb 0)) [.val (.ref a),.un,.un] hp=some (.int m,hp):=by
        rcases hpl with e | ⟨e,rfl⟩
        . exact (Qga (QT (b:=false) (Qk (QP (Qe rfl) A.h3 (qk ..)) rfl (by rw [Vp,e];rfl)))).trans (QP (Qe rfl) A.h3 ((qk ..).trans (by rw [e];rfl)))
        . exact (Qgb (QT (Qk (QP (Qe rfl) A.h3 (qk ..)) rfl (by rw [Vp,e];rfl)))).trans (QS (Xr A rfl) A.h1 (jC ..) Xe rfl (KM A.h1))
      have rd:=gq (i:=m) (d:=pgD p) A.h1 A.h2 D.nk (by rw [List.getElem?_map,hg];rfl)
      obtain ⟨A1,F1⟩:=A.count D { S with rd:=S.rd+1 } rfl rfl
      have st1:=QR (i:=1) num
      have st2:QC 2 (Qu "Shelf" "read" 2 Zs (Qx "Walk" "shelf" (Qb 0)) (Qc (Qb 1) Qm)) [.val (.ref a),.val (.int m),.un] hp=some ((.nx,[.val (.ref a),.val (.int m),.val (pgD p)]),(hp.set n (.ins "Shelf" (shF S.room k S.top (S.rd+1) S.wr)))):=QR (QS (Xr A rfl) A.h1 (VQ ..) (ZD (Qe rfl)) rfl rd)
      have lvE:∀ hpx:Hs,Ql ixG (Qb 2) (eC (.int 0)) [.val (.ref a),.val (.int m),.val (pgD p)] hpx=some (.int p.lv,hpx):=fun hpx=>Qk (Qe rfl) rfl (QbK p hpx)
      have plE:eB (Ql isD (Qx "Walk" "place" (Qb 0)) (eC .non)) [.val (.ref a),.val (.int m),.val (pgD p)] (hp.set n (.ins "Shelf" (shF S.room k S.top (S.rd+1) S.wr)))=some (w.place.isNone,(hp.set n (.ins "Shelf" (shF S.room k S.top (S.rd+1) S.wr)))):=QT (Qk (QP (Qe rfl) A1.h3 (qk ..)) rfl (by rw [Vp];rfl))
      have glE:Qx "Walk" "goal" (Qb 0) [.val (.ref a),.val (.int m),.val (pgD p)] (hp.set n (.ins "Shelf" (shF S.room k S.top (S.rd+1) S.wr)))=some (.int w.goal,(hp.set n (.ins "Shelf" (shF S.room k S.top (S.rd+1) S.wr)))):=QP (Qe rfl) A1.h3 (vc ..)
      have t1:Yo (eB (Ql isD (Qx "Walk" "place" (Qb 0)) (eC .non))) (eB (Ql ltD (Ql ixG (Qb 2) (eC (.int 0))) (Qx "Walk" "goal" (Qb 0)))) [.val (.ref a),.val (.int m),.val (pgD p)] (hp.set n (.ins "Shelf" (shF S.room k S.top (S.rd+1) S.wr)))=some (decide (w.place=none/\p.lv < w.goal),(hp.set n (.ins "Shelf" (shF S.room k S.top (S.rd+1) S.wr)))):=by
        cases hp0:w.place with
        | none =>
          rw [hp0] at plE
          refine (QaT plE).trans (QT (Qk (lvE _) glE ?_))
          rw [Jk]
          show some (DV.bl _,_)=_
          congr 3
          by_cases z:p.lv < w.goal
          . rw [decide_eq_true (show (p.lv:Int) < w.goal by omega),decide_eq_true (show (none:Option Nat)=none/\p.lv < w.goal from ⟨rfl,z⟩)]
          . rw [decide_eq_false (show ¬ (p.lv:Int) < w.goal by omega),decide_eq_false (fun h=>z h.2)]
        | some z =>
          rw [hp0] at plE
          rw [decide_eq_false (fun h=>by cases h.1)]
          exact QaS plE
      have go:∀ (g:DSx) (x:(Fl×En)×Hs),g [.val (.ref a),.val (.int m),.val (pgD p)] (hp.set n (.ins "Shelf" (shF S.room k S.top (S.rd+1) S.wr)))=some x->Qr (sIf (eB (Qx "Walk" "ended" (Qb 0))) (QE (eC .non)) Zb) (Qr (QC 1 (eIf (eB (Ql isD (Qx "Walk" "place" (Qb 0)) (eC .non))) (Qu "Shelf" "root" 1 ZE (Qx "Walk" "shelf" (Qb 0)) Qm) (Qx "Walk" "place" (Qb 0)))) (Qr (QC 2 (Qu "Shelf" "read" 2 Zs (Qx "Walk" "shelf" (Qb 0)) (Qc (Qb 1) Qm))) g)) [.val (.ref a),.un,.un] hp=some x:=fun g x hg=>(Qi st0).trans ((Qi st1).trans ((Qi st2).trans hg))
      by_cases hr1:w.place=none/\p.lv < w.goal
      . rw [if_pos hr1] at hs
        rw [decide_eq_true hr1] at t1
        cases hn:w.newp with
        | none=>rw [hn] at hs;cases hs
        | some c =>
          rw [hn] at hs
          simp only [Option.some.injEq,Prod.mk.injEq] at hs
          obtain ⟨rfl,rfl,rfl⟩:=hs
          have htop:m=S.top:=by
            rcases hpl with e | ⟨_,e⟩
            . rw [hr1.1] at e;cases e
            . exact e
          subst htop
          obtain ⟨c',z,b1,b2,_⟩:=W.tell (by omega)
          rw [hn] at b1;cases b1
          obtain ⟨hp',e,A',F'⟩:=Ug (i:=S.top) A1 D hn (List.getElem?_eq_some_iff.mp b2).1 hg hl
          rw [hn] at A'
          refine ⟨hp',?_,A',F1.trans F'⟩
          exact Qy (go _ _ (Zc ((Zq t1).trans (QB (QS (Qe rfl) A1.h3 (QfM ..) (ZD (Qe rfl)) rfl e)))))
      . rw [if_neg hr1] at hs
        rw [decide_eq_false hr1] at t1
        have t2:eB (QG 2 YV (Qc (Qb 2) (Qc (Qx "Walk" "aim" (Qb 0)) Qm))) [.val (.ref a),.val (.int m),.val (pgD p)] (hp.set n (.ins "Shelf" (shF S.room k S.top (S.rd+1) S.wr)))=some (TR.JU p w.aim,(hp.set n (.ins "Shelf" (shF S.room k S.top (S.rd+1) S.wr)))):=QT (ZG (Z4 (Qe rfl) (QP (Qe rfl) A1.h3 (YM ..))) rfl (Zr (Qah p w.aim) _))
        have go2:∀ (g:DSx) (x:(Fl×En)×Hs),g [.val (.ref a),.val (.int m),.val (pgD p)] (hp.set n (.ins "Shelf" (shF S.room k S.top (S.rd+1) S.wr)))=some x->Qr (sIf (Yo (eB (Ql isD (Qx "Walk" "place" (Qb 0)) (eC .non))) (eB (Ql ltD (Ql ixG (Qb 2) (eC (.int 0))) (Qx "Walk" "goal" (Qb 0))))) (QE (Qu "Walk" "raise_root_over" 2 ZO (Qb 0) (Qc (Qb 1) Qm))) Zb) g [.val (.ref a),.val (.int m),.val (pgD p)] (hp.set n (.ins "Shelf" (shF S.room k S.top (S.rd+1) S.wr)))=some x:=fun g x hg=>(Qi ((QL t1).trans QM)).trans hg
        cases hb:TR.JU p w.aim with
        | true =>
          rw [hb,if_pos rfl] at hs
          rw [hb] at t2
          cases hsd:p.sd with
          | none=>rw [hsd] at hs;cases hs
          | some s =>
            rw [hsd] at hs
            simp only [Option.some.injEq,Prod.mk.injEq] at hs
            obtain ⟨rfl,rfl,rfl⟩:=hs
            obtain ⟨hp',e,A',F'⟩:=Gu (i:=m) A1 D "side" (some s)
            refine ⟨hp',?_,A',F1.trans F'⟩
            refine Qy (go _ _ (go2 _ _ (Zc ((Zq t2).trans (QB (QS (Qe rfl) A1.h3 (Qcp ..) (Xt rfl (Qe rfl) (Qk (Qe rfl) rfl (QbL p _))) rfl ?_))))))
            rw [hsd];exact e
        | false =>
          rw [hb,if_neg (by simp)] at hs
          rw [hb] at t2
          have t3:eB (Ql gtD (Ql ixG (Qb 2) (eC (.int 0))) (Qx "Walk" "goal" (Qb 0))) [.val (.ref a),.val (.int m),.val (pgD p)] (hp.set n (.ins "Shelf" (shF S.room k S.top (S.rd+1) S.wr)))=some (decide (w.goal < p.lv),(hp.set n (.ins "Shelf" (shF S.room k S.top (S.rd+1) S.wr)))):=QT (Qk (lvE _) glE (by
            rw [Ji]
            show some (DV.bl _,_)=_
            congr 3
            by_cases z:w.goal < p.lv
            . rw [decide_eq_true z,decide_eq_true (by omega)]
            . rw [decide_eq_false z,decide_eq_false (by omega)]))
          by_cases hd:w.goal < p.lv
          . rw [if_pos hd] at hs
            rw [decide_eq_true hd] at t3
            cases hc:p.ps[TR.cLe p.ks w.aim]? with
            | none=>rw [hc] at hs;cases hs
            | some c =>
              rw [hc] at hs
              simp only [Option.some.injEq,Prod.mk.injEq] at hs
              obtain ⟨rfl,rfl,rfl⟩:=hs
              have pl:=ok.parts
              rw [if_neg (by omega)] at pl
              obtain ⟨c',z,b1,b2,_⟩:=T.kid m p hg (by omega) _ _ hc
              subst b1
              obtain ⟨A2,F2⟩:=A1.fork D { w with forks:=TR.zx w.forks p.lv m } rfl rfl
              obtain ⟨hp',e,A',F'⟩:=Gu (i:=m) A2 D "down" (some c')
              refine ⟨hp',?_,by rw [Int.toNat_natCast];exact A',F1.trans (F2.trans F')⟩
              have ke:=Qff p w.aim c' (by omega) pl hc
              have pt:Xp (Qb 1) (gSb (Qx "Walk" "forks" (Qb 0)) (Ql ixG (Qb 2) (eC (.int 0)))) [.val (.ref a),.val (.int m),.val (pgD p)] (hp.set n (.ins "Shelf" (shF S.room k S.top (S.rd+1) S.wr)))=some ((.nx,[.val (.ref a),.val (.int m),.val (pgD p)]),(hp.set n (.ins "Shelf" (shF S.room k S.top (S.rd+1) S.wr))).set f (.dic (fkD (TR.zx w.forks p.lv m)))):=QfA (Qe rfl) (QP (Qe rfl) A1.h3 (U8 ..)) (lvE _) A1.h4 hf
              refine Qy (go _ _ (go2 _ _ ((Qi ((QL t2).trans QM)).trans (Zc ((Zq t3).trans ((Qi pt).trans (QB (QS (Qe rfl) A2.h3 (Qcp ..) (Xt rfl (Qe rfl) (ZG (Z4 (Qe rfl) (QP (Qe rfl) A2.h3 (YM ..))) rfl (Zr ke _))) rfl ?_))))))))
              rw [show xi (TR.Row.down m (c':Int).toNat)=.tup [.str "down", .int m,.int c'] from by rw [Int.toNat_natCast];rfl]
              exact e
          . rw [if_neg hd] at hs
            rw [decide_eq_false hd] at t3
            have go3:∀ (g:DSx) (x:(Fl×En)×Hs),g [.val (.ref a),.val (.int m),.val (pgD p)] (hp.set n (.ins "Shelf" (shF S.room k S.top (S.rd+1) S.wr)))=some x->Qr (sIf (eB (QG 2 YV (Qc (Qb 2) (Qc (Qx "Walk" "aim" (Qb 0)) Qm)))) (QE (Qu "Walk" "go_on" 4 JT (Qb 0) (Qc (eC (.str "side")) (Qc (Qb 1) (Qc (Ql ixG (Qb 2) (eC (.int 4))) Qm))))) Zb) (Qr (sIf (eB (Ql gtD (Ql ixG (Qb 2) (eC (.int 0))) (Qx "Walk" "goal" (Qb 0)))) (Qr (Xp (Qb 1) (gSb (Qx "Walk" "forks" (Qb 0)) (Ql ixG (Qb 2) (eC (.int 0))))) (QE (Qu "Walk" "go_on" 4 JT (Qb 0) (Qc (eC (.str "down")) (Qc (Qb 1) (Qc (QG 2 YW (Qc (Qb 2) (Qc (Qx "Walk" "aim" (Qb 0)) Qm))) Qm)))))) Zb) g) [.val (.ref a),.val (.int m),.val (pgD p)] (hp.set n (.ins "Shelf" (shF S.room k S.top (S.rd+1) S.wr)))=some x:=fun g x hg=>(Qi ((QL t2).trans QM)).trans ((Qi ((QL t3).trans QM)).trans hg)
            have t4:eB (Ql gtD (Qx "Walk" "goal" (Qb 0)) (eC (.int 0))) [.val (.ref a),.val (.int m),.val (pgD p)] (hp.set n (.ins "Shelf" (shF S.room k S.top (S.rd+1) S.wr)))=some (decide (0 < w.goal),(hp.set n (.ins "Shelf" (shF S.room k S.top (S.rd+1) S.wr)))):=QT (Qk glE rfl (by
              rw [Ji]
              show some (DV.bl _,_)=_
              congr 3
              by_cases z:0 < w.goal
              . rw [decide_eq_true z,decide_eq_true (by omega)]
              . rw [decide_eq_false z,decide_eq_false (by omega)]))
            have glv:w.goal<=p.lv:=by
              rcases hpl with e | ⟨e,_⟩
              . obtain ⟨p',b1,b2,_⟩:=W.at_ m e
                rw [hg] at b1;cases b1;exact b2
              . exact Nat.le_of_not_lt fun h=>hr1 ⟨e,h⟩
            by_cases h0:0 < w.goal
            . rw [if_pos h0] at hs
              rw [decide_eq_true h0] at t4
              cases hn:w.newp with
              | none=>rw [hn] at hs;cases hs
              | some c =>
                rw [hn] at hs
                simp only [Option.some.injEq,Prod.mk.injEq] at hs
                obtain ⟨rfl,rfl,rfl⟩:=hs
                have kl:=TR.yG ok (k:=w.aim) (c:=c)
                obtain ⟨hp',e,A',F'⟩:=QdM (i:=m) (p:=p) A1 D hml hn hks hps (fun z=>by have:S.room < (TR.Zv p w.aim c).ks.length:=z;omega) (by omega) hl
                refine ⟨hp',?_,A',F1.trans F'⟩
                exact Qy (go _ _ (go2 _ _ (go3 _ _ (Zc ((Zq t4).trans (QB (QS (Qe rfl) A1.h3 (QfL ..) (Z4 (Qe rfl) (Qe rfl)) rfl e)))))))
            . rw [if_neg h0] at hs
              rw [decide_eq_false h0] at t4
              have hz:p.lv=0:=by omega
              have pl:=ok.parts
              rw [if_pos hz] at pl
              have kl:∀ x,(TR.QZ p w.aim x).ks.length<=S.room+1:=fun x=>TR.xE ok
              obtain ⟨hp',e,A',F'⟩:=vB (i:=m) (p:=p) A1 D hml hks (by omega) (fun x z=>by have:S.room < (TR.QZ p w.aim x).ks.length:=z;omega) (fun x=>by have:=kl x;omega) hl hw ((T.link m p hg).imp id fun ⟨x,s,_,b1,b2,_⟩=>⟨x,s,b1,b2⟩)
              have hs':=Option.some.inj hs
              refine ⟨hp',?_,?_,F1.trans F'⟩
              . rw [show r=(TR.Jf { S with rd:=S.rd+1 } w m p).1 by rw [hs']]
                exact Qy (go _ _ (go2 _ _ (go3 _ _ ((Qi ((QL t4).trans QM)).trans (QB (QS (Qe rfl) A1.h3 (QfK ..) (Z4 (Qe rfl) (Qe rfl)) rfl e))))))
              . rw [show S'=(TR.Jf { S with rd:=S.rd+1 } w m p).2.1 by rw [hs'],show w'=(TR.Jf { S with rd:=S.rd+1 } w m p).2.2 by rw [hs']]
                exact A'
end
theorem Qco (n:Nat) (d:TR.Deed) (hp:Hs):ZL [.ref hp.length,.ref n,Q3 d] (hp++[.ins "Walk" []])=some (.non,hp++[wkO n (hp.length+1) (hp.length+2) (TR.fresh d),.dic [],.lst []]):=by
 have st:∀ (nm:Str) (e:DEx) (v:DV) (fs:List (Str×DV)) (t t':Hs),e [.val (.ref hp.length),.val (.ref n),.val (Q3 d)] (hp++.ins "Walk" fs::t)=some (v,hp++.ins "Walk" fs::t')->fs.length < 1000->Q1 "Walk" nm (Qb 0) e [.val (.ref hp.length),.val (.ref n),.val (Q3 d)] (hp++.ins "Walk" fs::t)=some ((.nx,[.val (.ref hp.length),.val (.ref n),.val (Q3 d)]),hp++.ins "Walk" (JR nm v fs)::t'):=fun nm e v fs t t' he hl=>by
  rw [Jh he (Qe rfl) (Qa2 hp _ _) hl,Qb4]
 have a1:∀ fs,Xj [.val (.ref hp.length),.val (.ref n),.val (Q3 d)] (hp++.ins "Walk" fs::[])=some (.ref (hp.length+1),hp++.ins "Walk" fs::[.dic []]):=fun fs=>by
  show some (DV.ref (hp++[OV.ins "Walk" fs]).length,(hp++[OV.ins "Walk" fs])++[OV.dic []])=_
  simp
 have a2:∀ fs,J0 Qm [.val (.ref hp.length),.val (.ref n),.val (Q3 d)] (hp++.ins "Walk" fs::[.dic []])=some (.ref (hp.length+2),hp++.ins "Walk" fs::[.dic [],.lst []]):=fun fs=>by
  show some (DV.ref (hp++[OV.ins "Walk" fs,OV.dic []]).length,(hp++[OV.ins "Walk" fs,OV.dic []])++[OV.lst []])=_
  simp
 refine gy (env:=[.val (.ref hp.length),.val (.ref n),.val (Q3 d)]) ?_
 refine (Qi (st "shelf" _ (.ref n) [] [] [] (Qe rfl) (Nat.lt_of_le_of_lt (m:=20) (by repeat (first | exact Nat.zero_le _ | refine J2 ?_)) (by decide)))).trans ?_
 refine (Qi (st "deed" _ (Q3 d) _ [] [] (Qe rfl) (Nat.lt_of_le_of_lt (m:=20) (by repeat (first | exact Nat.zero_le _ | refine J2 ?_)) (by decide)))).trans ?_
 refine (Qi (st "aim" _ (.int d.key) _ [] [] (Qk (Qe rfl) rfl (QaL d _)) (Nat.lt_of_le_of_lt (m:=20) (by repeat (first | exact Nat.zero_le _ | refine J2 ?_)) (by decide)))).trans ?_
 refine (Qi (st "goal" _ (.int 0) _ [] [] rfl (Nat.lt_of_le_of_lt (m:=20) (by repeat (first | exact Nat.zero_le _ | refine J2 ?_)) (by decide)))).trans ?_
 refine (Qi (st "place" _ .non _ [] [] rfl (Nat.lt_of_le_of_lt (m:=20) (by repeat (first | exact Nat.zero_le _ | refine J2 ?_)) (by decide)))).trans ?_
 refine (Qi (st "forks" _ (.ref (hp.length+1)) _ [] [.dic []] (a1 _) (Nat.lt_of_le_of_lt (m:=20) (by repeat (first | exact Nat.zero_le _ | refine J2 ?_)) (by decide)))).trans ?_
 refine (Qi (st "new_page" _ .non _ [.dic []] [.dic []] rfl (Nat.lt_of_le_of_lt (m:=20) (by repeat (first | exact Nat.zero_le _ | refine J2 ?_)) (by decide)))).trans ?_
 refine (Qi (st "worth" _ .non _ [.dic []] [.dic []] rfl (Nat.lt_of_le_of_lt (m:=20) (by repeat (first | exact Nat.zero_le _ | refine J2 ?_)) (by decide)))).trans ?_
 refine (Qi (st "pairs" _ (.ref (hp.length+2)) _ [.dic []] [.dic [],.lst []] (a2 _) (Nat.lt_of_le_of_lt (m:=20) (by repeat (first | exact Nat.zero_le _ | refine J2 ?_)) (by decide)))).trans ?_
 exact st "ended" _ (.bl false) _ [.dic [],.lst []] [.dic [],.lst []] rfl (Nat.lt_of_le_of_lt (m:=20) (by repeat (first | exact Nat.zero_le _ | refine J2 ?_)) (by decide))
theorem vd {n:Nat} {d:TR.Deed} {fa:DAx} {env:En} {hp0 hp:Hs} (ha:fa env hp0=some ([.ref n,Q3 d],hp)):Jn "Walk" 3 ZL fa env hp0=some (.ref hp.length,hp++[wkO n (hp.length+1) (hp.length+2) (TR.fresh d),.dic [],.lst []]):=by
 unfold Jn
 rw [Qg ha]
 have al:XS (.ins "Walk" []) hp=some (.ref hp.length,hp++[.ins "Walk" []]):=rfl
 have gd:Qw (decide ([DV.ref n,Q3 d].length+1=3)) hp=some ((),hp):=rfl
 rw [Qg gd,Qg al,Qg (Qco n d hp)];rfl
theorem ge {hp:Hs} {n f q a:Nat} {w:TR.Wk} (h:hp[a]?=some (wkO n f q w)):Jv [.ref a] hp=some (.bl w.ended,hp):=Qy (QB (QP (Qe rfl) h (yg ..)))
def emp:DV:=.tup [.int 0,.tup [],.tup [],.non,.non]
theorem pf0 (d:DV):JR ("page_room" : Str) d []=[(("page_room" : Str),d)]:=by rfl
theorem pf1 (x d:DV):JR ("kept" : Str) d [(("page_room" : Str),x)]=[(("page_room" : Str),x),(("kept" : Str),d)]:=by rfl
theorem pf2 (x y d:DV):JR ("top" : Str) d [(("page_room" : Str),x),(("kept" : Str),y)]=[(("page_room" : Str),x),(("kept" : Str),y),(("top" : Str),d)]:=by rfl
theorem pf3 (x y z d:DV):JR ("read_count" : Str) d [(("page_room" : Str),x),(("kept" : Str),y),(("top" : Str),z)]=[(("page_room" : Str),x),(("kept" : Str),y),(("top" : Str),z),(("read_count" : Str),d)]:=by rfl
theorem pf4 (x y z u d:DV):JR ("write_count" : Str) d [(("page_room" : Str),x),(("kept" : Str),y),(("top" : Str),z),(("read_count" : Str),u)]=[(("page_room" : Str),x),(("kept" : Str),y),(("top" : Str),z),(("read_count" : Str),u),(("write_count" : Str),d)]:=by rfl
theorem QcT (r:Int) (hp:Hs):Zl [.ref hp.length,.int r] (hp++[.ins "Shelf" []])=some (.non,hp++[.ins "Shelf" (shF r (hp.length+1) 0 0 0),.lst [emp]]):=by
 simp [Zl,Y4,Q5,Qr,QC,QE,qc,sIf,Zb,yb,jS,x9,ya,Ql,Qb,eC,eB,asB,Yo,eOr,Jy,Jm,xT,Yp,eIf,X6,Qm,Qc,Zu,XA,QG,Zw,Qw,gN,Z7,Ju,Ji,Jk,JB,Jz,Jq,YG,Y8,x8,ZQ,JX,ZN,Q1,Xw,VA,Xp,gSb,zt,JZ,Xv,Qx,zg,zC,onI,onL,onD,Zo,Xk,zp,XZ,ixG,Z5,YS,qG,X8,qS,asI,Yk,VV,Qu,Jn,J0,Xj,ze,evP,Jr,Xm,Jt,JS,Js,Xl,Xo,Xn,Ze,QI,Z1,Qa2,Qb4,pf0,pf1,pf2,pf3,pf4,qR,lim,shF,emp]
theorem G3 {f g:DEx} {env:En} {hp:Hs} {ds:List DV} {a:Nat} (hf:f env hp=some (.tup ds,hp)) (hg:g env hp=some (.int (a:Int),hp)):eSl f (ZK g) ZJ env hp=some (.tup (ds.drop a),hp):=by
 unfold eSl ZK ZJ
 rw [Qg hf]
 have e1:(do let i <- asI (<- g env);pure (some i):M (Option Int)) hp=some (some (a:Int),hp):=by rw [Qg hg];rfl
 rw [Qg e1,Qg (rfl:(pure none:M (Option Int)) hp=some (none,hp)),<- Ge ds a];rfl
theorem QaE:∀ ds:List DV,blM (ds.map fun _=>.bl true)=some (ds.map fun _=>true)
  | []=>rfl
  | _::ds=>by
    show (blM (ds.map fun _=>.bl true)).map (true :: ·)=_
    rw [QaE ds];rfl
section
end
theorem QaF {g g':DV->DV->M DV} {fa fb fc:DEx} {env:En} {hp:Hs} {x y z:DV} {b b':Bool} (ha:fa env hp=some (x,hp)) (hb:fb env hp=some (y,hp)) (hc:fc env hp=some (z,hp)) (h1:g x y=pure (.bl b)) (h2:g' y z=pure (.bl b')):Xi g g' fa fb fc env hp=some (.bl (b&&b'),hp):=by
  unfold Xi
  rw [Qg ha,Qg hb,h1,pure_bind]
  show ((if b=true then _ else _:M DV)) hp=_
  cases b with
  | false=>rfl
  | true =>
    show (fc env >>= fun w=>g' y w) hp=_
    rw [Qg hc,h2];cases b'<;>rfl
def wvF (t:Int):List (Str×DV):=[("shelf", .ref 2),("deeds", .ref 5),("taken", .int t),("held", .ref 6),("done", .ref 7)]
theorem Qcu (t:Int):List.lookup ("shelf" : Str) (wvF t)=some (DV.ref 2):=by rfl
theorem qo (t:Int):List.lookup ("deeds" : Str) (wvF t)=some (DV.ref 5):=by rfl
theorem zH (t:Int):List.lookup ("taken" : Str) (wvF t)=some (DV.int t):=by rfl
theorem qJ (t:Int):List.lookup ("held" : Str) (wvF t)=some (DV.ref 6):=by rfl
theorem QdR (t:Int):List.lookup ("done" : Str) (wvF t)=some (DV.ref 7):=by rfl
theorem QfR (t u:Int):JR ("taken" : Str) (.int u) (wvF t)=wvF u:=by rfl
theorem QgS (t:Int):List.lookup ("step_walk" : Str) (wvF t)=none:=by rfl
theorem QgT (t:Int):List.lookup ("take_deed" : Str) (wvF t)=none:=by rfl
theorem Qei (t:Int):List.lookup ("move" : Str) (wvF t)=none:=by rfl
theorem gM (t:Int):List.lookup ("idle" : Str) (wvF t)=none:=by rfl
theorem Qej (t:Int):List.lookup ("hand_in" : Str) (wvF t)=none:=by rfl
theorem QgU (t:Int):List.lookup ("finish" : Str) (wvF t)=none:=by rfl
theorem xh {e f g:DEx} {env:En} {w w1:Hs} {a i:Nat} {ds:List DV} {d:DV} (he:e env w=some (d,w1)) (hf:f env w1=some (.ref a,w1)) (ha:w1[a]?=some (.lst ds)) (hg:g env w1=some (.int (i:Int),w1)) (hl:i < ds.length):Xp e (gSb f g) env w=some ((.nx,env),w1.set a (.lst (ds.set i d))):=by
 refine gz he ?_
 unfold gSb
 rw [Qg hf,Qg hg]
 have:zt (.ref a) (.int (i:Int)) d w1=some ((),w1.set a (.lst (ds.set i d))):=by
  show (Z3 a >>= _) w1=_
  rw [Qg (ZI ha)]
  show (asI (.int (i:Int)) >>= fun k=>match ixN ds.length k with | some j=>xu a (.lst (ds.set j d)) | none=>failure) w1=_
  rw [Qg (rfl:asI (.int (i:Int)) w1=some ((i:Int),w1)),uU hl];rfl
 rw [Qg this];rfl
theorem QcP {c f:Str} {o e:DEx} {env:En} {hp:Hs} {a:Nat} {fs:List (Str×DV)} {x y:Int} (ho:o env hp=some (.ref a,hp)) (h:hp[a]?=some (.ins c fs)) (hf:fs.lookup f=some (.int x)) (he:e env hp=some (.int y,hp)) (hl:fs.length < 1000):Xw c f Yk o e env hp=some ((.nx,env),hp.set a (.ins c (JR f (.int (x+y)) fs))):=by
 unfold Xw
 have e1:zg c f (.ref a) hp=some (.int x,hp):=by unfold zg;rw [xb h,hf];rfl
 have e2:zC c f (.ref a) (.int (x+y)) hp=some ((),hp.set a (.ins c (JR f (.int (x+y)) fs))):=by unfold zC;rw [xb h,decide_eq_true hl];rfl
 rw [Qg ho,Qg e1,Qg he,Qg (rfl:Yk (.int x) (.int y) hp=some (.int (x+y),hp)),Qg e2];rfl
section
variable {hp:Hs} {t h m:Nat} {hs ds ys:List DV}
theorem QfE (h2:hp[4]?=some (.ins "Weaver" (wvF t))) (h3:hp[5]?=some (.lst ds)) (h4:hp[6]?=some (.lst hs)) (hl:h < hs.length) {d:TR.Deed} (hd:ds[t]?=some (Q3 d)) :
  Jx [.ref 4,.int h] hp=some (.tup [.str "take", .int h,.int t],((hp++[wkO 2 (hp.length+1) (hp.length+2) (TR.fresh d),.dic [],.lst []]).set 6 (.lst (hs.set h (.tup [.int t,.ref hp.length])))).set 4 (.ins "Weaver" (wvF (t+1)))):=by
 let E:En:=[.val (.ref 4),.val (.int h),.val (.int t)]
 let w1:Hs:=hp++[wkO 2 (hp.length+1) (hp.length+2) (TR.fresh d),.dic [],.lst []]
 have g:∀ {i:Nat} {o:OV},hp[i]?=some o->w1[i]?=some o:=fun {i o} e=>(List.getElem?_append_left (List.getElem?_eq_some_iff.mp e).1).trans e
 let w2:Hs:=w1.set 6 (.lst (hs.set h (.tup [.int t,.ref hp.length])))
 have h2':w2[4]?=some (.ins "Weaver" (wvF t)):=(QI _ _ _ _ (by decide)).trans (g h2)
 have mk:Jn "Walk" 3 ZL (Qc (Qx "Weaver" "shelf" (Qb 0)) (Qc (Ql ixG (Qx "Weaver" "deeds" (Qb 0)) (Qb 2)) (Qm))) E hp=some (.ref hp.length,w1):=vd (d:=d) (Z4 (QP (Qe rfl) h2 (Qcu _)) (Qk (QP (Qe rfl) h2 (qo _)) (Qe rfl) (X7 h3 hd)))
 refine Qy (env:=E) ((Qi (env1:=E) (QR (QP (Qe rfl) h2 (zH _)))).trans ?_)
 refine (Qi (env1:=E) (hp1:=w2) (xh (Je (Z4 (Qe rfl) mk) (by simp)) (QP (Qe rfl) (g h2) (qJ _)) (g h4) (Qe rfl) hl)).trans ?_
 refine (Qi (env1:=E) (hp1:=w2.set 4 (.ins "Weaver" (wvF (t+1)))) ((QcP (Qe rfl) h2' (zH _) rfl (show (5:Nat) < 1000 by decide)).trans (by rw [QfR]))).trans ?_
 exact QB (Je (Xt rfl (Qe rfl) (Qe rfl)) (by simp))
end
theorem vw {nxt:NX} {t:DV->M Bool} {f:DV->M DV} {g:DV->DV} {hp:Hs} (ds:List DV) (hx:∀ i,i<=ds.length->nxt i hp=some (ds[i]?,hp)) (ht:∀ d∈ds,t d hp=some (true,hp)) (hf:∀ d∈ds,f d hp=some (g d,hp)) (hl:ds.length < 100000):ZX nxt t f 100000 0 hp=some (ds.map g,hp):=by
  suffices h:∀ (m i n:Nat),m+i=ds.length->m < n->ZX nxt t f n i hp=some ((ds.drop i).map g,hp) by simpa using h ds.length 0 100000 rfl hl
  intro m
  induction m with
  | zero =>
    intro i n e hn'
    obtain ⟨n,rfl⟩:∃ k,n=k+1:=⟨n - 1,by omega⟩
    have:i=ds.length:=by omega
    subst this
    have e1:=hx ds.length (Nat.le_refl _)
    rw [show ds[ds.length]?=none by simp] at e1
    rw [ZX,Qg e1,List.drop_length];rfl
  | succ m ih =>
    intro i n e hn'
    obtain ⟨n,rfl⟩:∃ k,n=k+1:=⟨n - 1,by omega⟩
    have hlt:i < ds.length:=by omega
    have e1:=hx i (by omega)
    rw [List.getElem?_eq_getElem hlt] at e1
    rw [ZX,Qg e1]
    simp only
    rw [Qg (ht ds[i] (List.getElem_mem hlt)),List.drop_eq_getElem_cons hlt]
    simp only [if_true]
    rw [Qg (hf ds[i] (List.getElem_mem hlt)),Qg (ih (i+1) n (by omega) (by omega))];rfl
theorem yY {f:DEx} {env:En} {hp:Hs} {n:Nat} {ds:List DV} (h:f env hp=some (.ref n,hp)) (hn:hp[n]?=some (.lst ds)):xLs f env hp=some (nxW n,hp):=by
 unfold xLs
 rw [Qg h]
 show (Z3 n >>= _) hp=_
 rw [Qg (ZI hn)];rfl
theorem jx {hp:Hs} {n:Nat} {ds:List DV} (hn:hp[n]?=some (.lst ds)) (i:Nat):nxW n i hp=some (ds[i]?,hp):=by
 unfold nxW
 rw [Qg (ZI hn)];rfl
theorem uz (p:DV->Bool):∀ ds:List DV,blM (ds.map fun d=>.bl (p d))=some (ds.map p)
 | []=>rfl
 | d::r=>by rw [List.map_cons,blM,uz p r];rfl
theorem QeB {f:DEx} {env:En} {hp hp1:Hs} {b:Bool} (h:f env hp=some (.bl b,hp1)):jt "bool" f env hp=some (.bl true,hp1):=by
 unfold jt
 rw [Qg h];rfl
section
variable {hp:Hs} {t h:Nat} {hs ds:List DV} {x:Int}
theorem Qey (h2:hp[4]?=some (.ins "Weaver" (wvF t))) (h3:hp[5]?=some (.lst ds)) (h4:hp[6]?=some (.lst hs)) (hl:hs.length < 1000):Zf [.ref 4] hp=some (.bl (((t:Int)==(ds.length:Int))&&hs.all isN),hp):=by
  let E:En:=[.val (.ref 4)]
  have cm:XO E hp=some (.lst (hs.map fun d=>.bl (isN d)),hp):=by
    unfold XO Zp
    rw [Qg (yY (QP (Qe rfl) h2 (qJ _)) h4)]
    have c:=vw (nxt:=nxW 6) (t:=fun d=>xD (cE [] E d)) (f:=fun d=>Ql isD (Qb 0) (eC .non) (cE [] E d)) (g:=fun d=>.bl (isN d)) (hp:=hp) hs (fun i _=>jx h4 i) (fun d _=>rfl) (fun d _=>Qk (Qe rfl) rfl rfl) (by omega)
    rw [show lim=100000 from rfl,Qg c];rfl
  refine Qy (env:=E) (QB ?_)
  rw [za (Qk (QP (Qe rfl) h2 (zH _)) (qE (QP (Qe rfl) h2 (qo _)) h3) (eqI _ _ _))]
  cases ((t:Int)==(ds.length:Int)) with
  | false=>rfl
  | true =>
    rw [if_pos rfl]
    refine Ym (ZD cm) ?_
    show (lsG (.lst (hs.map fun d=>.bl (isN d))) >>= _) hp=_
    rw [Qg (rfl:lsG (.lst (hs.map fun d=>DV.bl (isN d))) hp=some (hs.map fun d=>.bl (isN d),hp)),uz]
    show some (DV.bl ((hs.map isN).all id),hp)=_
    rw [List.all_map];rfl
theorem Qa6 {d:DV} (h2:hp[4]?=some (.ins "Weaver" (wvF t))) (h3:hp[5]?=some (.lst ds)) (hl:ds.length < 1000):ZY [.ref 4,d] hp=some (.int ds.length,hp.set 5 (.lst (ds++[d]))):=by
 have h2':(hp.set 5 (.lst (ds++[d])))[4]?=some (.ins "Weaver" (wvF t)):=(QI _ _ _ _ (by decide)).trans h2
 have h3':(hp.set 5 (.lst (ds++[d])))[5]?=some (.lst (ds++[d])):=Ze _ _ _ (by rw [h3];rfl)
 refine Qy (env:=[.val (.ref 4),.val d]) ((Qi (J3 (xJ (QP (Qe rfl) h2 (qo _)) h3 (Qe rfl) (by omega)))).trans (QB (Qk (qE (QP (Qe rfl) h2' (qo _)) h3') rfl ?_)))
 show some (DV.int (((ds++[d]).length:Int) - 1),_)=_
 rw [List.length_append];simp
theorem Qf6 (h2:hp[4]?=some (.ins "Weaver" (wvF t))) (h4:hp[6]?=some (.lst hs)):Jy (eB (Xi leD ltD (eC (.int 0)) (Qb 1) (Zw Z5 (Qc (Qx "Weaver" "held" (Qb 0)) (Qm))))) [.val (.ref 4),.val (.int x)] hp=some (!(decide (0<=x)&&decide (x < hs.length)),hp) :=
 J5 (QT (QaF rfl (Qe rfl) (qE (QP (Qe rfl) h2 (qJ _)) h4) rfl rfl))
theorem vq (h2:hp[4]?=some (.ins "Weaver" (wvF t))) (h4:hp[6]?=some (.lst hs)) (hl:h < hs.length):Jy (eB (Xi leD ltD (eC (.int 0)) (Qb 1) (Zw Z5 (Qc (Qx "Weaver" "held" (Qb 0)) (Qm))))) [.val (.ref 4),.val (.int h)] hp=some (false,hp):=by
 rw [Qf6 h2 h4,decide_eq_true (p:=(0:Int)<=h) (by omega),decide_eq_true (p:=(h:Int) < hs.length) (by omega)];rfl
theorem Qba {d:DV} (h2:hp[4]?=some (.ins "Weaver" (wvF t))) (h4:hp[6]?=some (.lst hs)) (hd:hs[h]?=some d):eB (Ql qB (Ql ixG (Qx "Weaver" "held" (Qb 0)) (Qb 1)) (eC .non)) [.val (.ref 4),.val (.int h)] hp=some (!isN d,hp) :=
 QT (Qk (Qk (QP (Qe rfl) h2 (qJ _)) (Qe rfl) (X7 h4 hd)) rfl rfl)
theorem Qd9 {d r:DV} {hp':Hs} (h2:hp[4]?=some (.ins "Weaver" (wvF t))) (h4:hp[6]?=some (.lst hs)) (hd:hs[h]?=some d) (hn:isN d=false) (e:J7 [.ref 4,.int h] hp=some (r,hp')):ZF [.ref 4,.int h] hp=some (r,hp') :=
 Qy (env:=[.val (.ref 4),.val (.int h)]) ((Qi ((QL (vq h2 h4 (List.getElem?_eq_some_iff.mp hd).1)).trans QM)).trans (Zc ((Zq ((Qba h2 h4 hd).trans (by rw [hn];rfl))).trans (QB (QS (Qe rfl) h2 (QgS _) (ZD (Qe rfl)) rfl e)))))
theorem Qgl {d r:DV} {hp':Hs} (h2:hp[4]?=some (.ins "Weaver" (wvF t))) (h3:hp[5]?=some (.lst ds)) (h4:hp[6]?=some (.lst hs)) (hd:hs[h]?=some d) (hn:isN d=true) (ht:t < ds.length) (e:Jx [.ref 4,.int h] hp=some (r,hp')):ZF [.ref 4,.int h] hp=some (r,hp') :=
 Qy (env:=[.val (.ref 4),.val (.int h)]) ((Qi ((QL (vq h2 h4 (List.getElem?_eq_some_iff.mp hd).1)).trans QM)).trans ((Qi ((QL ((Qba h2 h4 hd).trans (by rw [hn];rfl))).trans QM)).trans (Zc ((Zq (QT (Qk (QP (Qe rfl) h2 (zH _)) (qE (QP (Qe rfl) h2 (qo _)) h3) (show some (DV.bl (decide ((t:Int) < ds.length)),hp)=some (.bl true,hp) by rw [decide_eq_true (by omega)])))).trans (QB (QS (Qe rfl) h2 (QgT _) (ZD (Qe rfl)) rfl e))))))
theorem Qgk {d:DV} (h2:hp[4]?=some (.ins "Weaver" (wvF t))) (h3:hp[5]?=some (.lst ds)) (h4:hp[6]?=some (.lst hs)) (hd:hs[h]?=some d) (hn:isN d=true) (ht:¬ t < ds.length):ZF [.ref 4,.int h] hp=some (.tup [.str "rest", .int h],hp) :=
 Qy (env:=[.val (.ref 4),.val (.int h)]) ((Qi ((QL (vq h2 h4 (List.getElem?_eq_some_iff.mp hd).1)).trans QM)).trans ((Qi ((QL ((Qba h2 h4 hd).trans (by rw [hn];rfl))).trans QM)).trans ((Qi ((QL (QT (Qk (QP (Qe rfl) h2 (zH _)) (qE (QP (Qe rfl) h2 (qo _)) h3) (show some (DV.bl (decide ((t:Int) < ds.length)),hp)=some (.bl false,hp) by rw [decide_eq_false (by omega)])))).trans QM)).trans (QB (Je (Z4 rfl (Qe rfl)) (by simp))))))
end
def hdD (v:TR.Wk) (n a:Nat):DV:=if v.ended=true then .non else .tup [.int n,.ref a]
def QcJ (i n:Nat):DV->DV
 | .tup (x::xs)=>.tup ([x,.int i,.int n]++xs)
 | _=>.non
def zr (i:Nat):TR.Out->DV
 | .rest=>.tup [.str "rest", .int i]
 | .take n=>.tup [.str "take", .int i,.int n]
 | .did n r=>QcJ i n (xi r)
structure WA (w:Hs) (ds:List TR.Deed) (s:TR.St) (L:Nat->Nat):Prop where
 h1:w[2]?=some (.ins "Shelf" (shF s.S.room 3 s.S.top s.S.rd s.S.wr))
 h2:w[3]?=some (.lst (s.S.pg.map pgD))
 hv:w[4]?=some (.ins "Weaver" (wvF s.tk))
 hd:w[5]?=some (.lst (ds.map Q3))
 hh:∃ hs,w[6]?=some (.lst hs)/\hs.length=s.ws.length/\∀ (i:Nat) (v:TR.Wk),s.ws[i]?=some v->hs[i]?=some (hdD v (s.ns.getD i 0) (L i))
 hn:∃ ys,w[7]?=some (.lst ys)/\ys.length+TR.lc s.ws<=s.tk
 ob:∀ (i:Nat) (v:TR.Wk),s.ws[i]?=some v->v.ended=false->w[L i]?=some (wkO 2 (L i+1) (L i+2) v)/\w[L i+1]?=some (.dic (fkD v.forks))/\w[L i+2]?=some (.lst (prD v.pairs))/\11 < L i
 dj:∀ (i j:Nat) (v u:TR.Wk),i≠j->s.ws[i]?=some v->v.ended=false->s.ws[j]?=some u->u.ended=false->L i+2 < L j∨L j+2 < L i
structure Fw (C:Nat->Prop) (w:Hs) (s:TR.St) (L:Nat->Nat) (w':Hs) (s':TR.St) (L':Nat->Nat):Prop where
 len:w.length<=w'.length
 own:∀ (i:Nat) (v:TR.Wk),s'.ws[i]?=some v->v.ended=false->(∃ u,s.ws[i]?=some u/\u.ended=false/\L' i=L i)∨w.length<=L' i
 old:∀ x,x < w.length->¬ C x->(∀ (i:Nat) (u:TR.Wk),s.ws[i]?=some u->u.ended=false->x < L i∨L i+2 < x)->w'[x]?=w[x]?
def CW (x:Nat):Prop:=x=2∨x=3∨x=4∨x=6∨x=7
section
variable {C:Nat->Prop} {w w1 w2:Hs} {s s1 s2:TR.St} {L L1 L2:Nat->Nat} {ds:List TR.Deed} {bg:TR.Bg} {b:Nat->Nat}
theorem Fw.refl:Fw C w s L w s L:=⟨Nat.le_refl _,fun i v h e=>.inl ⟨v,h,e,rfl⟩,fun _ _ _ _=>rfl⟩
theorem Fw.trans (a:Fw C w s L w1 s1 L1) (c:Fw C w1 s1 L1 w2 s2 L2):Fw C w s L w2 s2 L2:=by
 have l1:=a.len
 refine ⟨Nat.le_trans a.len c.len,fun i v h e=>?_,fun x hx hC hL=>?_⟩
 ·rcases c.own i v h e with ⟨u,h1,e1,q⟩ | q
  ·rw [q];exact a.own i u h1 e1
  ·exact .inr (by omega)
 ·rw [c.old x (by omega) hC fun i u h e=>?_]
  ·exact a.old x hx hC hL
  ·rcases a.own i u h e with ⟨v,h1,e1,q⟩ | q
   ·rw [q];exact hL i v h1 e1
   ·exact .inl (by omega)
theorem uR {v:TR.Wk} {n a:Nat} (h:v.ended=true):hdD v n a=.non:=by unfold hdD;rw [if_pos h]
theorem uQ {v:TR.Wk} {n a:Nat} (h:v.ended=false):hdD v n a=.tup [.int n,.ref a]:=by unfold hdD;rw [if_neg (by rw [h];simp)]
theorem GP {S S':TR.Sh} {v v':TR.Wk} {r:TR.Row} (h:TR.JY S v=some (r,S',v')) (he:v.ended=false) (T:TR.Tree S bg) (W:TR.WOk S bg v):∃ x xs,xi r=.tup (x::xs)/\xs.length<=10:=by
  cases r with
  | non =>
    exfalso
    unfold TR.JY at h
    rw [if_neg (by rw [he];simp)] at h
    split at h
    . cases h
    . split at h
      . split at h<;>cases h
      . split at h
        . split at h<;>cases h
        . split at h
          . split at h<;>cases h
          . split at h
            . split at h
              . cases h
              . cases h
            . have e:=Option.some.inj h
              unfold TR.Jf at e
              split at e
              . cases e
              . cases e
              . cases e
              . split at e
                . split at e<;>cases e
                . cases e
  | side n t=>exact ⟨_,_,rfl,Nat.le_of_ble_eq_true rfl⟩
  | down n t=>exact ⟨_,_,rfl,Nat.le_of_ble_eq_true rfl⟩
  | found n t=>exact ⟨_,_,rfl,Nat.le_of_ble_eq_true rfl⟩
  | put n t k=>exact ⟨_,_,rfl,Nat.le_of_ble_eq_true rfl⟩
  | cut n t=>exact ⟨_,_,rfl,Nat.le_of_ble_eq_true rfl⟩
  | read n ps t=>cases t with
    | none=>exact ⟨_,_,rfl,Nat.le_of_ble_eq_true rfl⟩
    | some t=>obtain ⟨t,a⟩:=t;exact ⟨_,_,rfl,Nat.le_of_ble_eq_true rfl⟩
  | told n k=>exact ⟨_,_,rfl,Nat.le_of_ble_eq_true rfl⟩
  | raised n t=>exact ⟨_,_,rfl,Nat.le_of_ble_eq_true rfl⟩
theorem Qbj {v v':TR.Wk} {ws:List TR.Wk} {i:Nat} (h:ws[i]?=some v):TR.lc (ws.set i v')+(if v.ended=false then 1 else 0)=TR.lc ws+(if v'.ended=false then 1 else 0):=by
 have:=TR.jQ TR.lf ws i v v' h
 unfold TR.lf at this
 unfold TR.lc TR.lf
 simpa using this
theorem Qbs (A:WA w ds s L) (Y:TR.StOk ds s bg b) {i:Nat} (hi:i < s.ws.length) (h48:ds.length<=60) (h11:11 < w.length) (hb:b i<=9000) {o:TR.Out} {s':TR.St} (hm:TR.mv ds s i=some (o,s')):∃ w' L',ZF [.ref 4,.int i] w=some (zr i o,w')/\WA w' ds s' L'/\Fw CW w s L w' s' L':=by
  obtain ⟨hs,k6,hsl,hsi⟩:=A.hh
  obtain ⟨ys,k7,hyl⟩:=A.hn
  have tkl:=Y.tk
  have hw:=List.getElem?_eq_getElem hi
  generalize s.ws[i]=v at hw
  have hvi:=hsi i v hw
  unfold TR.mv at hm
  rw [hw] at hm
  dsimp only at hm
  cases he:v.ended with
  | true =>
    rw [he,if_pos rfl] at hm
    rw [uR he] at hvi
    cases hd:ds[s.tk]? with
    | none =>
      rw [hd] at hm
      cases hm
      have le:ds.length<=s.tk:=by simpa using hd
      exact ⟨w,L,Qgk A.hv A.hd k6 hvi rfl (by rw [List.length_map];omega),A,Fw.refl⟩
    | some d =>
      rw [hd] at hm
      cases hm
      have lt:s.tk < ds.length:=(List.getElem?_eq_some_iff.mp hd).1
      have e:=QfE (h:=i) A.hv A.hd k6 (by omega) (d:=d) (by rw [List.getElem?_map,hd];rfl)
      have l7:7 < w.length:=(List.getElem?_eq_some_iff.mp k7).1
      have old:∀ {x:Nat} {z:OV},x≠4->x≠6->w[x]?=some z->(((w++[wkO 2 (w.length+1) (w.length+2) (TR.fresh d),.dic [],.lst []]).set 6 (.lst (hs.set i (.tup [.int s.tk,.ref w.length])))).set 4 (.ins "Weaver" (wvF (s.tk+1))))[x]?=some z:=fun {x z} n4 n6 hx=>gs (Ne.symm n4) (gs (Ne.symm n6) ((List.getElem?_append_left (List.getElem?_eq_some_iff.mp hx).1).trans hx))
      have gap:∀ j x,[wkO 2 (w.length+1) (w.length+2) (TR.fresh d),.dic [],.lst []][j]?=some x->(w++[wkO 2 (w.length+1) (w.length+2) (TR.fresh d),.dic [],.lst []])[w.length+j]?=some x:=fun j x h=>by rw [List.getElem?_append_right (by omega),Nat.add_sub_cancel_left];exact h
      have lcs:=Qbj (v':=TR.fresh d) hw
      rw [if_neg (by rw [he];simp),if_pos (show (TR.fresh d).ended=false from rfl)] at lcs
      refine ⟨_,fun j=>if j=i then w.length else L j,Qgl A.hv A.hd k6 hvi rfl (by rw [List.length_map];exact lt) e,⟨old (by decide) (by decide) A.h1,old (by decide) (by decide) A.h2,gss (gs (by decide) ((List.getElem?_append_left (by omega)).trans A.hv)),old (by decide) (by decide) A.hd,⟨hs.set i (.tup [.int s.tk,.ref w.length]),gs (by decide) (gss ((List.getElem?_append_left (by omega)).trans k6)),by simp [hsl],fun j u hj=>?_⟩,⟨ys,old (by decide) (by decide) k7,by show ys.length+TR.lc (s.ws.set i (TR.fresh d))<=s.tk+1;omega⟩,fun j u hj hu=>?_,fun j j' u u' hne hj hu hj' hu'=>?_⟩,⟨by simp,fun j u hj hu=>?_,fun x hx hC _=>?_⟩⟩
      . rcases TR.QK hj with ⟨rfl,e2,_⟩ | ⟨ne,hj⟩
        . rw [e2,List.getElem?_set_self (by omega)]
          show _=some (hdD (TR.fresh d) ((s.ns.set j s.tk).getD j 0) (if j=j then w.length else L j))
          rw [if_pos rfl,uQ rfl,List.getD_eq_getElem?_getD,List.getElem?_set_self (by rw [Y.len];omega)];rfl
        . rw [List.getElem?_set_ne (Ne.symm ne)]
          show _=some (hdD u ((s.ns.set i s.tk).getD j 0) (if j=i then w.length else L j))
          rw [if_neg ne,List.getD_eq_getElem?_getD,List.getElem?_set_ne (Ne.symm ne),<- List.getD_eq_getElem?_getD]
          exact hsi j u hj
      . rcases TR.QK hj with ⟨rfl,e2,_⟩ | ⟨ne,hj⟩
        . rw [e2,if_pos rfl]
          exact ⟨gs (by omega) (gs (by omega) (gap 0 _ rfl)),gs (by omega) (gs (by omega) (gap 1 _ rfl)),gs (by omega) (gs (by omega) (gap 2 _ rfl)),h11⟩
        . rw [if_neg ne]
          obtain ⟨o1,o2,o3,o4⟩:=A.ob j u hj hu
          exact ⟨old (by omega) (by omega) o1,old (by omega) (by omega) o2,old (by omega) (by omega) o3,o4⟩
      . have small:∀ (j:Nat) (u:TR.Wk),s.ws[j]?=some u->u.ended=false->L j+2 < w.length:=fun j u hj hu=>(List.getElem?_eq_some_iff.mp (A.ob j u hj hu).2.2.1).1
        rcases TR.QK hj with ⟨rfl,e2,_⟩ | ⟨ne,hj2⟩
        . rcases TR.QK hj' with ⟨rfl,e3,_⟩ | ⟨ne',hj3⟩
          . exact absurd rfl hne
          . rw [if_pos rfl,if_neg ne'];exact .inr (small _ _ hj3 hu')
        . rcases TR.QK hj' with ⟨rfl,e3,_⟩ | ⟨ne',hj3⟩
          . rw [if_neg ne,if_pos rfl];exact .inl (small _ _ hj2 hu)
          . rw [if_neg ne,if_neg ne'];exact A.dj j j' u u' hne hj2 hu hj3 hu'
      . rcases TR.QK hj with ⟨rfl,e2,_⟩ | ⟨ne,hj⟩
        . rw [if_pos rfl];exact .inr (Nat.le_refl _)
        . rw [if_neg ne];exact .inl ⟨u,hj,hu,rfl⟩
      . rw [QI _ _ _ _ (fun h=>hC (by unfold CW;omega)),QI _ _ _ _ (fun h=>hC (by unfold CW;omega)),List.getElem?_append_left hx]
  | false =>
    rw [he,if_neg (by simp)] at hm
    have W:=Y.A.ok i v hw he
    cases es:TR.JY s.S v with
    | none=>rw [es] at hm;cases hm
    | some q =>
      obtain ⟨r,S2,v2⟩:=q
      rw [es] at hm
      cases hm
      rw [uQ he] at hvi
      obtain ⟨o1,o2,o3,o4⟩:=A.ob i v hw he
      have D:Dif 2 3 (L i) (L i+1) (L i+2):=⟨by decide,by omega,by omega,by omega,by omega,by omega,by omega,by omega,by omega,by omega⟩
      have pg:=Y.pages
      have fl:=(Y.fk i v hw he).len Y.T
      have pl:=Y.pr i v hw he
      obtain ⟨w1,e1,A1,F1⟩:=gG Y.T W (Nat.le_trans Y.rm (by decide)) ⟨A.h1,A.h2,o1,o2,o3⟩ D (by omega) (by omega) (by omega) es
      obtain ⟨x,xs,ex,xl⟩:=GP es he Y.T W
      have k:∀ {j:Nat} {z:OV},j≠2->j≠3->(j < L i∨L i+2 < j)->w[j]?=some z->w1[j]?=some z:=fun {j z} n2 n3 nL hj=>(F1.2 j (List.getElem?_eq_some_iff.mp hj).1 n2 n3 (by omega) (by omega) (by omega)).trans hj
      have hv1:=k (by decide) (by decide) (.inl (by omega)) A.hv
      have k61:=k (by decide) (by decide) (.inl (by omega)) k6
      have k71:=k (by decide) (by decide) (.inl (by omega)) k7
      let n:=s.ns.getD i 0
      let Hd:DV:=.tup [.int n,.ref (L i)]
      let E:Sl->Sl->Sl->En:=fun x y z=>[.val (.ref 4),.val (.int i),x,y,z]
      let E5:En:=E (.val Hd) (.val (.ref (L i))) (.val (xi r))
      have u1:QC 2 (Ql ixG (Qx "Weaver" "held" (Qb 0)) (Qb 1)) (E .un .un .un) w=some ((.nx,E (.val Hd) .un .un),w):=QR (Qk (QP (Qe rfl) A.hv (qJ _)) (Qe rfl) (X7 k6 hvi))
      have u2:QC 3 (Ql ixG (Qb 2) (eC (.int 1))) (E (.val Hd) .un .un) w=some ((.nx,E (.val Hd) (.val (.ref (L i))) .un),w):=QR (Qk (x:=Hd) (Qe rfl) rfl (JG (i:=1) rfl w))
      have u3:QC 4 (Qu "Walk" "step" 1 Xb (Qb 3) Qm) (E (.val Hd) (.val (.ref (L i))) .un) w=some ((.nx,E5),w1):=QR (QS (Qe rfl) o1 (gI ..) Xe rfl e1)
      have ovr:eB (Qu "Walk" "over" 1 Jv (Qb 3) Qm) E5 w1=some (v2.ended,w1):=QT (QS (Qe rfl) A1.h3 (gJ ..) Xe rfl (ge A1.h3))
      have ret:∀ w':Hs,QE (Ql Ja (Zu (Qc (Ql ixG (Qb 4) (eC (.int 0))) (Qc (Qb 1) (Qc (Ql ixG (Qb 2) (eC (.int 0))) (Qm))))) (eSl (Qb 4) (ZK (eC (.int 1))) (ZJ))) E5 w'=some ((.rt (QcJ i n (xi r)),E5),w'):=fun w'=>by
        have e0:Qb 4 E5 w'=some (.tup (x::xs),w'):=by rw [<- ex];exact Qe rfl
        refine QB (Qk (Je (Xt (Qk e0 rfl (JG (i:=0) rfl w')) (Qe rfl) (Qk (x:=Hd) (Qe rfl) rfl (JG (i:=0) rfl w'))) (by simp)) (G3 (a:=1) e0 rfl) ?_)
        rw [ex]
        show (Qw (qR ([x,.int i,.int n]++xs)) >>= fun _=>pure (DV.tup ([x,.int i,.int n]++xs))) w'=_
        rw [Yf (by simp;omega)];rfl
      have lcs:=Qbj (v':=v2) hw
      rw [if_pos he] at lcs
      have hil:i < hs.length:=by omega
      have back:∀ (w':Hs) (hs' ys':List DV),(∀ (j:Nat) (z:OV),j≠6->j≠7->w1[j]?=some z->w'[j]?=some z)->w1.length<=w'.length->(∀ j,j < w1.length->j≠6->j≠7->w'[j]?=w1[j]?)->w'[6]?=some (.lst hs')->hs'.length=hs.length->(∀ j,j≠i->hs'[j]?=hs[j]?)->hs'[i]?=some (hdD v2 n (L i))->w'[7]?=some (.lst ys')->ys'.length+TR.lc (s.ws.set i v2)<=s.tk->WA w' ds { s with S:=S2,ws:=s.ws.set i v2 } L/\Fw CW w s L w' { s with S:=S2,ws:=s.ws.set i v2 } L:=by
        intro w' hs' ys' gg ll fr g6 hl6 hj6 hi6 g7 hl7
        refine ⟨⟨gg 2 _ (by decide) (by decide) A1.h1,gg 3 _ (by decide) (by decide) A1.h2,gg 4 _ (by decide) (by decide) hv1,gg 5 _ (by decide) (by decide) (k (by decide) (by decide) (.inl (by omega)) A.hd),⟨hs',g6,by simp [hl6,hsl],fun j u hj=>?_⟩,⟨ys',g7,hl7⟩,fun j u hj hu=>?_,fun j j' u u' hne hj hu hj' hu'=>?_⟩,⟨Nat.le_trans F1.1 ll,fun j u hj hu=>?_,fun y hy hC hL=>?_⟩⟩
        . rcases TR.QK hj with ⟨rfl,e2,_⟩ | ⟨ne,hj⟩
          . rw [e2];exact hi6
          . rw [hj6 j ne];exact hsi j u hj
        . rcases TR.QK hj with ⟨rfl,e2,_⟩ | ⟨ne,hj⟩
          . rw [e2];exact ⟨gg _ _ (by omega) (by omega) A1.h3,gg _ _ (by omega) (by omega) A1.h4,gg _ _ (by omega) (by omega) A1.h5,o4⟩
          . obtain ⟨p1,p2,p3,p4⟩:=A.ob j u hj hu
            have dd:=A.dj i j v u (Ne.symm ne) hw he hj hu
            exact ⟨gg _ _ (by omega) (by omega) (k (by omega) (by omega) (by omega) p1),gg _ _ (by omega) (by omega) (k (by omega) (by omega) (by omega) p2),gg _ _ (by omega) (by omega) (k (by omega) (by omega) (by omega) p3),p4⟩
        . have lv:∀ (j:Nat) (u:TR.Wk),(s.ws.set i v2)[j]?=some u->u.ended=false->∃ u0,s.ws[j]?=some u0/\u0.ended=false:=fun j u hj hu=>by
            rcases TR.QK hj with ⟨rfl,e2,_⟩ | ⟨ne,hj⟩
            . exact ⟨v,hw,he⟩
            . exact ⟨u,hj,hu⟩
          obtain ⟨u0,a1,a2⟩:=lv j u hj hu
          obtain ⟨u1,a3,a4⟩:=lv j' u' hj' hu'
          exact A.dj j j' u0 u1 hne a1 a2 a3 a4
        . rcases TR.QK hj with ⟨rfl,e2,_⟩ | ⟨ne,hj⟩
          . exact .inl ⟨v,hw,he,rfl⟩
          . exact .inl ⟨u,hj,hu,rfl⟩
        . have q:=hL i v hw he
          have l1:=F1.1
          rw [fr y (by omega) (fun h=>hC (by unfold CW;omega)) (fun h=>hC (by unfold CW;omega))]
          exact F1.2 y hy (fun h=>hC (by unfold CW;omega)) (fun h=>hC (by unfold CW;omega)) (by omega) (by omega) (by omega)
      cases hv2:v2.ended with
      | false =>
        rw [hv2] at ovr
        rw [if_pos hv2] at lcs
        obtain ⟨b1,b2⟩:=back w1 hs ys (fun _ _ _ _ h=>h) (Nat.le_refl _) (fun _ _ _ _=>rfl) k61 rfl (fun _ _=>rfl) (by rw [uQ hv2];exact hvi) k71 (by omega)
        exact ⟨w1,L,Qd9 A.hv k6 hvi rfl (Qy (env:=E5) ((Qi u1).trans ((Qi u2).trans ((Qi u3).trans ((Qi ((QL ovr).trans QM)).trans (ret w1)))))),b1,b2⟩
      | true =>
        rw [hv2] at ovr
        rw [if_neg (by rw [hv2];simp)] at lcs
        let w2:Hs:=w1.set 6 (.lst (hs.set i .non))
        have hv2':w2[4]?=some (.ins "Weaver" (wvF s.tk)):=gs (by decide) hv1
        have k72:w2[7]?=some (.lst ys):=gs (by decide) k71
        let w3:Hs:=w2.set 7 (.lst (ys++[Hd]))
        have u4:sIf (eB (Qu "Walk" "over" 1 Jv (Qb 3) Qm)) (Qr (Xp (eC .non) (gSb (Qx "Weaver" "held" (Qb 0)) (Qb 1))) (ZN (JZ "list" Zo (Qx "Weaver" "done" (Qb 0)) (Qc (Qb 2) (Qm))))) (Zb) E5 w1=some ((.nx,E5),w3):=(Zq ovr).trans ((Qi (env1:=E5) (hp1:=w2) (xh rfl (QP (Qe rfl) hv1 (qJ _)) k61 (Qe rfl) hil)).trans (J3 (xJ (QP (Qe rfl) hv2' (QdR _)) k72 (Qe rfl) (by omega))))
        obtain ⟨b1,b2⟩:=back w3 (hs.set i .non) (ys++[Hd]) (fun j z n6 n7 h=>gs (Ne.symm n7) (gs (Ne.symm n6) h)) (by show w1.length<=((w1.set 6 _).set 7 _).length;simp) (fun j _ n6 n7=>(QI _ _ _ _ (Ne.symm n7)).trans (QI _ _ _ _ (Ne.symm n6))) (gs (by decide) (gss k61)) (by simp) (fun j hj=>List.getElem?_set_ne (Ne.symm hj)) (by rw [uR hv2];exact List.getElem?_set_self hil) (gss k72) (by simp;omega)
        exact ⟨w3,L,Qd9 A.hv k6 hvi rfl (Qy (env:=E5) ((Qi u1).trans ((Qi u2).trans ((Qi u3).trans ((Qi u4).trans (ret w3)))))),b1,b2⟩
end
def wlD (v:TR.Wk) (a:Nat):DV:=if v.ended=true then .non else .ref a
structure LA (w:Hs) (ds:List TR.Deed) (s:TR.St) (L:Nat->Nat):Prop where
 h1:w[0]?=some (.ins "Shelf" (shF s.S.room 1 s.S.top s.S.rd s.S.wr))
 h2:w[1]?=some (.lst (s.S.pg.map pgD))
 hd:w[8]?=some (.lst (ds.map Q3))
 hh:∃ hs,w[9]?=some (.lst hs)/\hs.length=s.ws.length/\∀ (i:Nat) (v:TR.Wk),s.ws[i]?=some v->hs[i]?=some (wlD v (L i))
 hn:∃ xs,w[10]?=some (.lst xs)/\xs.length=s.ws.length/\∀ i,i < s.ws.length->xs[i]?=some (.int (s.ns.getD i 0:Nat))
 ht:w[11]?=some (.lst [.int s.tk])
 ob:∀ (i:Nat) (v:TR.Wk),s.ws[i]?=some v->v.ended=false->w[L i]?=some (wkO 0 (L i+1) (L i+2) v)/\w[L i+1]?=some (.dic (fkD v.forks))/\w[L i+2]?=some (.lst (prD v.pairs))/\11 < L i
 dj:∀ (i j:Nat) (v u:TR.Wk),i≠j->s.ws[i]?=some v->v.ended=false->s.ws[j]?=some u->u.ended=false->L i+2 < L j∨L j+2 < L i
def CL (x:Nat):Prop:=x=0∨x=1∨x=9∨x=10∨x=11
section
variable {w w1 w2:Hs} {s s1 s2:TR.St} {L L1 L2:Nat->Nat} {ds:List TR.Deed} {bg:TR.Bg} {b:Nat->Nat}
theorem gL {v:TR.Wk} {a:Nat} (h:v.ended=true):wlD v a=.non:=by unfold wlD;rw [if_pos h]
theorem gK {v:TR.Wk} {a:Nat} (h:v.ended=false):wlD v a=.ref a:=by unfold wlD;rw [if_neg (by rw [h];simp)]
theorem Qcz {n k:Nat} {env:En} {hp:Hs} {x:Int} (hf:env[n]?=some (.val (.ref k))) (hk:hp[k]?=some (.lst [.int x])):GQ (Qb n) (eC (.int 0)) (eC (.int 1)) env hp=some ((.nx,env),hp.set k (.lst [.int (x+1)])):=by
 unfold GQ
 have e1:ixA (.ref k) (.int 0) hp=some (.int x,hp):=by
  show (Z3 k >>= _) hp=_
  rw [Qg (ZI hk)];rfl
 have e2:zt (.ref k) (.int 0) (.int (x+1)) hp=some ((),hp.set k (.lst [.int (x+1)])):=by
  show (Z3 k >>= _) hp=_
  rw [Qg (ZI hk)];rfl
 rw [Qg (Qe hf),Qg (rfl:eC (.int 0) env hp=some (.int 0,hp)),Qg e1,Qg (rfl:eC (.int 1) env hp=some (.int 1,hp)),Qg (rfl:Yk (.int x) (.int 1) hp=some (.int (x+1),hp)),Qg e2];rfl
theorem Vs {k:Nat} {x:Int} {hp:Hs} (hk:hp[k]?=some (.lst [.int x])):ixG (.ref k) (.int 0) hp=some (.int x,hp):=X7 (i:=0) hk rfl
theorem Qd4 (A:LA w ds s L) (Y:TR.StOk ds s bg b) {i:Nat} (hi:i < s.ws.length) (h48:ds.length<=60) (hb:b i<=9000) {o:TR.Out} {s':TR.St} (hm:TR.mv ds s i=some (o,s')):∃ w' L',Yd [.ref 0,.ref 9,.ref 10,.ref 8,.ref 11,.int i] w=some (zr i o,w')/\LA w' ds s' L'/\Fw CL w s L w' s' L':=by
  obtain ⟨hs,k9,hsl,hsi⟩:=A.hh
  obtain ⟨xs0,k10,hxl,hxi⟩:=A.hn
  have h11:11 < w.length:=(List.getElem?_eq_some_iff.mp A.ht).1
  have tkl:=Y.tk
  have hw:=List.getElem?_eq_getElem hi
  generalize s.ws[i]=v at hw
  have hvi:=hsi i v hw
  have hil:i < hs.length:=by omega
  have hxl':i < xs0.length:=by omega
  let E:Sl->Sl->En:=fun y z=>[.val (.ref 0),.val (.ref 9),.val (.ref 10),.val (.ref 8),.val (.ref 11),.val (.int i),y,z]
  unfold TR.mv at hm
  rw [hw] at hm
  dsimp only at hm
  cases he:v.ended with
  | true =>
    rw [he,if_pos rfl] at hm
    rw [gL he] at hvi
    let E1:En:=E (.val .non) .un
    have u1:QC 6 (Ql ixG (Qb 1) (Qb 5)) (E .un .un) w=some ((.nx,E1),w):=QR (Qk (Qe rfl) (Qe rfl) (X7 k9 hvi))
    have t1:eB (Ql qB (Qb 6) (eC .non)) E1 w=some (false,w):=QT (b:=false) (Qk (x:=.non) (Qe rfl) rfl rfl)
    have c2:eB (Ql eqG (Ql ixG (Qb 4) (eC (.int 0))) (Zw Z5 (Qc (Qb 3) (Qm)))) E1 w=some (((s.tk:Int)==(ds.length:Int)),w):=QT (Qk (Qk (Qe rfl) rfl (Vs A.ht)) ((Ym (ZD (Qe rfl)) (j8 A.hd)).trans (by rw [List.length_map])) (eqI _ _ w))
    cases hd:ds[s.tk]? with
    | none =>
      rw [hd] at hm
      cases hm
      have le:ds.length<=s.tk:=by simpa using hd
      rw [show ((s.tk:Int)==(ds.length:Int))=true by rw [beq_iff_eq];omega] at c2
      exact ⟨w,L,Qy (env:=E1) ((Qi u1).trans ((Qi ((QL t1).trans QM)).trans (Zc ((Zq c2).trans (QB (Je (Z4 rfl (Qe rfl)) (by simp))))))),A,Fw.refl⟩
    | some d =>
      rw [hd] at hm
      cases hm
      have lt:s.tk < ds.length:=(List.getElem?_eq_some_iff.mp hd).1
      rw [show ((s.tk:Int)==(ds.length:Int))=false by rw [beq_eq_false_iff_ne];omega] at c2
      let w1:Hs:=w.set 10 (.lst (xs0.set i (.int s.tk)))
      have u3:Xp (Ql ixG (Qb 4) (eC (.int 0))) (gSb (Qb 2) (Qb 5)) E1 w=some ((.nx,E1),w1):=xh (Qk (Qe rfl) rfl (Vs A.ht)) (Qe rfl) k10 (Qe rfl) hxl'
      have l1:w1.length=w.length:=by show (w.set 10 _).length=_;simp
      let tl:Hs:=[wkO 0 (w.length+1) (w.length+2) (TR.fresh d),.dic [],.lst []]
      let w2:Hs:=(w1++tl).set 9 (.lst (hs.set i (.ref w.length)))
      have g1:∀ {x:Nat} {z:OV},x≠10->w[x]?=some z->w1[x]?=some z:=fun {x z} n hx=>gs (Ne.symm n) hx
      have g2:∀ {x:Nat} {z:OV},w1[x]?=some z->(w1++tl)[x]?=some z:=fun {x z} hx=>(List.getElem?_append_left (List.getElem?_eq_some_iff.mp hx).1).trans hx
      have u4:Xp (Jn "Walk" 3 ZL (Qc (Qb 0) (Qc (Ql ixG (Qb 3) (Ql ixG (Qb 4) (eC (.int 0)))) (Qm)))) (gSb (Qb 1) (Qb 5)) E1 w1=some ((.nx,E1),w2):=by
        have mk:=vd (n:=0) (d:=d) (fa:=Qc (Qb 0) (Qc (Ql ixG (Qb 3) (Ql ixG (Qb 4) (eC (.int 0)))) (Qm))) (env:=E1) (hp0:=w1) (hp:=w1) (Z4 (Qe rfl) (Qk (Qe rfl) (Qk (Qe rfl) rfl (Vs (g1 (by decide) A.ht))) (X7 (i:=s.tk) (g1 (by decide) A.hd) (by rw [List.getElem?_map,hd];rfl))))
        rw [l1] at mk
        exact xh mk (Qe rfl) (g2 (g1 (by decide) k9)) (Qe rfl) hil
      let w3:Hs:=w2.set 11 (.lst [.int ((s.tk:Int)+1)])
      have u5:GQ (Qb 4) (eC (.int 0)) (eC (.int 1)) E1 w2=some ((.nx,E1),w3):=Qcz rfl (gs (by decide) (g2 (g1 (by decide) A.ht)))
      have k10':w3[10]?=some (.lst (xs0.set i (.int s.tk))):=gs (by decide) (gs (by decide) (g2 (gss k10)))
      have u6:QE (Zu (Qc (eC (.str "take")) (Qc (Qb 5) (Qc (Ql ixG (Qb 2) (Qb 5)) (Qm))))) E1 w3=some ((.rt (.tup [.str "take", .int i,.int s.tk]),E1),w3):=QB (Je (Xt rfl (Qe rfl) (Qk (Qe rfl) (Qe rfl) (X7 k10' (List.getElem?_set_self hxl')))) (by simp))
      have old:∀ {x:Nat} {z:OV},x≠9->x≠10->x≠11->w[x]?=some z->w3[x]?=some z:=fun {x z} n9 n10 n11 hx=>gs (Ne.symm n11) (gs (Ne.symm n9) (g2 (g1 n10 hx)))
      have gap:∀ j x,tl[j]?=some x->w3[w.length+j]?=some x:=fun j x h=>gs (by omega) (gs (by omega) (by rw [List.getElem?_append_right (by omega),l1,Nat.add_sub_cancel_left];exact h))
      refine ⟨w3,fun j=>if j=i then w.length else L j,Qy (env:=E1) ((Qi u1).trans ((Qi ((QL t1).trans QM)).trans ((Qi ((QL c2).trans QM)).trans ((Qi u3).trans ((Qi u4).trans ((Qi u5).trans u6)))))),⟨old (by decide) (by decide) (by decide) A.h1,old (by decide) (by decide) (by decide) A.h2,old (by decide) (by decide) (by decide) A.hd,⟨hs.set i (.ref w.length),gs (by decide) (gss (g2 (g1 (by decide) k9))),by simp [hsl],fun j u hj=>?_⟩,⟨xs0.set i (.int s.tk),k10',by simp [hxl],fun j hj=>?_⟩,?_,fun j u hj hu=>?_,fun j j' u u' hne hj hu hj' hu'=>?_⟩,⟨by show w.length<=(((w.set 10 _++_).set 9 _).set 11 _).length;simp,fun j u hj hu=>?_,fun x hx hC _=>?_⟩⟩
      . rcases TR.QK hj with ⟨rfl,e2,_⟩ | ⟨ne,hj⟩
        . rw [e2,List.getElem?_set_self hil,if_pos rfl,gK rfl]
        . rw [List.getElem?_set_ne (Ne.symm ne),if_neg ne]
          exact hsi j u hj
      . have hj':j < s.ws.length:=by simpa using hj
        by_cases ne:j=i
        . subst ne
          rw [List.getElem?_set_self hxl']
          show _=some (DV.int ((s.ns.set j s.tk).getD j 0:Nat))
          rw [List.getD_eq_getElem?_getD,List.getElem?_set_self (by rw [Y.len];omega)];rfl
        . rw [List.getElem?_set_ne (Ne.symm ne)]
          show _=some (DV.int ((s.ns.set i s.tk).getD j 0:Nat))
          rw [List.getD_eq_getElem?_getD,List.getElem?_set_ne (Ne.symm ne),<- List.getD_eq_getElem?_getD]
          exact hxi j hj'
      . show w3[11]?=some (.lst [.int ((s.tk+1:Nat):Int)])
        rw [Int.natCast_add]
        exact gss (gs (by decide) (g2 (g1 (by decide) A.ht)))
      . rcases TR.QK hj with ⟨rfl,e2,_⟩ | ⟨ne,hj⟩
        . rw [e2,if_pos rfl]
          exact ⟨gap 0 _ rfl,gap 1 _ rfl,gap 2 _ rfl,h11⟩
        . rw [if_neg ne]
          obtain ⟨o1,o2,o3,o4⟩:=A.ob j u hj hu
          exact ⟨old (by omega) (by omega) (by omega) o1,old (by omega) (by omega) (by omega) o2,old (by omega) (by omega) (by omega) o3,o4⟩
      . have small:∀ (j:Nat) (u:TR.Wk),s.ws[j]?=some u->u.ended=false->L j+2 < w.length:=fun j u hj hu=>(List.getElem?_eq_some_iff.mp (A.ob j u hj hu).2.2.1).1
        rcases TR.QK hj with ⟨rfl,e2,_⟩ | ⟨ne,hj2⟩
        . rcases TR.QK hj' with ⟨rfl,e3,_⟩ | ⟨ne',hj3⟩
          . exact absurd rfl hne
          . rw [if_pos rfl,if_neg ne'];exact .inr (small _ _ hj3 hu')
        . rcases TR.QK hj' with ⟨rfl,e3,_⟩ | ⟨ne',hj3⟩
          . rw [if_neg ne,if_pos rfl];exact .inl (small _ _ hj2 hu)
          . rw [if_neg ne,if_neg ne'];exact A.dj j j' u u' hne hj2 hu hj3 hu'
      . rcases TR.QK hj with ⟨rfl,e2,_⟩ | ⟨ne,hj⟩
        . rw [if_pos rfl];exact .inr (Nat.le_refl _)
        . rw [if_neg ne];exact .inl ⟨u,hj,hu,rfl⟩
      . show (((w.set 10 _++_).set 9 _).set 11 _)[x]?=_
        rw [QI _ _ _ _ (fun h=>hC (by unfold CL;omega)),QI _ _ _ _ (fun h=>hC (by unfold CL;omega)),List.getElem?_append_left (by simpa using hx),QI _ _ _ _ (fun h=>hC (by unfold CL;omega))]
  | false =>
    rw [he,if_neg (by simp)] at hm
    have W:=Y.A.ok i v hw he
    cases es:TR.JY s.S v with
    | none=>rw [es] at hm;cases hm
    | some q =>
      obtain ⟨r,S2,v2⟩:=q
      rw [es] at hm
      cases hm
      rw [gK he] at hvi
      obtain ⟨o1,o2,o3,o4⟩:=A.ob i v hw he
      have D:Dif 0 1 (L i) (L i+1) (L i+2):=⟨by decide,by omega,by omega,by omega,by omega,by omega,by omega,by omega,by omega,by omega⟩
      have pg:=Y.pages
      have fl:=(Y.fk i v hw he).len Y.T
      have pl:=Y.pr i v hw he
      obtain ⟨w1,e1,A1,F1⟩:=gG Y.T W (Nat.le_trans Y.rm (by decide)) ⟨A.h1,A.h2,o1,o2,o3⟩ D (by omega) (by omega) (by omega) es
      obtain ⟨x,xs,ex,xl⟩:=GP es he Y.T W
      have k:∀ {j:Nat} {z:OV},j≠0->j≠1->(j < L i∨L i+2 < j)->w[j]?=some z->w1[j]?=some z:=fun {j z} n2 n3 nL hj=>(F1.2 j (List.getElem?_eq_some_iff.mp hj).1 n2 n3 (by omega) (by omega) (by omega)).trans hj
      have k91:=k (by decide) (by decide) (.inl (by omega)) k9
      have k101:=k (by decide) (by decide) (.inl (by omega)) k10
      let n:=s.ns.getD i 0
      let E5:En:=E (.val (.ref (L i))) (.val (xi r))
      have u1:QC 6 (Ql ixG (Qb 1) (Qb 5)) (E .un .un) w=some ((.nx,E (.val (.ref (L i))) .un),w):=QR (Qk (Qe rfl) (Qe rfl) (X7 k9 hvi))
      have t1:eB (Ql qB (Qb 6) (eC .non)) (E (.val (.ref (L i))) .un) w=some (true,w):=QT (b:=true) (Qk (x:=.ref (L i)) (Qe rfl) rfl rfl)
      have u3:QC 7 (Qu "Walk" "step" 1 Xb (Qb 6) Qm) (E (.val (.ref (L i))) .un) w=some ((.nx,E5),w1):=QR (QS (Qe rfl) o1 (gI ..) Xe rfl e1)
      have ovr:eB (Qu "Walk" "over" 1 Jv (Qb 6) Qm) E5 w1=some (v2.ended,w1):=QT (QS (Qe rfl) A1.h3 (gJ ..) Xe rfl (ge A1.h3))
      have ret:∀ w':Hs,w'[10]?=some (.lst xs0)->QE (Ql Ja (Zu (Qc (Ql ixG (Qb 7) (eC (.int 0))) (Qc (Qb 5) (Qc (Ql ixG (Qb 2) (Qb 5)) (Qm))))) (eSl (Qb 7) (ZK (eC (.int 1))) (ZJ))) E5 w'=some ((.rt (QcJ i n (xi r)),E5),w'):=fun w' hx=>by
        have e0:Qb 7 E5 w'=some (.tup (x::xs),w'):=by rw [<- ex];exact Qe rfl
        refine QB (Qk (Je (Xt (Qk e0 rfl (JG (i:=0) rfl w')) (Qe rfl) (Qk (Qe rfl) (Qe rfl) (X7 hx (hxi i hi)))) (by simp)) (G3 (a:=1) e0 rfl) ?_)
        rw [ex]
        show (Qw (qR ([x,.int i,.int n]++xs)) >>= fun _=>pure (DV.tup ([x,.int i,.int n]++xs))) w'=_
        rw [Yf (by simp;omega)];rfl
      have back:∀ (w':Hs) (hs':List DV),(∀ (j:Nat) (z:OV),j≠9->w1[j]?=some z->w'[j]?=some z)->w1.length<=w'.length->(∀ j,j < w1.length->j≠9->w'[j]?=w1[j]?)->w'[9]?=some (.lst hs')->hs'.length=hs.length->(∀ j,j≠i->hs'[j]?=hs[j]?)->hs'[i]?=some (wlD v2 (L i))->LA w' ds { s with S:=S2,ws:=s.ws.set i v2 } L/\Fw CL w s L w' { s with S:=S2,ws:=s.ws.set i v2 } L:=by
        intro w' hs' gg ll fr g9 hl9 hj9 hi9
        refine ⟨⟨gg 0 _ (by decide) A1.h1,gg 1 _ (by decide) A1.h2,gg 8 _ (by decide) (k (by decide) (by decide) (.inl (by omega)) A.hd),⟨hs',g9,by simp [hl9,hsl],fun j u hj=>?_⟩,⟨xs0,gg 10 _ (by decide) k101,by simp [hxl],fun j hj=>hxi j (by simpa using hj)⟩,gg 11 _ (by decide) (k (by decide) (by decide) (.inl (by omega)) A.ht),fun j u hj hu=>?_,fun j j' u u' hne hj hu hj' hu'=>?_⟩,⟨Nat.le_trans F1.1 ll,fun j u hj hu=>?_,fun y hy hC hL=>?_⟩⟩
        . rcases TR.QK hj with ⟨rfl,e2,_⟩ | ⟨ne,hj⟩
          . rw [e2];exact hi9
          . rw [hj9 j ne];exact hsi j u hj
        . rcases TR.QK hj with ⟨rfl,e2,_⟩ | ⟨ne,hj⟩
          . rw [e2];exact ⟨gg _ _ (by omega) A1.h3,gg _ _ (by omega) A1.h4,gg _ _ (by omega) A1.h5,o4⟩
          . obtain ⟨p1,p2,p3,p4⟩:=A.ob j u hj hu
            have dd:=A.dj i j v u (Ne.symm ne) hw he hj hu
            exact ⟨gg _ _ (by omega) (k (by omega) (by omega) (by omega) p1),gg _ _ (by omega) (k (by omega) (by omega) (by omega) p2),gg _ _ (by omega) (k (by omega) (by omega) (by omega) p3),p4⟩
        . have lv:∀ (j:Nat) (u:TR.Wk),(s.ws.set i v2)[j]?=some u->u.ended=false->∃ u0,s.ws[j]?=some u0/\u0.ended=false:=fun j u hj hu=>by
            rcases TR.QK hj with ⟨rfl,e2,_⟩ | ⟨ne,hj⟩
            . exact ⟨v,hw,he⟩
            . exact ⟨u,hj,hu⟩
          obtain ⟨u0,a1,a2⟩:=lv j u hj hu
          obtain ⟨u1,a3,a4⟩:=lv j' u' hj' hu'
          exact A.dj j j' u0 u1 hne a1 a2 a3 a4
        . rcases TR.QK hj with ⟨rfl,e2,_⟩ | ⟨ne,hj⟩
          . exact .inl ⟨v,hw,he,rfl⟩
          . exact .inl ⟨u,hj,hu,rfl⟩
        . have q:=hL i v hw he
          have l1:=F1.1
          rw [fr y (by omega) (fun h=>hC (by unfold CL;omega))]
          exact F1.2 y hy (fun h=>hC (by unfold CL;omega)) (fun h=>hC (by unfold CL;omega)) (by omega) (by omega) (by omega)
      cases hv2:v2.ended with
      | false =>
        rw [hv2] at ovr
        obtain ⟨b1,b2⟩:=back w1 hs (fun _ _ _ h=>h) (Nat.le_refl _) (fun _ _ _=>rfl) k91 rfl (fun _ _=>rfl) (by rw [gK hv2];exact hvi)
        exact ⟨w1,L,Qy (env:=E5) ((Qi u1).trans (Zc ((Zq t1).trans ((Qi u3).trans ((Qi ((QL ovr).trans QM)).trans (ret w1 k101)))))),b1,b2⟩
      | true =>
        rw [hv2] at ovr
        let w2:Hs:=w1.set 9 (.lst (hs.set i .non))
        have u4:sIf (eB (Qu "Walk" "over" 1 Jv (Qb 6) Qm)) (Xp (eC .non) (gSb (Qb 1) (Qb 5))) (Zb) E5 w1=some ((.nx,E5),w2):=(Zq ovr).trans (xh rfl (Qe rfl) k91 (Qe rfl) hil)
        obtain ⟨b1,b2⟩:=back w2 (hs.set i .non) (fun j z n9 h=>gs (Ne.symm n9) h) (by show w1.length<=(w1.set 9 _).length;simp) (fun j _ n9=>QI _ _ _ _ (Ne.symm n9)) (gss k91) (by simp) (fun j hj=>List.getElem?_set_ne (Ne.symm hj)) (by rw [gL hv2];exact List.getElem?_set_self hil)
        exact ⟨w2,L,Qy (env:=E5) ((Qi u1).trans (Zc ((Zq t1).trans ((Qi u3).trans ((Qi u4).trans (ret w2 (gs (by decide) k101))))))),b1,b2⟩
end
theorem Qeg:∀ x∈(["side", "down", "found", "put", "cut", "read", "told", "raised", "find", "stretch", "rest", "take"]:List Str),PyData.strOk x=true:=by decide +kernel
def Sm:Nat->DV->Prop
 | _,.non=>True
 | _,.int _=>True
 | _,.str x=>PyData.strOk x=true
 | n+1,.tup ds=>∀ d∈ds,Sm n d
 | _,_=>False
theorem ZV (n:Nat) (i:Int):Sm n (.int i):=by cases n<;>trivial
theorem jD (n:Nat):Sm n .non:=by cases n<;>trivial
theorem YA {n:Nat} {x:Str} (h:PyData.strOk x=true):Sm n (.str x):=by cases n<;>exact h
theorem KW (n:Nat) (o:Option Int):Sm n (opt o):=by cases o;exact jD n;exact ZV n _
theorem Qcc (n:Nat) (o:Option Nat):Sm n (oN o):=by cases o;exact jD n;exact ZV n _
theorem gF (n:Nat) (ks:List Int):Sm (n+1) (.tup (ks.map .int)):=fun d hd=>by
 obtain ⟨x,_,rfl⟩:=List.mem_map.mp hd;exact ZV n x
theorem QgX (n:Nat) (p:TR.Pg):Sm (n+2) (pgD p):=fun d hd=>by
 simp only [List.mem_cons,List.not_mem_nil,or_false] at hd
 rcases hd with rfl | rfl | rfl | rfl | rfl
 ·exact ZV _ _
 ·exact gF _ _
 ·exact gF _ _
 ·exact KW _ _
 ·exact Qcc _ _
theorem Qce (n:Nat) (ps:List (Int×Int)):Sm (n+2) (.tup (prD ps)):=fun d hd=>by
 obtain ⟨x,_,rfl⟩:=List.mem_map.mp hd
 intro y hy
 simp only [List.mem_cons,List.not_mem_nil,or_false] at hy
 rcases hy with rfl | rfl<;>exact ZV _ _
theorem Qfy (r:TR.Row):Sm 3 (xi r):=by
  have s:=Qeg
  cases r with
  | non=>exact jD _
  | side n t=>intro d hd;simp only [List.mem_cons,List.not_mem_nil,or_false] at hd;rcases hd with rfl | rfl | rfl;exact YA (s _ (by simp));exact ZV _ _;exact ZV _ _
  | down n t=>intro d hd;simp only [List.mem_cons,List.not_mem_nil,or_false] at hd;rcases hd with rfl | rfl | rfl;exact YA (s _ (by simp));exact ZV _ _;exact ZV _ _
  | found n t=>intro d hd;simp only [List.mem_cons,List.not_mem_nil,or_false] at hd;rcases hd with rfl | rfl | rfl;exact YA (s _ (by simp));exact ZV _ _;exact KW _ _
  | put n t k=>intro d hd;simp only [List.mem_cons,List.not_mem_nil,or_false] at hd;rcases hd with rfl | rfl | rfl | rfl;exact YA (s _ (by simp));exact ZV _ _;exact KW _ _;exact Qcc _ _
  | cut n t=>intro d hd;simp only [List.mem_cons,List.not_mem_nil,or_false] at hd;rcases hd with rfl | rfl | rfl;exact YA (s _ (by simp));exact ZV _ _;exact KW _ _
  | told n k=>intro d hd;simp only [List.mem_cons,List.not_mem_nil,or_false] at hd;rcases hd with rfl | rfl | rfl;exact YA (s _ (by simp));exact ZV _ _;exact Qcc _ _
  | raised n t=>intro d hd;simp only [List.mem_cons,List.not_mem_nil,or_false] at hd;rcases hd with rfl | rfl | rfl;exact YA (s _ (by simp));exact ZV _ _;exact ZV _ _
  | read n ps t =>
    cases t with
    | none=>intro d hd;simp only [List.mem_cons,List.not_mem_nil,or_false] at hd;rcases hd with rfl | rfl | rfl | rfl | rfl;exact YA (s _ (by simp));exact ZV _ _;exact Qce 0 _;exact jD _;exact jD _
    | some q=>obtain ⟨a,b⟩:=q;intro d hd;simp only [List.mem_cons,List.not_mem_nil,or_false] at hd;rcases hd with rfl | rfl | rfl | rfl | rfl;exact YA (s _ (by simp));exact ZV _ _;exact Qce 0 _;exact ZV _ _;exact ZV _ _
theorem QcS {f g:DEx} {env:En} {hp:Hs} {ds es:List DV} (hf:f env hp=some (.tup ds,hp)) (hg:g env hp=some (.tup es,hp)):Kx f g env hp=some (zI ds es,hp):=by
 unfold Kx
 rw [Qg hf,Qg (rfl:Uq (.tup ds) hp=some (ds,hp)),Qg hg,Qg (rfl:Uq (.tup es) hp=some (es,hp))];rfl
theorem U9:∀ ds:List DV,zI ds ds=ds.map fun d=>.tup [d,d]
 | []=>rfl
 | d::ds=>by rw [List.map_cons,<- U9 ds];rfl
theorem gA:∀ (n:Nat) (d:DV) (w:Hs),Sm n d->ZM (n+1) [d,d] w=some (.bl true,w)
  | n,.non,w,_=>Qy (env:=[.val .non,.val .non,.un,.un]) ((Qi ((QL ((jV (QT rfl)).trans (QT rfl))).trans QM)).trans (Zc ((Zq (QT rfl)).trans (QB rfl))))
  | n,.int i,w,_=>by
    have wh:qV [.int i] w=some (.bl true,w):=Qy (env:=[.val (.int i)]) (QB rfl)
    exact Qy (env:=[.val (.int i),.val (.int i),.un,.un]) ((Qi ((QL ((jV (QT rfl)).trans (QT rfl))).trans QM)).trans ((Qi ((QL (QT rfl)).trans QM)).trans ((Qi ((QL (QT rfl)).trans QM)).trans (QB ((za (b:=true) (ZG (ZD (Qe rfl)) rfl wh)).trans (Qk rfl rfl ((eqI i i w).trans (by simp))))))))
  | n,.str x,w,h=>Qy (env:=[.val (.str x),.val (.str x),.un,.un]) ((Qi ((QL ((jV (QT rfl)).trans (QT rfl))).trans QM)).trans ((Qi ((QL (QT rfl)).trans QM)).trans (Zc ((Zq (QT rfl)).trans (QB ((za (b:=true) rfl).trans (Qk rfl rfl (Gn (n:=0) (Qfl (by cases n<;>exact h)) (by decide) w))))))))
  | n,.bl _,w,h=>(by cases n<;>exact h.elim)
  | n,.lst _,w,h=>(by cases n<;>exact h.elim)
  | n,.ref _,w,h=>(by cases n<;>exact h.elim)
  | 0,.tup _,w,h=>h.elim
  | n+1,.tup ds,w,h=>by
    have M:WP (Vg (fun d env=>do let env' <- gT [2,3] d env;qD (ZM (n+1)) env') (zI ds ds) [.val (.tup ds),.val (.tup ds),.un,.un]) w fun q w'=>w'=w/\∃ z2 z3,q=(.nx,[.val (.tup ds),.val (.tup ds),z2,z3]):=by
      rw [U9]
      refine uw (fun i env w'=>w'=w/\∃ z2 z3,env=[.val (.tup ds),.val (.tup ds),z2,z3]) _ ⟨rfl,_,_,rfl⟩ (fun i d hd' env w' zz=>?_) (fun env w' zz=>by obtain ⟨e,z2,z3,e'⟩:=zz;exact ⟨e,z2,z3,by rw [e']⟩)
      obtain ⟨e0,z2,z3,e1⟩:=zz
      rw [e0,e1]
      obtain ⟨p,hp,rfl⟩:=List.mem_map.mp (List.mem_of_getElem? hd')
      refine ⟨(.nx,[.val (.tup ds),.val (.tup ds),.val p,.val p]),w,?_,rfl,_,_,rfl⟩
      show qD (ZM (n+1)) [.val (.tup ds),.val (.tup ds),.val p,.val p] w=_
      exact (QL (J5 (b:=true) (QT (ZG (Z4 (Qe rfl) (Qe rfl)) rfl (gA n p w (h p hp)))))).trans QM
    obtain ⟨q,w',e,rfl,z2,z3,rfl⟩:=M
    have L:jH (ZM (n+1)) [.val (.tup ds),.val (.tup ds),.un,.un] w'=some ((.nx,[.val (.tup ds),.val (.tup ds),z2,z3]),w'):=US (QcS (Qe rfl) (Qe rfl)) e
    show Q5 4 (y9 (ZM (n+1))) _ _=_
    refine Qy (env:=[.val (.tup ds),.val (.tup ds),z2,z3]) (Zc ((Zq (hp1:=w') (Qd5 (QT rfl))).trans ((Qi ((QL (hp1:=w') ((jV (QT (Qk (x:=.bl true) (y:=.bl true) rfl rfl (QeO _ w')))).trans (QT (Qk (x:=.bl false) (y:=.bl false) rfl rfl (QeO _ w'))))).trans QM)).trans ((Qi ((QL (hp1:=w') ?_).trans QM)).trans ((Qi L).trans (QB rfl))))))
    exact QT (Qk (x:=.int ds.length) (y:=.int ds.length) (Ym (ZD (Qe rfl)) rfl) (Ym (ZD (Qe rfl)) rfl) (QeP _ w'))
theorem Qee (d:DV) (n:Nat) (hn:n<=5) (h:Sm n d) (w:Hs):ZM 6 [d,d] w=some (.bl true,w):=by
  have mono:∀ (n m:Nat) (d:DV),Sm n d->n<=m->Sm m d:=by
    intro n
    induction n with
    | zero=>intro m d h hm;cases d<;>first | exact h.elim | (cases m<;>exact h)
    | succ n ih =>
      intro m d h hm
      obtain ⟨k,rfl⟩:∃ k,m=k+1:=⟨m - 1,by omega⟩
      cases d with
      | tup ds=>exact fun x hx=>ih k x (h x hx) (by omega)
      | _=>exact h
  exact gA 5 d w (mono n 5 d h hn)
theorem vt {nxt:NX} {t:DV->M Bool} {f:DV->M DV} {p:DV->Bool} {hp:Hs} (ds:List DV) (hn:∀ i,i<=ds.length->nxt i hp=some (ds[i]?,hp)) (ht:∀ d∈ds,t d hp=some (p d,hp)) (hf:∀ d∈ds,f d hp=some (d,hp)) (hl:ds.length < 100000):ZX nxt t f 100000 0 hp=some (ds.filter p,hp):=by
  suffices h:∀ (m i n:Nat),m+i=ds.length->m < n->ZX nxt t f n i hp=some ((ds.drop i).filter p,hp) by simpa using h ds.length 0 100000 rfl hl
  intro m
  induction m with
  | zero =>
    intro i n e hn'
    obtain ⟨n,rfl⟩:∃ k,n=k+1:=⟨n - 1,by omega⟩
    have:i=ds.length:=by omega
    subst this
    have e1:=hn ds.length (Nat.le_refl _)
    rw [show ds[ds.length]?=none by simp] at e1
    rw [ZX,Qg e1,List.drop_length];rfl
  | succ m ih =>
    intro i n e hn'
    obtain ⟨n,rfl⟩:∃ k,n=k+1:=⟨n - 1,by omega⟩
    have hlt:i < ds.length:=by omega
    have e1:=hn i (by omega)
    rw [List.getElem?_eq_getElem hlt] at e1
    have hi:=ih (i+1) n (by omega) (by omega)
    rw [ZX,Qg e1]
    simp only
    rw [Qg (ht ds[i] (List.getElem_mem hlt)),List.drop_eq_getElem_cons hlt]
    cases q:p ds[i] with
    | false=>rw [List.filter_cons_of_neg (by simp [q])];simpa using hi
    | true =>
      rw [List.filter_cons_of_pos q]
      simp only [if_true]
      rw [Qg (hf ds[i] (List.getElem_mem hlt)),Qg hi];rfl
theorem Qcd (i:Nat) (o:TR.Out):Sm 3 (zr i o):=by
  have s:=Qeg
  cases o with
  | rest=>intro d hd;simp only [List.mem_cons,List.not_mem_nil,or_false] at hd;rcases hd with rfl | rfl;exact YA (s _ (by simp));exact ZV _ _
  | take n=>intro d hd;simp only [List.mem_cons,List.not_mem_nil,or_false] at hd;rcases hd with rfl | rfl | rfl;exact YA (s _ (by simp));exact ZV _ _;exact ZV _ _
  | did n r =>
    have h:=Qfy r
    show Sm 3 (QcJ i n (xi r))
    cases e:xi r with
    | tup ds =>
      rw [e] at h
      cases ds with
      | nil=>exact jD _
      | cons x xs =>
        intro d hd
        rcases List.mem_append.mp hd with hd | hd
        . simp only [List.mem_cons,List.not_mem_nil,or_false] at hd
          rcases hd with rfl | rfl | rfl
          . exact h _ (List.mem_cons_self ..)
          . exact ZV _ _
          . exact ZV _ _
        . exact h d (List.mem_cons_of_mem _ hd)
    | _=>exact jD _
theorem Qcx {o e:DEx} {env:En} {hp hp1:Hs} {a:Nat} {cs ds:List DV} {d:DV} (ho:o env hp=some (.ref a,hp)) (h0:hp[a]?=some (.lst cs)) (he:e env hp=some (d,hp1)) (h:hp1[a]?=some (.lst ds)) (hl:ds.length < 100000):JZ "list" Zo o (Qc e Qm) env hp=some (.non,hp1.set a (.lst (ds++[d]))):=by
 unfold JZ
 rw [Qg ho]
 have e2:Xv "list" (.ref a) hp=some ((),hp):=by
  show (Z3 a >>= _) hp=_
  rw [Qg (ZI h0)];rfl
 rw [Qg e2,Qg (ZD he)]
 show (Z3 a >>= _) hp1=_
 rw [Qg (ZI h)]
 show (Qw (decide (ds.length < lim)) >>= _) hp1=_
 rw [decide_eq_true (by unfold lim;exact hl)];rfl
theorem ux {hs:List DV} {ws:List TR.Wk} (hl:hs.length=ws.length) (h:∀ (i:Nat) (v:TR.Wk),ws[i]?=some v->∃ d,hs[i]?=some d/\isN d=v.ended):hs.all isN=ws.all (·.ended):=by
 rw [Bool.eq_iff_iff,List.all_eq_true,List.all_eq_true]
 constructor
 ·intro a v hv
  obtain ⟨i,hi⟩:=List.getElem?_of_mem hv
  obtain ⟨d,h1,h2⟩:=h i v hi
  rw [<- h2];exact a d (List.mem_of_getElem? h1)
 ·intro a d hd
  obtain ⟨i,hi⟩:=List.getElem?_of_mem hd
  have li:=(List.getElem?_eq_some_iff.mp hi).1
  have hv:ws[i]?=some ws[i]:=List.getElem?_eq_getElem (by omega)
  obtain ⟨d',h1,h2⟩:=h i _ hv
  rw [hi] at h1;cases h1
  rw [h2];exact a _ (List.mem_of_getElem? hv)
section
variable {w w1 w2:Hs} {s s1 s2:TR.St} {L L1 L2:Nat->Nat} {ds:List TR.Deed} {bg:TR.Bg} {b:Nat->Nat}
theorem uS (A:WA w ds s L) (hl:s.ws.length < 1000):Zf [.ref 4] w=some (.bl (TR.still ds s),w):=by
 obtain ⟨hs,k6,hsl,hsi⟩:=A.hh
 rw [Qey A.hv A.hd k6 (by omega),ux hsl fun i v hi=>⟨_,hsi i v hi,by
  cases he:v.ended with
  | true=>rw [uR he];rfl
  | false=>rw [uQ he];rfl⟩]
 congr 2
 unfold TR.still
 rw [List.length_map]
 congr 1
 have:((s.tk:Int)==(ds.length:Int))=decide (s.tk=ds.length):=by
  by_cases e:s.tk=ds.length
  ·rw [e];simp
  ·rw [decide_eq_false e,beq_eq_false_iff_ne];omega
 rw [this]
theorem Qa5 (A:LA w ds s L) (hl:s.ws.length < 1000) {f:DEx} {env:En} (hf:f env w=some (.ref 9,w)):Ql eqN (Zp false (xLs f) [] (eB (Ql qB (Qb 0) (eC .non))) (Qb 0)) (XA Qm) env w=some (.bl (s.ws.all (·.ended)),w):=by
 obtain ⟨hs,k9,hsl,hsi⟩:=A.hh
 have cx:=vt (nxt:=nxW 9) (t:=fun d=>eB (Ql qB (Qb 0) (eC .non)) (cE [] env d)) (f:=fun d=>Qb 0 (cE [] env d)) (p:=fun d=>!isN d) (hp:=w) hs (fun i _=>jx k9 i) (fun d _=>QT (b:=!isN d) (Qk (x:=d) (Qe rfl) rfl rfl)) (fun d _=>rfl) (by omega)
 have c:Zp false (xLs f) [] (eB (Ql qB (Qb 0) (eC .non))) (Qb 0) env w=some (.lst (hs.filter fun d=>!isN d),w):=by
  unfold Zp
  rw [Qg (yY hf k9),Qg (show ZX _ _ _ lim 0 w=_ from cx)];rfl
 refine Qk c rfl ?_
 show some (DV.bl (hs.filter fun d=>!isN d).isEmpty,w)=_
 have e:(hs.filter fun d=>!isN d).isEmpty=hs.all isN:=by
  rw [Bool.eq_iff_iff,List.isEmpty_iff,List.filter_eq_nil_iff,List.all_eq_true]
  exact ⟨fun a d hd=>by have:=a d hd;simpa using this,fun a d hd=>by have:=a d hd;simpa using this⟩
 rw [e,ux hsl fun i v hi=>⟨_,hsi i v hi,by
  cases he:v.ended with
  | true=>rw [gL he];rfl
  | false=>rw [gK he];rfl⟩]
theorem Qch (A:LA w ds s L) (hl:s.ws.length < 1000) {f g k:DEx} {env:En} (hf:f env w=some (.ref 9,w)) (hg:g env w=some (.ref 11,w)) (hk:k env w=some (.ref 8,w)):Jm (Ql eqG (Ql ixG g (eC (.int 0))) (Zw Z5 (Qc k (Qm)))) (Ql eqN (Zp false (xLs f) [] (eB (Ql qB (Qb 0) (eC .non))) (Qb 0)) (XA Qm)) env w=some (.bl (TR.still ds s),w):=by
 have e:((s.tk:Int)==(ds.length:Int))=decide (s.tk=ds.length):=by
  by_cases e:s.tk=ds.length
  ·rw [e];simp
  ·rw [decide_eq_false e,beq_eq_false_iff_ne];omega
 rw [za (Qk (Qk hg rfl (Vs A.ht)) ((Ym (ZD hk) (j8 A.hd)).trans (by rw [List.length_map])) (eqI _ _ w)),e]
 unfold TR.still
 cases decide (s.tk=ds.length) with
 | false=>rfl
 | true=>rw [if_pos rfl,Qa5 A hl hf];rfl
def UR (H:Nat):Nat->List TR.Out->List DV
 | _,[]=>[]
 | h,o::os=>zr h o::UR H ((h+1) % H) os
theorem QaY {H f:Nat} (h60:ds.length<=60) (hf:11 < f) (hH0:0 < H) (hH8:H<=8) {h:Nat} {os:List TR.Out} (R:TR.Run ds H 9000 h s os s2):∀ (w:Hs) (L:Nat->Nat) (rs:List DV) (fuel:Nat),TR.still ds s2=true->s.ws.length=H->WA w ds s L->w[f]?=some (.lst rs)->(∀ (i:Nat) (v:TR.Wk),s.ws[i]?=some v->v.ended=false->f < L i∨L i+2 < f)->rs.length+os.length < 90000->os.length < fuel ->
    ∃ w' L' h',XX (Jy (eB (Qu "Weaver" "idle" 1 Zf (Qb 0) Qm))) (YE) fuel [.val (.ref 4),.val (.ref f),.val (.int h)] w=some ((.nx,[.val (.ref 4),.val (.ref f),.val (.int h')]),w')/\WA w' ds s2 L'/\w'[f]?=some (.lst (rs++UR H h os))/\Fw (fun x=>CW x∨x=f) w s L w' s2 L':=by
  induction R with
  | nil h s =>
    intro w L rs fuel hs hl A gf hL hn hu
    obtain ⟨g,rfl⟩:∃ g,fuel=g+1:=⟨fuel - 1,by omega⟩
    refine ⟨w,L,h,QdN (J5 (b:=true) (QT ((QS (Qe rfl) A.hv (gM _) Xe rfl (uS A (by omega))).trans (by rw [hs])))),A,by show _=some (OV.lst (rs++[]));rw [List.append_nil];exact gf,Fw.refl⟩
  | @cons h s s1 s2 o os hs0 hlt yy em R ih =>
    intro w L rs fuel hs hl A gf hL hn hu
    obtain ⟨g,rfl⟩:∃ g,fuel=g+1:=⟨fuel - 1,by omega⟩
    obtain ⟨bg,b,Y,hb⟩:=yy
    have lf:f < w.length:=(List.getElem?_eq_some_iff.mp gf).1
    obtain ⟨w1,L1,e1,A1,F1⟩:=Qbs A Y hlt h60 (by omega) (hb h) em
    have gf1:w1[f]?=some (.lst rs):=(F1.old f lf (by unfold CW;omega) hL).trans gf
    obtain ⟨_,s1',_,em',_,l1,_⟩:=TR.gb Y hlt
    rw [em] at em';cases em'
    obtain ⟨hs6,k6,hsl,_⟩:=A1.hh
    simp only [List.length_cons] at hn hu
    let w2:Hs:=w1.set f (.lst (rs++[zr h o]))
    have gg:∀ {j:Nat} {z:OV},j≠f->w1[j]?=some z->w2[j]?=some z:=fun {j z} n hj=>gs (Ne.symm n) hj
    have hL1:∀ (i:Nat) (v:TR.Wk),s1.ws[i]?=some v->v.ended=false->f < L1 i∨L1 i+2 < f:=fun i v hi hv=>by
      rcases F1.own i v hi hv with ⟨u,a1,a2,a3⟩ | q
      . rw [a3];exact hL i u a1 a2
      . exact .inl (by omega)
    have A2:WA w2 ds s1 L1:=⟨gg (by omega) A1.h1,gg (by omega) A1.h2,gg (by omega) A1.hv,gg (by omega) A1.hd,(by obtain ⟨a,b1,c1⟩:=A1.hh;exact ⟨a,gg (by omega) b1,c1⟩),(by obtain ⟨a,b1,c1⟩:=A1.hn;exact ⟨a,gg (by omega) b1,c1⟩),fun i v hi hv=>by
      obtain ⟨p1,p2,p3,p4⟩:=A1.ob i v hi hv
      have q:=hL1 i v hi hv
      exact ⟨gg (by omega) p1,gg (by omega) p2,gg (by omega) p3,p4⟩,A1.dj⟩
    let E:En:=[.val (.ref 4),.val (.ref f),.val (.int h)]
    have u1:ZN (JZ "list" Zo (Qb 1) (Qc (Qu "Weaver" "move" 2 ZF (Qb 0) (Qc (Qb 2) (Qm))) (Qm))) E w=some ((.nx,E),w2):=J3 (Qcx (Qe rfl) gf (QS (Qe rfl) A.hv (Qei _) (ZD (Qe rfl)) rfl e1) gf1 (by omega))
    have md:(((h:Int)+1) % ((H:Nat):Int))=(((h+1) % H:Nat):Int):=by rw [Int.natCast_emod,Int.natCast_add];rfl
    have u2:QC 2 (Ql XM (Ql Ja (Qb 2) (eC (.int 1))) (Zw Z5 (Qc (Qx "Weaver" "held" (Qb 0)) (Qm)))) E w2=some ((.nx,[.val (.ref 4),.val (.ref f),.val (.int ((h+1) % H:Nat))]),w2):=QR (Qk (x:=.int ((h:Int)+1)) (y:=.int (H:Nat)) (Qk (Qe rfl) rfl rfl) ((qE (QP (Qe rfl) A2.hv (qJ _)) (gg (by omega) k6)).trans (by rw [hsl,l1,hl])) ((Zr (Jp _ _ (by omega)) w2).trans (by rw [md])))
    obtain ⟨w3,L3,h3,e3,A3,g3,F3⟩:=ih w2 L1 (rs++[zr h o]) g hs (by rw [l1];exact hl) A2 (gss gf1) hL1 (by simp;omega) (by omega)
    refine ⟨w3,L3,h3,(QdO (J5 (b:=false) (QT ((QS (Qe rfl) A.hv (gM _) Xe rfl (uS A (by omega))).trans (by rw [hs0])))) ((Qi u1).trans u2)).trans e3,A3,by rw [g3,List.append_assoc];rfl,?_⟩
    refine Fw.trans (w1:=w2) (s1:=s1) (L1:=L1) ⟨by show w.length<=(w1.set f _).length;rw [List.length_set];exact F1.len,F1.own,fun x hx hC hx2=>?_⟩ F3
    show (w1.set f _)[x]?=_
    rw [QI _ _ _ _ (fun e=>hC (.inr e.symm))]
    exact F1.old x hx (fun c=>hC (.inl c)) hx2
end
def XD (s:TR.St) (L:Nat->Nat) (s':TR.St) (M:Nat->Nat):Prop:=∀ (i j:Nat) (v u:TR.Wk),s.ws[i]?=some v->v.ended=false->s'.ws[j]?=some u->u.ended=false->L i+2 < M j∨M j+2 < L i
section
variable {w w1 w2:Hs} {s s1 s2 t t1:TR.St} {L L1 L2 M M1:Nat->Nat} {ds es:List TR.Deed} {bg:TR.Bg} {b:Nat->Nat} {C:Nat->Prop}
theorem XD.symm (X:XD s L t M):XD t M s L:=fun i j v u a1 a2 a3 a4=>(X j i u v a3 a4 a1 a2).symm
theorem XD.keep (X:XD s L t M) (F:Fw C w s L w1 s1 L1) (hM:∀ (j:Nat) (u:TR.Wk),t.ws[j]?=some u->u.ended=false->M j+2 < w.length):XD s1 L1 t M:=fun i j v u a1 a2 a3 a4=>by
 rcases F.own i v a1 a2 with ⟨v0,b1,b2,b3⟩ | q
 ·rw [b3];exact X i j v0 u b1 b2 a3 a4
 ·have:=hM j u a3 a4
  exact .inr (by omega)
theorem WA.small (A:WA w ds s L) (i:Nat) (v:TR.Wk) (h:s.ws[i]?=some v) (e:v.ended=false):L i+2 < w.length:=(List.getElem?_eq_some_iff.mp (A.ob i v h e).2.2.1).1
theorem LA.small (A:LA w ds s L) (i:Nat) (v:TR.Wk) (h:s.ws[i]?=some v) (e:v.ended=false):L i+2 < w.length:=(List.getElem?_eq_some_iff.mp (A.ob i v h e).2.2.1).1
theorem LA.keep (A:LA w es t M) (B:WA w ds s L) (F:Fw CW w s L w1 s1 L1) (X:XD s L t M):LA w1 es t M:=by
 have lo:∀ {x:Nat} {z:OV},x<=11->¬ CW x->w[x]?=some z->w1[x]?=some z:=fun {x z} hx hC h=>(F.old x (List.getElem?_eq_some_iff.mp h).1 hC fun i u a1 a2=>.inl (by have:=(B.ob i u a1 a2).2.2.2;omega)).trans h
 obtain ⟨hs,k9,r9⟩:=A.hh
 obtain ⟨xs,k10,r10⟩:=A.hn
 refine ⟨lo (by decide) (by unfold CW;omega) A.h1,lo (by decide) (by unfold CW;omega) A.h2,lo (by decide) (by unfold CW;omega) A.hd,⟨hs,lo (by decide) (by unfold CW;omega) k9,r9⟩,⟨xs,lo (by decide) (by unfold CW;omega) k10,r10⟩,lo (by decide) (by unfold CW;omega) A.ht,fun i v hi hv=>?_,A.dj⟩
 obtain ⟨p1,p2,p3,p4⟩:=A.ob i v hi hv
 have hi2:∀ {x:Nat} {z:OV},M i<=x->x<=M i+2->w[x]?=some z->w1[x]?=some z:=fun {x z} g1 g2 h=>(F.old x (List.getElem?_eq_some_iff.mp h).1 (by unfold CW;omega) fun j u a1 a2=>by
  have:=X j i u v a1 a2 hi hv
  omega).trans h
 exact ⟨hi2 (by omega) (by omega) p1,hi2 (by omega) (by omega) p2,hi2 (by omega) (by omega) p3,p4⟩
theorem WA.keep (B:WA w ds s L) (A:LA w es t M) (F:Fw CL w t M w1 t1 M1) (X:XD s L t M):WA w1 ds s L:=by
 have lo:∀ {x:Nat} {z:OV},x<=11->¬ CL x->w[x]?=some z->w1[x]?=some z:=fun {x z} hx hC h=>(F.old x (List.getElem?_eq_some_iff.mp h).1 hC fun i u a1 a2=>.inl (by have:=(A.ob i u a1 a2).2.2.2;omega)).trans h
 obtain ⟨hs,k6,r6⟩:=B.hh
 obtain ⟨ys,k7,r7⟩:=B.hn
 refine ⟨lo (by decide) (by unfold CL;omega) B.h1,lo (by decide) (by unfold CL;omega) B.h2,lo (by decide) (by unfold CL;omega) B.hv,lo (by decide) (by unfold CL;omega) B.hd,⟨hs,lo (by decide) (by unfold CL;omega) k6,r6⟩,⟨ys,lo (by decide) (by unfold CL;omega) k7,r7⟩,fun i v hi hv=>?_,B.dj⟩
 obtain ⟨p1,p2,p3,p4⟩:=B.ob i v hi hv
 have hi2:∀ {x:Nat} {z:OV},L i<=x->x<=L i+2->w[x]?=some z->w1[x]?=some z:=fun {x z} g1 g2 h=>(F.old x (List.getElem?_eq_some_iff.mp h).1 (by unfold CL;omega) fun j u a1 a2=>by
  have:=X i j v u hi hv a1 a2
  omega).trans h
 exact ⟨hi2 (by omega) (by omega) p1,hi2 (by omega) (by omega) p2,hi2 (by omega) (by omega) p3,p4⟩
theorem QaZ {H:Nat} (A:WA w ds s L) (h60:ds.length<=60) (h11:11 < w.length) (hH0:0 < H) (hH8:H<=8) {os:List TR.Out} (R:TR.Run ds H 9000 0 s os s2) (hs:TR.still ds s2=true) (hl:s.ws.length=H) (ho:os.length < 90000):∃ w' L',J4 [.ref 4] w=some (.ref w.length,w')/\WA w' ds s2 L'/\w'[w.length]?=some (.lst (UR H 0 os))/\Fw CW w s L w' s2 L':=by
 let f:=w.length
 let w0:Hs:=w++[OV.lst []]
 have g:∀ {j:Nat} {z:OV},w[j]?=some z->w0[j]?=some z:=fun {j z} h=>(List.getElem?_append_left (List.getElem?_eq_some_iff.mp h).1).trans h
 have A0:WA w0 ds s L:=⟨g A.h1,g A.h2,g A.hv,g A.hd,(by obtain ⟨a,b1,c1⟩:=A.hh;exact ⟨a,g b1,c1⟩),(by obtain ⟨a,b1,c1⟩:=A.hn;exact ⟨a,g b1,c1⟩),fun i v hi hv=>by
  obtain ⟨p1,p2,p3,p4⟩:=A.ob i v hi hv
  exact ⟨g p1,g p2,g p3,p4⟩,A.dj⟩
 obtain ⟨w',L',h',e,A',gf,F⟩:=QaY h60 (f:=f) h11 hH0 hH8 R w0 L [] 100000 hs hl A0 (by show (w++[OV.lst []])[w.length]?=_;simp) (fun i v hi hv=>.inr (A.small i v hi hv)) (by simp;omega) (by omega)
 have u1:QC 1 (J0 Qm) [.val (.ref 4),.un,.un] w=some ((.nx,[.val (.ref 4),.val (.ref f),.un]),w0):=QR rfl
 have u2:QC 2 (eC (.int 0)) [.val (.ref 4),.val (.ref f),.un] w0=some ((.nx,[.val (.ref 4),.val (.ref f),.val (.int 0)]),w0):=QR rfl
 refine ⟨w',L',Qy (env:=[.val (.ref 4),.val (.ref f),.val (.int h')]) ((Qi u1).trans ((Qi u2).trans ((Qi e).trans (QB (Qe rfl))))),A',gf,⟨?_,fun i v hi hv=>?_,fun x hx hC hx2=>?_⟩⟩
 ·have:=F.len
  simp [w0] at this;omega
 ·rcases F.own i v hi hv with q | q
  ·exact .inl q
  ·simp [w0] at q;exact .inr (by omega)
 ·rw [F.old x (by simp [w0];omega) (fun c=>by rcases c with c | c;exact hC c;exact absurd c (Nat.ne_of_lt hx)) hx2]
  exact List.getElem?_append_left hx
theorem Qaz {e1 e2 e3 e4 e5 e6:DEx} {env:En} {hp:Hs} {v1 v2 v3 v4 v5 v6:DV} (h1:e1 env hp=some (v1,hp)) (h2:e2 env hp=some (v2,hp)) (h3:e3 env hp=some (v3,hp)) (h4:e4 env hp=some (v4,hp)) (h5:e5 env hp=some (v5,hp)) (h6:e6 env hp=some (v6,hp)):Qc e1 (Qc e2 (Qc e3 (Qc e4 (Qc e5 (Qc e6 Qm))))) env hp=some ([v1,v2,v3,v4,v5,v6],hp):=by
 have r:=Qay h3 h4 h5 h6
 show (do let x <- e1 env;let xs <- Qc e2 (Qc e3 (Qc e4 (Qc e5 (Qc e6 Qm)))) env;pure (x::xs)) hp=_
 rw [Qg h1]
 show ((do let x <- e2 env;let xs <- Qc e3 (Qc e4 (Qc e5 (Qc e6 Qm))) env;pure (x::xs)) >>= fun xs=>pure (v1::xs)) hp=_
 have:(do let x <- e2 env;let xs <- Qc e3 (Qc e4 (Qc e5 (Qc e6 Qm))) env;pure (x::xs)) hp=some ([v2,v3,v4,v5,v6],hp):=by
  rw [Qg h2,Qg r];rfl
 rw [Qg this];rfl
theorem Qfz (A:LA w ds s L) (hl:s.ws.length < 1000) {f g k:DEx} {env:En} (hf:f env w=some (.ref 9,w)) (hg:g env w=some (.ref 11,w)) (hk:k env w=some (.ref 8,w)):Yo (eB (Ql eqG (Ql ixG g (eC (.int 0))) (Zw Z5 (Qc k (Qm))))) (eB (Ql eqN (Zp false (xLs f) [] (eB (Ql qB (Qb 0) (eC .non))) (Qb 0)) (XA Qm))) env w=some (TR.still ds s,w):=by
 have e:((s.tk:Int)==(ds.length:Int))=decide (s.tk=ds.length):=by
  by_cases e:s.tk=ds.length
  ·rw [e];simp
  ·rw [decide_eq_false e,beq_eq_false_iff_ne];omega
 have c:eB (Ql eqG (Ql ixG g (eC (.int 0))) (Zw Z5 (Qc k (Qm)))) env w=some (((s.tk:Int)==(ds.length:Int)),w):=QT (Qk (Qk hg rfl (Vs A.ht)) ((Ym (ZD hk) (j8 A.hd)).trans (by rw [List.length_map])) (eqI _ _ w))
 rw [e] at c
 unfold TR.still
 cases hd:decide (s.tk=ds.length) with
 | false=>rw [hd] at c;exact QaS c
 | true=>rw [hd] at c;exact (QaT c).trans (QT (Qa5 A hl hf))
theorem QbZ {H f:Nat} (h60:ds.length<=60) (hf:11 < f) (hH0:0 < H) (hH8:H<=8) {h:Nat} {os:List TR.Out} (R:TR.Run ds H 9000 h s os s2):∀ (w:Hs) (L:Nat->Nat) (pre:List DV) (fuel:Nat) (z8:Sl),s.ws.length=H->LA w ds s L->w[f]?=some (.lst (pre++UR H h os))->(∀ (i:Nat) (v:TR.Wk),s.ws[i]?=some v->v.ended=false->f < L i∨L i+2 < f)->os.length < fuel ->
    ∃ w' L' h' y8,Vh (nxW f) (fun d env=>gN 8 d env >>= fun env'=>Jo env') fuel pre.length [.val (.ref 4),.val (.ref 0),.val (.ref 9),.val (.ref 10),.val (.ref 8),.val (.ref 11),.val (.int h),.val (.ref f),z8] w=some ((.nx,[.val (.ref 4),.val (.ref 0),.val (.ref 9),.val (.ref 10),.val (.ref 8),.val (.ref 11),.val (.int h'),.val (.ref f),y8]),w')/\LA w' ds s2 L'/\Fw CL w s L w' s2 L':=by
  induction R with
  | nil h s =>
    intro w L pre fuel z8 hl A gf hL hu
    obtain ⟨g,rfl⟩:∃ g,fuel=g+1:=⟨fuel - 1,by omega⟩
    have x:=jx gf pre.length
    rw [List.getElem?_eq_none (by show (pre++[]).length<=_;simp)] at x
    refine ⟨w,L,h,z8,?_,A,Fw.refl⟩
    rw [Vh,Qg x];rfl
  | @cons h s s1 s2 o os hs0 hlt yy em R ih =>
    intro w L pre fuel z8 hl A gf hL hu
    obtain ⟨g,rfl⟩:∃ g,fuel=g+1:=⟨fuel - 1,by omega⟩
    obtain ⟨bg,b,Y,hb⟩:=yy
    have lf:f < w.length:=(List.getElem?_eq_some_iff.mp gf).1
    have x:=jx gf pre.length
    rw [show (pre++UR H h (o::os))[pre.length]?=some (zr h o) by rw [List.getElem?_append_right (Nat.le_refl _),Nat.sub_self];rfl] at x
    obtain ⟨w1,L1,e1,A1,F1⟩:=Qd4 A Y hlt h60 (hb h) em
    have gf1:w1[f]?=some (.lst ((pre++[zr h o])++UR H ((h+1) % H) os)):=(F1.old f lf (by unfold CL;omega) hL).trans (by rw [gf,List.append_assoc];rfl)
    obtain ⟨_,s1',_,em',_,l1,_⟩:=TR.gb Y hlt
    rw [em] at em';cases em'
    simp only [List.length_cons] at hu
    have hL1:∀ (i:Nat) (v:TR.Wk),s1.ws[i]?=some v->v.ended=false->f < L1 i∨L1 i+2 < f:=fun i v hi hv=>by
      rcases F1.own i v hi hv with ⟨u,a1,a2,a3⟩ | q
      . rw [a3];exact hL i u a1 a2
      . exact .inl (by omega)
    let E:Nat->Sl->En:=fun h z=>[.val (.ref 4),.val (.ref 0),.val (.ref 9),.val (.ref 10),.val (.ref 8),.val (.ref 11),.val (.int h),.val (.ref f),z]
    let E1:En:=E h (.val (zr h o))
    have c1:=Qfz A (by omega) (f:=Qb 2) (g:=Qb 5) (k:=Qb 4) (env:=E1) (Qe rfl) (Qe rfl) (Qe rfl)
    rw [hs0] at c1
    have u2:sIf (Jy (eB (QG 2 (ZM 6) (Qc (Qb 8) (Qc (QG 6 Yd (Qc (Qb 1) (Qc (Qb 2) (Qc (Qb 3) (Qc (Qb 4) (Qc (Qb 5) (Qc (Qb 6) (Qm)))))))) (Qm)))))) (QE (eC (.bl false))) (Zb) E1 w=some ((.nx,E1),w1):=(QL (J5 (b:=true) (QT (ZG (Z4 (Qe rfl) (ZG (Qaz (Qe rfl) (Qe rfl) (Qe rfl) (Qe rfl) (Qe rfl) (Qe rfl)) rfl e1)) rfl (Qee (zr h o) 3 (by decide) (Qcd h o) w1))))).trans QM
    obtain ⟨hs9,k9,hsl,_⟩:=A1.hh
    have md:(((h:Int)+1) % ((H:Nat):Int))=(((h+1) % H:Nat):Int):=by rw [Int.natCast_emod,Int.natCast_add];rfl
    have u3:QC 6 (Ql XM (Ql Ja (Qb 6) (eC (.int 1))) (Zw Z5 (Qc (Qb 2) (Qm)))) E1 w1=some ((.nx,E ((h+1) % H) (.val (zr h o))),w1):=QR (Qk (x:=.int ((h:Int)+1)) (y:=.int (H:Nat)) (Qk (Qe rfl) rfl rfl) ((qE (Qe rfl) k9).trans (by rw [hsl,l1,hl])) ((Zr (Jp _ _ (by omega)) w1).trans (by rw [md])))
    have bd:Jo E1 w=some ((.nx,E ((h+1) % H) (.val (zr h o))),w1):=(Qi ((QL c1).trans QM)).trans ((Qi u2).trans u3)
    obtain ⟨w3,L3,h3,y8,e3,A3,F3⟩:=ih w1 L1 (pre++[zr h o]) g (.val (zr h o)) (by rw [l1];exact hl) A1 gf1 hL1 (by omega)
    refine ⟨w3,L3,h3,y8,?_,A3,F1.trans F3⟩
    rw [Vh,Qg x]
    have bb:(gN 8 (zr h o) [.val (.ref 4),.val (.ref 0),.val (.ref 9),.val (.ref 10),.val (.ref 8),.val (.ref 11),.val (.int h),.val (.ref f),z8] >>= fun env'=>Jo env') w=some ((.nx,E ((h+1) % H) (.val (zr h o))),w1):=bd
    simp only
    rw [Qg bb]
    rw [List.length_append] at e3
    exact e3
theorem vE {H:Nat} (B:WA w ds s L) (A:LA w ds s M) (X:XD s L s M) (h60:ds.length<=60) (hH0:0 < H) (hH8:H<=8) {os:List TR.Out} (R:TR.Run ds H 9000 0 s os s2) (hs:TR.still ds s2=true) (hl:s.ws.length=H) (hl2:s2.ws.length=H) (ho:os.length < 90000):∃ w' L' M',JN [.ref 4,.ref 0,.ref 9,.ref 10,.ref 8,.ref 11] w=some (.bl true,w')/\WA w' ds s2 L'/\LA w' ds s2 M'/\XD s2 L' s2 M':=by
 have h11:11 < w.length:=(List.getElem?_eq_some_iff.mp A.ht).1
 obtain ⟨w1,L1,e1,B1,gf,F1⟩:=QaZ B h60 h11 hH0 hH8 R hs hl ho
 have A1:=A.keep B F1 X
 have X1:=X.keep F1 A.small
 obtain ⟨w2,M2,h2,y8,e2,A2,F2⟩:=QbZ h60 (f:=w.length) h11 hH0 hH8 R w1 M [] 100000 .un hl A1 gf (fun i v hi hv=>.inr (A.small i v hi hv)) (by omega)
 have B2:=B1.keep A1 F2 X1
 have X2:=(X1.symm.keep F2 B1.small).symm
 let E:Sl->Sl->Sl->En:=fun x y z=>[.val (.ref 4),.val (.ref 0),.val (.ref 9),.val (.ref 10),.val (.ref 8),.val (.ref 11),x,y,z]
 let E2:En:=E (.val (.int 0)) (.val (.ref w.length)) .un
 have u2:QC 7 (Qu "Weaver" "finish" 1 J4 (Qb 0) Qm) (E (.val (.int 0)) .un .un) w=some ((.nx,E2),w1):=QR (QS (Qe rfl) B.hv (QgU _) Xe rfl e1)
 have isi:Gj "list" (Qb 7) E2 w1=some (.bl true,w1):=by
  unfold Gj
  rw [Qg (Qe rfl)]
  show (Z3 w.length >>= _) w1=_
  rw [Qg (ZI gf)];rfl
 have u3:sIf (eOr (Jy (eB (Gj "list" (Qb 7)))) (Jy (eB (Qu "Weaver" "idle" 1 Zf (Qb 0) Qm)))) (QE (eC (.bl false))) (Zb) E2 w1=some ((.nx,E2),w1):=(QL ((jV (J5 (b:=true) (QT isi))).trans (J5 (b:=true) (QT ((QS (Qe rfl) B1.hv (gM _) Xe rfl (uS B1 (by omega))).trans (by rw [hs])))))).trans QM
 have u4:YY E2 w1=some ((.nx,E (.val (.int h2)) (.val (.ref w.length)) y8),w2):=by
  show VB (xLs (Qb 7)) (gN 8) (Jo) E2 w1=_
  unfold VB
  rw [Qg (yY (Qe rfl) gf)];exact e2
 have u5:=Qch A2 (by omega) (f:=Qb 2) (g:=Qb 5) (k:=Qb 4) (env:=E (.val (.int h2)) (.val (.ref w.length)) y8) (Qe rfl) (Qe rfl) (Qe rfl)
 rw [hs] at u5
 exact ⟨w2,L1,M2,Qy (env:=E (.val (.int h2)) (.val (.ref w.length)) y8) ((Qi (env1:=E (.val (.int 0)) .un .un) (hp1:=w) (QR rfl)).trans ((Qi u2).trans ((Qi u3).trans ((Qi u4).trans (QB u5))))),B2,A2,X2⟩
end
theorem QcD (ns:List Int) (k:Nat) (hl:ns.length<=63):∃ x,JD [.lst (ns.map .int),.int k]=pure (.int x):=by
 by_cases h:k < ns.length
 ·have a:=qt (xs:=ns.map DV.int) (j:=k) (v:=.int ns[k]) (by simp [h])
  refine ⟨ns[k],?_⟩
  have h':(k:Int) < (ns.length:Int):=by omega
  simp [JD,YO,Q5,Qr,QC,QE,qc,sIf,Zb,yb,jS,x9,ya,Ql,Qb,eC,eB,asB,Yo,eOr,Jy,Jm,xT,Yp,eIf,X6,Qm,Qc,Zu,XA,QG,Zw,Qw,gN,Z7,Ju,Ji,Jk,JB,Jz,Jq,YG,Y8,x8,ZQ,JX,YS,ixD,asI,a,h']
 ·have h':¬ (k:Int) < (ns.length:Int):=by omega
  exact ⟨0,by simp [JD,YO,Q5,Qr,QC,QE,qc,sIf,Zb,yb,jS,x9,ya,Ql,Qb,eC,eB,asB,Yo,eOr,Jy,Jm,xT,Yp,eIf,X6,Qm,Qc,Zu,XA,QG,Zw,Qw,gN,Z7,Ju,Ji,Jk,JB,Jz,Jq,YG,Y8,x8,ZQ,JX,YS,h']⟩
theorem qv {c k:Int} (h:JE c) (hk:0 < k):JE (c / k):=ko (by
 have:=PySem.natAbs_fdiv_le c k
 rwa [Int.fdiv_eq_ediv_of_nonneg _ (by omega)] at this) h
theorem Qc0 {x y:Int} (hx:JE x) (hy:JE y):QcZ (.int x) (.int y)=pure (.int (x * y)):=by
 have:QdY x y=true:=decide_eq_true ⟨hx,hy⟩
 simp [QcZ,qA,this]
theorem Qhb:YT (.int 1000000007) (.int 3)=pure (.int 1000000021000000147000000343):=rfl
theorem Qbd (c:Int) (h:JE c) (hp:Hs):∃ k,Xy [.int c] hp=some (.int k,hp):=by
  have d6:=Zr (Xg c 6 (by decide) (by decide)) hp
  have m6:=Zr (Jp c 6 (by decide)) hp
  let E:En:=[.val (.int c),.val (.int (c / 6))]
  have s1:QC 1 (Ql qx (Qb 0) (eC (.int 6))) [.val (.int c),.un] hp=some ((.nx,E),hp):=QR (Qk (Qe rfl) rfl d6)
  have t:∀ i:Int,eB (Ql eqD (Ql XM (Qb 0) (eC (.int 6))) (eC (.int i))) E hp=some (c % 6==i,hp):=fun i=>QT (Qk (Qk (Qe rfl) rfl m6) rfl (Zr (ZQ _ _) _))
  have p30:Ql YT (eC (.int 10)) (eC (.int 30)) E hp=some (.int 1000000000000000000000000000000,hp):=Qk rfl rfl (Zr YG _)
  have hb:JE (1000000021000000147000000343:Int):=by decide
  have m1:=Zr (Qc0 (qv h (k:=6) (by decide)) hb) hp
  have m2:=Zr (Jp (c / 6 * 1000000021000000147000000343) (2 * 1000000000000000000000000000000+1) (by decide)) hp
  have m3:=Zr (Qbt 2 1000000000000000000000000000000 (by decide) (by decide)) hp
  have m4:=Zr (Jp (c / 6) 4 (by decide)) hp
  have m17:=Zr (Jp (c / 6) 17 (by decide)) hp
  cases h0:(c % 6==0) with
  | true =>
    exact ⟨_,Qy (env:=E) ((Qi s1).trans (Zc ((Zq ((t 0).trans (by rw [h0]))).trans (QB (Qk (Qk (Qk (Qe rfl) (Qk rfl rfl (Zr Qhb _)) m1) (Qk (Qk rfl p30 m3) rfl rfl) m2) p30 rfl)))))⟩
  | false =>
    cases h1:(c % 6==1) with
    | true =>
      have g0:0<=c / 6 % 4:=Int.emod_nonneg _ (by decide)
      have g1:c / 6 % 4 < 4:=Int.emod_lt_of_pos _ (by decide)
      have nn:X6 (Ql YT (eC (.int 10)) (eC (.int 30))) E hp=some (.int (-1000000000000000000000000000000),hp):=rfl
      obtain ⟨v,hv⟩:∃ v:Int,ixD (.lst [.int 1000000000000000000000000000000,.int (-1000000000000000000000000000000),.int (1000000000000000000000000000000 - 1),.int (1 - 1000000000000000000000000000000)]) (.int (c / 6 % 4)) hp=some (.int v,hp):=by
        rcases (by omega:c / 6 % 4=0∨c / 6 % 4=1∨c / 6 % 4=2∨c / 6 % 4=3) with q | q | q | q<;>rw [q]<;>exact ⟨_,rfl⟩
      have ls:XA (Qc (Ql YT (eC (.int 10)) (eC (.int 30))) (Qc (X6 (Ql YT (eC (.int 10)) (eC (.int 30)))) (Qc (Ql xC (Ql YT (eC (.int 10)) (eC (.int 30))) (eC (.int 1))) (Qc (Ql xC (eC (.int 1)) (Ql YT (eC (.int 10)) (eC (.int 30)))) (Qm))))) E hp=some (.lst [.int 1000000000000000000000000000000,.int (-1000000000000000000000000000000),.int (1000000000000000000000000000000 - 1),.int (1 - 1000000000000000000000000000000)],hp):=rfl
      exact ⟨v,Qy (env:=E) ((Qi s1).trans ((Qi ((QL ((t 0).trans (by rw [h0]))).trans QM)).trans (Zc ((Zq ((t 1).trans (by rw [h1]))).trans (QB (Qk ls (Qk (Qe rfl) rfl m4) hv))))))⟩
    | false =>
      exact ⟨_,Qy (env:=E) ((Qi s1).trans ((Qi ((QL ((t 0).trans (by rw [h0]))).trans QM)).trans ((Qi ((QL ((t 1).trans (by rw [h1]))).trans QM)).trans (QB (Qk (Qk (Qe rfl) rfl m17) rfl rfl)))))⟩
theorem Qcl (r:Nat) (h:2<=r):TR.Tree ⟨r,[⟨0,[],[],none,none⟩],0,0,0⟩ (fun _=>none):=by
 have one:∀ (n:Nat) (p:TR.Pg),([⟨0,[],[],none,none⟩]:List TR.Pg)[n]?=some p->n=0/\p=⟨0,[],[],none,none⟩:=fun n p hp=>by
  match n,hp with
  | 0,hp=>cases hp;exact ⟨rfl,rfl⟩
  | n+1,hp=>simp at hp
 refine ⟨h,⟨_,rfl,fun n p hp=>?_⟩,rfl,fun n p hp=>?_,fun n p hp=>?_,fun n p hp h0=>?_,fun n m p q hn hm _ e=>?_,fun n p hp v hv=>(by cases hv)⟩
 ·rw [(one n p hp).2];exact Nat.le_refl _
 ·rw [(one n p hp).2]
  exact ⟨List.Pairwise.nil,Nat.zero_le _,rfl,fun k hk=>(by cases hk),fun _ k hk=>(by cases hk),fun k hk=>(by cases hk),fun h hh=>(by cases hh)⟩
 ·rw [(one n p hp).2];exact .inl ⟨rfl,rfl⟩
 ·rw [(one n p hp).2] at h0;exact absurd h0 (by decide)
 ·exact absurd ((one n p hn).1.trans (one m q hm).1.symm) e
theorem QdP (S P S2 P2:OV) (n:Nat) (hn:n<=8):JH [.ref 4,.ref 2,.int n] [S,P,S2,P2,.ins "Weaver" []]=some (.non,[S,P,S2,P2,.ins "Weaver" (wvF 0),.lst [],.lst (List.replicate n .non),.lst []]):=by
 let E:En:=[.val (.ref 4),.val (.ref 2),.val (.int n)]
 let w:List (Str×DV)->Hs->Hs:=fun fs t=>S::P::S2::P2::.ins "Weaver" fs::t
 have st:∀ (nm:Str) (e:DEx) (v:DV) (fs:List (Str×DV)) (t t':Hs),e E (w fs t)=some (v,w fs t')->fs.length < 1000->Q1 "Weaver" nm (Qb 0) e E (w fs t)=some ((.nx,E),w (JR nm v fs) t'):=fun nm e v fs t t' he hl=>by
  rw [Jh he (Qe rfl) rfl hl];rfl
 have ml:Ql Qbu (XA (Qc (eC .non) (Qm))) (Qb 2) E (w [("shelf", .ref 2),("deeds", .ref 5),("taken", .int 0)] [.lst []])=some (.ref 6,w [("shelf", .ref 2),("deeds", .ref 5),("taken", .int 0)] [.lst [],.lst (List.replicate n .non)]):=by
  refine Qk (x:=.lst [.non]) (y:=.int n) rfl (Qe rfl) ?_
  unfold Qbu
  show (Qw (decide (0<=(n:Int)/\(n:Int).toNat<=100000)) >>= fun _=>XS (.lst (List.replicate (n:Int).toNat .non)):M DV) _=_
  rw [decide_eq_true ⟨by omega,by omega⟩];rfl
 refine gy (env:=E) ?_
 refine (Qi (st "shelf" _ (.ref 2) [] [] [] (Qe rfl) (by decide))).trans ?_
 refine (Qi (st "deeds" _ (.ref 5) [("shelf", .ref 2)] [] [.lst []] rfl (show (1:Nat) < 1000 by decide))).trans ?_
 refine (Qi (st "taken" _ (.int 0) [("shelf", .ref 2),("deeds", .ref 5)] [.lst []] [.lst []] rfl (show (2:Nat) < 1000 by decide))).trans ?_
 refine (Qi (st "held" _ (.ref 6) [("shelf", .ref 2),("deeds", .ref 5),("taken", .int 0)] [.lst []] [.lst [],.lst (List.replicate n .non)] ml (show (3:Nat) < 1000 by decide))).trans ?_
 exact st "done" _ (.ref 7) [("shelf", .ref 2),("deeds", .ref 5),("taken", .int 0),("held", .ref 6)] [.lst [],.lst (List.replicate n .non)] [.lst [],.lst (List.replicate n .non),.lst []] rfl (show (4:Nat) < 1000 by decide)
theorem Qeu (c:Int) (h:JE c) (hp:Hs):∃ d,Yj [.int c] hp=some (Q3 d,hp):=by
  have m9:=Zr (Jp c 9 (by decide)) hp
  have d9:=Zr (Xg c 9 (by decide) (by decide)) hp
  have d37:=Zr (Xg c 37 (by decide) (by decide)) hp
  have d131:=Zr (Xg c 131 (by decide) (by decide)) hp
  obtain ⟨k,ke⟩:=Qbd (c / 9) (qv h (by decide)) hp
  obtain ⟨x,xe⟩:=Qbd (c / 37) (qv h (by decide)) hp
  obtain ⟨y,ye⟩:=Qbd (c / 131) (qv h (by decide)) hp
  let E:Sl->En:=fun z=>[.val (.int c),.val (.int (c % 9)),.val (.int k),z]
  have s1:QC 1 (Ql XM (Qb 0) (eC (.int 9))) [.val (.int c),.un,.un,.un] hp=some ((.nx,[.val (.int c),.val (.int (c % 9)),.un,.un]),hp):=QR (Qk (Qe rfl) rfl m9)
  have s2:QC 2 (QG 1 Xy (Qc (Ql qx (Qb 0) (eC (.int 9))) (Qm))) [.val (.int c),.val (.int (c % 9)),.un,.un] hp=some ((.nx,E .un),hp):=QR (ZG (ZD (Qk (Qe rfl) rfl d9)) rfl ke)
  have t0:eB (Ql eqD (Qb 1) (eC (.int 0))) (E .un) hp=some (c % 9==0,hp):=QT (Qk (Qe rfl) rfl (Zr (ZQ _ _) _))
  have tl:∀ i:Int,eB (Ql ltD (Qb 1) (eC (.int i))) (E .un) hp=some (decide (c % 9 < i),hp):=fun i=>QT (Qk (Qe rfl) rfl rfl)
  cases h0:(c % 9==0) with
  | true=>exact ⟨.find k,Qy (env:=E .un) ((Qi s1).trans ((Qi s2).trans (Zc ((Zq (t0.trans (by rw [h0]))).trans (QB (Je (Z4 rfl (Qe rfl)) (by simp)))))))⟩
  | false =>
    cases h5:decide (c % 9 < 5) with
    | true=>exact ⟨.put k x,Qy (env:=E .un) ((Qi s1).trans ((Qi s2).trans ((Qi ((QL (t0.trans (by rw [h0]))).trans QM)).trans (Zc ((Zq ((tl 5).trans (by rw [h5]))).trans (QB (Je (Xt rfl (Qe rfl) (ZG (ZD (Qk (Qe rfl) rfl d37)) rfl xe)) (by simp))))))))⟩
    | false =>
      cases h7:decide (c % 9 < 7) with
      | true=>exact ⟨.cut k,Qy (env:=E .un) ((Qi s1).trans ((Qi s2).trans ((Qi ((QL (t0.trans (by rw [h0]))).trans QM)).trans ((Qi ((QL ((tl 5).trans (by rw [h5]))).trans QM)).trans (Zc ((Zq ((tl 7).trans (by rw [h7]))).trans (QB (Je (Z4 rfl (Qe rfl)) (by simp)))))))))⟩
      | false =>
        have s3:QC 3 (QG 1 Xy (Qc (Ql qx (Qb 0) (eC (.int 131))) (Qm))) (E .un) hp=some ((.nx,E (.val (.int y))),hp):=QR (ZG (ZD (Qk (Qe rfl) rfl d131)) rfl ye)
        obtain ⟨y1,s4⟩:∃ y1:Int,sIf (eB (Ql eqD (Qb 3) (Qb 2))) (QC 3 (Ql xC (Qb 2) (eC (.int 1)))) (Zb) (E (.val (.int y))) hp=some ((.nx,E (.val (.int y1))),hp):=by
          have t:eB (Ql eqD (Qb 3) (Qb 2)) (E (.val (.int y))) hp=some (y==k,hp):=QT (Qk (Qe rfl) (Qe rfl) (Zr (ZQ _ _) _))
          cases e:(y==k) with
          | true=>exact ⟨k - 1,(Zq (t.trans (by rw [e]))).trans (QR (Qk (Qe rfl) rfl rfl))⟩
          | false=>exact ⟨y,(QL (t.trans (by rw [e]))).trans QM⟩
        obtain ⟨y2,s5⟩:∃ y2:Int,sIf (eB (Ql ltD (Qb 3) (X6 (Ql YT (eC (.int 10)) (eC (.int 30)))))) (QC 3 (Ql Ja (Qb 2) (eC (.int 1)))) (Zb) (E (.val (.int y1))) hp=some ((.nx,E (.val (.int y2))),hp):=by
          have t:eB (Ql ltD (Qb 3) (X6 (Ql YT (eC (.int 10)) (eC (.int 30))))) (E (.val (.int y1))) hp=some (decide (y1 < -1000000000000000000000000000000),hp):=QT (Qk (y:=.int (-1000000000000000000000000000000)) (Qe rfl) rfl rfl)
          cases e:decide (y1 < -1000000000000000000000000000000) with
          | true=>exact ⟨k+1,(Zq (t.trans (by rw [e]))).trans (QR (Qk (Qe rfl) rfl rfl))⟩
          | false=>exact ⟨y1,(QL (t.trans (by rw [e]))).trans QM⟩
        obtain ⟨lo,hlo⟩:∃ m:Int,QcY [.int k,.int y2]=pure (.int m):=⟨_,rfl⟩
        obtain ⟨hi,hhi⟩:∃ m:Int,QcX [.int k,.int y2]=pure (.int m):=⟨_,rfl⟩
        exact ⟨.stretch lo hi,Qy (env:=E (.val (.int y2))) ((Qi s1).trans ((Qi s2).trans ((Qi ((QL (t0.trans (by rw [h0]))).trans QM)).trans ((Qi ((QL ((tl 5).trans (by rw [h5]))).trans QM)).trans ((Qi ((QL ((tl 7).trans (by rw [h7]))).trans QM)).trans ((Qi s3).trans ((Qi s4).trans ((Qi s5).trans (QB (Je (Xt rfl (Ym (Z4 (Qe rfl) (Qe rfl)) (Zr hlo _)) (Ym (Z4 (Qe rfl) (Qe rfl)) (Zr hhi _))) (by simp)))))))))))⟩
def ahD (st:Int) (n:Nat):List TR.Deed:=(List.range n).map fun j:Nat=>.put ((j:Int) * st % 47 - 9) (100+j)
theorem Qcw (c:Int) (hp:Hs):∃ ds:List TR.Deed,ds.length<=23/\YB [.int c] hp=some (.ref hp.length,hp++[.lst (ds.map Q3)]):=by
 have d24:=Zr (Xg c 24 (by decide) (by decide)) hp
 have m5:=Zr (Jp (c / 24) 5 (by decide)) hp
 have m24:=Zr (Jp c 24 (by decide)) hp
 have g0:0<=c / 24 % 5:=Int.emod_nonneg _ (by decide)
 have g1:c / 24 % 5 < 5:=Int.emod_lt_of_pos _ (by decide)
 have g2:0<=c % 24:=Int.emod_nonneg _ (by decide)
 have g3:c % 24 < 24:=Int.emod_lt_of_pos _ (by decide)
 obtain ⟨n,hn⟩:=Qbv g2
 obtain ⟨st,hst,s0,s1⟩:∃ st:Int,ixG (.lst [.int 7,.int 11,.int 23,.int 1,.int 46]) (.int (c / 24 % 5)) hp=some (.int st,hp)/\0<=st/\st<=46:=by
  rcases (by omega:c / 24 % 5=0∨c / 24 % 5=1∨c / 24 % 5=2∨c / 24 % 5=3∨c / 24 % 5=4) with q | q | q | q | q<;>rw [q]<;>exact ⟨_,rfl,by decide,by decide⟩
 let E:En:=[.val (.int c),.val (.int st)]
 have u1:QC 1 (Ql ixG (XA (Qc (eC (.int 7)) (Qc (eC (.int 11)) (Qc (eC (.int 23)) (Qc (eC (.int 1)) (Qc (eC (.int 46)) (Qm))))))) (Ql XM (Ql qx (Qb 0) (eC (.int 24))) (eC (.int 5)))) [.val (.int c),.un] hp=some ((.nx,E),hp):=QR (Qk rfl (Qk (Qk (Qe rfl) rfl d24) rfl m5) hst)
 let g:DV->DV:=fun d=>match d with | .int j=>.tup [.str "put", .int (j * st % 47 - 9),.int (100+j)] | _=>.non
 have cx:=xO (hp:=hp) (t:=fun d=>xD (cE [1] E d)) (f:=fun d=>Zu (Qc (eC (.str "put")) (Qc (Ql xC (Ql XM (Ql kZ (Qb 0) (Qb 1)) (eC (.int 47))) (eC (.int 9))) (Qc (Ql Ja (eC (.int 100)) (Qb 0)) (Qm)))) (cE [1] E d)) (g:=g) (Zx 0 n) (fun _ _=>rfl) (fun d hd=>by
  obtain ⟨j,hj⟩:=List.getElem?_of_mem hd
  obtain ⟨j1,rfl⟩:=KL hj
  exact Je (Xt rfl (Qk (Qk (Qk (x:=.int (j:Int)) (y:=.int st) rfl rfl (Zr (Qbt (j:Int) st (by omega) (by omega)) hp)) rfl (Zr (Jp _ 47 (by decide)) hp)) rfl rfl) (Qk rfl rfl rfl)) (by simp)) (by rw [Jc];omega)
 have e:(Zx 0 n).map g=(ahD st n).map Q3:=by
  unfold ahD Zx
  rw [List.map_map,List.map_map]
  apply List.map_congr_left
  intro j _
  show g (.int ((0:Nat)+(j:Int)))=Q3 (.put ((j:Int) * st % 47 - 9) (100+j))
  simp [g,Q3]
 rw [e] at cx
 refine ⟨ahD st n,by unfold ahD;simp;omega,Qy (env:=E) ((Qi u1).trans (QB ?_))⟩
 unfold ja Zp
 rw [Qg (K1 (yU (m:=n) (ZD ((Qk (Qe rfl) rfl m24).trans (by rw [hn]))) (by omega))),Qg (show ZX _ _ _ lim 0 hp=_ from cx)];rfl
section
variable {w w1 w2:Hs} {s s1 s2 t t1:TR.St} {L L1 L2 M M1:Nat->Nat} {ds es:List TR.Deed} {bg:TR.Bg} {b:Nat->Nat}
theorem WA.put (A:WA w ds s L) {x:Nat} {o:OV} (hx:x=8):WA (w.set x o) ds s L:=by
 subst hx
 obtain ⟨a,b1,c1⟩:=A.hh
 obtain ⟨a',b1',c1'⟩:=A.hn
 exact ⟨gs (by decide) A.h1,gs (by decide) A.h2,gs (by decide) A.hv,gs (by decide) A.hd,⟨a,gs (by decide) b1,c1⟩,⟨a',gs (by decide) b1',c1'⟩,fun i v hi hv=>by
  obtain ⟨p1,p2,p3,p4⟩:=A.ob i v hi hv
  exact ⟨gs (by omega) p1,gs (by omega) p2,gs (by omega) p3,p4⟩,A.dj⟩
theorem WA.hand (A:WA w ds s L) (d:TR.Deed):WA (w.set 5 (.lst ((ds++[d]).map Q3))) (ds++[d]) s L:=by
 obtain ⟨a,b1,c1⟩:=A.hh
 obtain ⟨a',b1',c1'⟩:=A.hn
 exact ⟨gs (by decide) A.h1,gs (by decide) A.h2,gs (by decide) A.hv,gss A.hd,⟨a,gs (by decide) b1,c1⟩,⟨a',gs (by decide) b1',c1'⟩,fun i v hi hv=>by
  obtain ⟨p1,p2,p3,p4⟩:=A.ob i v hi hv
  exact ⟨gs (by omega) p1,gs (by omega) p2,gs (by omega) p3,p4⟩,A.dj⟩
theorem LA.put (A:LA w ds s L) {o:OV}:LA (w.set 5 o) ds s L:=by
 obtain ⟨a,b1,c1⟩:=A.hh
 obtain ⟨a',b1',c1'⟩:=A.hn
 exact ⟨gs (by decide) A.h1,gs (by decide) A.h2,gs (by decide) A.hd,⟨a,gs (by decide) b1,c1⟩,⟨a',gs (by decide) b1',c1'⟩,gs (by decide) A.ht,fun i v hi hv=>by
  obtain ⟨p1,p2,p3,p4⟩:=A.ob i v hi hv
  exact ⟨gs (by omega) p1,gs (by omega) p2,gs (by omega) p3,p4⟩,A.dj⟩
theorem LA.hand (A:LA w ds s L) (d:TR.Deed):LA (w.set 8 (.lst ((ds++[d]).map Q3))) (ds++[d]) s L:=by
 obtain ⟨a,b1,c1⟩:=A.hh
 obtain ⟨a',b1',c1'⟩:=A.hn
 exact ⟨gs (by decide) A.h1,gs (by decide) A.h2,gss A.hd,⟨a,gs (by decide) b1,c1⟩,⟨a',gs (by decide) b1',c1'⟩,gs (by decide) A.ht,fun i v hi hv=>by
  obtain ⟨p1,p2,p3,p4⟩:=A.ob i v hi hv
  exact ⟨gs (by omega) p1,gs (by omega) p2,gs (by omega) p3,p4⟩,A.dj⟩
theorem gt {n k p:Nat} {S:TR.Sh} {hp:Hs} (h1:hp[n]?=some (.ins "Shelf" (shF S.room k S.top S.rd S.wr))) (h2:hp[k]?=some (.lst (S.pg.map pgD))) (nk:n≠k) (hl:S.pg.length < 99000) (env:En) (he:env[p]?=some (.val (.ref n))) :
    Zp false (xOf (yQ (Qc (Qu "Shelf" "pages" 1 ZW (Qb p) Qm) (Qm)))) [p] (xD) (Qu "Shelf" "read" 2 Zs (Qb 1) (Qc (Qb 0) (Qm))) env hp=some (.lst (S.pg.map pgD),hp.set n (.ins "Shelf" (shF S.room k S.top (S.rd+S.pg.length) S.wr))):=by
  let W:Nat->Hs:=fun i=>hp.set n (.ins "Shelf" (shF S.room k S.top (S.rd+i) S.wr))
  have w1:∀ i,(W i)[n]?=some (.ins "Shelf" (shF S.room k S.top (S.rd+i) S.wr)):=fun i=>gss h1
  have w2:∀ i,(W i)[k]?=some (.lst (S.pg.map pgD)):=fun i=>gs nk h2
  have ws:∀ i,(W i).set n (.ins "Shelf" (shF S.room k S.top (S.rd+i+1) S.wr))=W (i+1):=fun i=>by
    show (hp.set n _).set n _=hp.set n _
    rw [List.set_set,show S.rd+(i:Int)+1=S.rd+((i+1:Nat):Int) by omega]
  have w0:W 0=hp:=by
    show hp.set n _=hp
    rw [show S.rd+((0:Nat):Int)=S.rd by simp];exact gB h1
  have ce:∀ m:Nat,cE [p] env (.int m)=[.val (.int m),.val (.ref n)]:=fun m=>by
    show [Sl.val (DV.int m),kA ((env[p]?).getD .un)]=_
    rw [he];rfl
  have cx:∀ (m i fuel:Nat),m+i=S.pg.length->m < fuel->ZX (nxD (Zx 0 S.pg.length)) (fun d=>xD (cE [p] env d)) (fun d=>Qu "Shelf" "read" 2 Zs (Qb 1) (Qc (Qb 0) Qm) (cE [p] env d)) fuel i (W i)=some ((S.pg.drop i).map pgD,W S.pg.length):=by
    intro m
    induction m with
    | zero =>
      intro i fuel e hf
      obtain ⟨g,rfl⟩:∃ g,fuel=g+1:=⟨fuel - 1,by omega⟩
      have:i=S.pg.length:=by omega
      subst this
      have x:=jw (Zx 0 S.pg.length) S.pg.length (by rw [Jc];omega) (W S.pg.length)
      rw [List.getElem?_eq_none (by rw [Jc];omega)] at x
      rw [ZX,Qg x,List.drop_length];rfl
    | succ m ih =>
      intro i fuel e hf
      obtain ⟨g,rfl⟩:∃ g,fuel=g+1:=⟨fuel - 1,by omega⟩
      have hi:i < S.pg.length:=by omega
      have x:=jw (Zx 0 S.pg.length) i (by rw [Jc];omega) (W i)
      have gi:(Zx 0 S.pg.length)[i]?=some (.int (i:Int)):=by
        have:=List.getElem?_eq_getElem (l:=Zx 0 S.pg.length) (i:=i) (by rw [Jc];exact hi)
        rw [this];congr 1
        exact (KL this).2
      rw [gi] at x
      have hg:S.pg[i]?=some S.pg[i]:=List.getElem?_eq_getElem hi
      have rd:=gq (i:=i) (d:=pgD S.pg[i]) (w1 i) (w2 i) nk (by rw [List.getElem?_map,hg];rfl)
      rw [ws] at rd
      have me:Qu "Shelf" "read" 2 Zs (Qb 1) (Qc (Qb 0) Qm) (cE [p] env (.int (i:Int))) (W i)=some (pgD S.pg[i],W (i+1)):=by
        rw [ce]
        exact QS (Qe rfl) (w1 i) (VQ ..) (ZD (Qe rfl)) rfl rd
      rw [ZX,Qg x]
      simp only
      rw [show (xD (cE [p] env (.int (i:Int))))=pure true from rfl,pure_bind]
      simp only [if_true]
      rw [Qg me,Qg (ih (i+1) g (by omega) (by omega)),List.drop_eq_getElem_cons hi];rfl
  have src:xOf (yQ (Qc (Qu "Shelf" "pages" 1 ZW (Qb p) Qm) Qm)) env hp=some (nxD (Zx 0 S.pg.length),hp):=K1 (yU (m:=S.pg.length) (ZD ((QS (Qe he) h1 (yF ..) Xe rfl (GH h1 h2)).trans (by rw [List.length_map]))) (by omega))
  have c0:=cx S.pg.length 0 lim rfl (by unfold lim;omega)
  rw [w0,List.drop_zero] at c0
  unfold Zp
  rw [Qg src,Qg c0];rfl
theorem UE:∀ (rest pre:List TR.Deed) (fuel:Nat) (w:Hs) (e0 e1 e2 e3 e4 e5 e7 z8 e9 e10 e11 e12 e13 e14 e15:Sl),w[8]?=some (.lst ((pre++rest).map Q3))->w[4]?=some (.ins "Weaver" (wvF 0))->w[5]?=some (.lst (pre.map Q3))->(pre++rest).length<=60->rest.length < fuel ->
    ∃ y8,Vh (nxW 8) (fun d env=>gN 8 d env >>= fun env'=>j7 env') fuel pre.length [e0,e1,e2,e3,e4,e5,.val (.ref 4),e7,z8,e9,e10,e11,e12,e13,e14,e15] w=some ((.nx,[e0,e1,e2,e3,e4,e5,.val (.ref 4),e7,y8,e9,e10,e11,e12,e13,e14,e15]),w.set 5 (.lst ((pre++rest).map Q3)))
  | [],pre,fuel,w,e0,e1,e2,e3,e4,e5,e7,z8,e9,e10,e11,e12,e13,e14,e15,h8,h4,h5,hl,hf=>by
    obtain ⟨g,rfl⟩:∃ g,fuel=g+1:=⟨fuel - 1,by omega⟩
    have x:=jx h8 pre.length
    rw [List.getElem?_eq_none (by simp)] at x
    refine ⟨z8,?_⟩
    rw [Vh,Qg x,List.append_nil,gB h5];rfl
  | d::rest,pre,fuel,w,e0,e1,e2,e3,e4,e5,e7,z8,e9,e10,e11,e12,e13,e14,e15,h8,h4,h5,hl,hf=>by
    obtain ⟨g,rfl⟩:∃ g,fuel=g+1:=⟨fuel - 1,by omega⟩
    have x:=jx h8 pre.length
    rw [List.getElem?_map,List.getElem?_append_right (Nat.le_refl _),Nat.sub_self] at x
    have hl':pre.length+(rest.length+1)<=60:=by simpa using hl
    let E:Sl->En:=fun z=>[e0,e1,e2,e3,e4,e5,.val (.ref 4),e7,z,e9,e10,e11,e12,e13,e14,e15]
    have hd:=Qa6 (d:=Q3 d) h4 h5 (by rw [List.length_map];omega)
    have b:j7 (E (.val (Q3 d))) w=some ((.nx,E (.val (Q3 d))),w.set 5 (.lst ((pre++[d]).map Q3))):=(J3 (QS (Qe rfl) h4 (Qej _) (ZD (Qe rfl)) rfl hd)).trans (by rw [List.map_append];rfl)
    obtain ⟨y8,e⟩:=UE rest (pre++[d]) g (w.set 5 (.lst ((pre++[d]).map Q3))) e0 e1 e2 e3 e4 e5 e7 (.val (Q3 d)) e9 e10 e11 e12 e13 e14 e15 (by rw [List.append_assoc];exact gs (by decide) h8) (gs (by decide) h4) (gss h5) (by rw [List.append_assoc];exact hl) (by simp at hf;omega)
    refine ⟨y8,?_⟩
    rw [Vh,Qg x]
    simp only [List.getElem?_cons_zero,Option.map_some]
    have bb:(gN 8 (Q3 d) [e0,e1,e2,e3,e4,e5,.val (.ref 4),e7,z8,e9,e10,e11,e12,e13,e14,e15] >>= fun env'=>j7 env') w=some ((.nx,E (.val (Q3 d))),w.set 5 (.lst ((pre++[d]).map Q3))):=b
    rw [Qg bb]
    rw [List.length_append,List.set_set,List.append_assoc] at e
    exact e
end
section
variable {w:Hs} {s:TR.St} {L M:Nat->Nat} {ds:List TR.Deed} {bg:TR.Bg} {B H:Nat}
theorem Qep (BW:WA w ds s L) (A:LA w ds s M) (X:XD s L s M) (Y:TR.StOk ds s bg (fun _=>B)) (hH0:0 < H) (hH8:H<=8) (hl:s.ws.length=H) (hB:B<=8000) (ns:List Int) {k:Nat} {c:Int} (hk:ns[k]?=some c) (hc:JE c) (hd:ds.length<=47) (hdk:k < 24->ds.length<=46) (e1 e3 z8 e13 z14 z15:Sl) :
    ∃ w' ds' s' L' M' bg' y14 y15, KC [.val (.lst (ns.map .int)), e1, .val (.int (H : Nat)), e3, .val (.ref 0), .val (.ref 2), .val (.ref 4), .val (.ref 8), z8, .val (.ref 9), .val (.ref 10), .val (.ref 11), .val (.int k), e13, z14, z15] w = some ((.nx, [.val (.lst (ns.map .int)), e1, .val (.int (H : Nat)), e3, .val (.ref 0), .val (.ref 2), .val (.ref 4), .val (.ref 8), z8, .val (.ref 9), .val (.ref 10), .val (.ref 11), .val (.int k), e13, y14, y15]), w') /\
      WA w' ds' s' L'/\LA w' ds' s' M'/\XD s' L' s' M'/\TR.StOk ds' s' bg' (fun _=>B+1)/\s'.ws.length=H/\ds'.length=ds.length+(if k < 24 then 1 else 0)/\ds'.length - s'.tk<=ds.length - s.tk+(if k < 24 then 1 else 0):=by
  let E:Sl->Sl->En:=fun z14 z15=>[.val (.lst (ns.map .int)),e1,.val (.int (H:Nat)),e3,.val (.ref 0),.val (.ref 2),.val (.ref 4),.val (.ref 8),z8,.val (.ref 9),.val (.ref 10),.val (.ref 11),.val (.int k),e13,z14,z15]
  have sc:∀ (z14 z15:Sl) (w:Hs),Ql ixG (Qb 0) (Qb 12) (E z14 z15) w=some (.int c,w):=fun z14 z15 w=>by
    refine Qk (x:=.lst (ns.map .int)) (y:=.int (k:Int)) (Qe rfl) (Qe rfl) ?_
    have a:=qt (xs:=ns.map DV.int) (j:=k) (v:=.int c) (by rw [List.getElem?_map,hk];rfl)
    show (ixD (.lst (ns.map .int)) (.int (k:Int))) w=_
    simp only [ixD,asI,pure_bind,a];rfl
  obtain ⟨w1,ds',u1,BW1,A1,Y1,dl⟩:∃ w1 ds',sIf (eB (Ql ltD (Qb 12) (eC (.int 24)))) (Qr (ZN (JZ "list" Zo (Qb 7) (Qc (QG 1 Yj (Qc (Ql ixG (Qb 0) (Qb 12)) (Qm))) (Qm)))) (ZN (Qu "Weaver" "hand_in" 2 ZY (Qb 6) (Qc (Ql ixG (Qb 7) (X6 (eC (.int 1)))) (Qm))))) (Zb) (E z14 z15) w=some ((.nx,E z14 z15),w1)/\WA w1 ds' s L/\LA w1 ds' s M/\TR.StOk ds' s bg (fun _=>B)/\ds'.length=ds.length+(if k < 24 then 1 else 0):=by
    by_cases h24:k < 24
    . obtain ⟨d,de⟩:=Qeu c hc w
      have t:eB (Ql ltD (Qb 12) (eC (.int 24))) (E z14 z15) w=some (true,w):=QT (Qk (x:=.int (k:Int)) (Qe rfl) rfl (show some (DV.bl (decide ((k:Int) < 24)),w)=_ by rw [decide_eq_true (by omega)]))
      let w0:Hs:=w.set 8 (.lst ((ds++[d]).map Q3))
      have a1:JZ "list" Zo (Qb 7) (Qc (QG 1 Yj (Qc (Ql ixG (Qb 0) (Qb 12)) (Qm))) (Qm)) (E z14 z15) w=some (.non,w0):=(xJ (Qe rfl) A.hd (ZG (ZD (sc _ _ _)) rfl de) (by rw [List.length_map];omega)).trans (by show some (DV.non,w.set 8 (.lst (ds.map Q3++[Q3 d])))=some (DV.non,w.set 8 (.lst ((ds++[d]).map Q3)));rw [List.map_append];rfl)
      have A0:=A.hand d
      have B0:WA w0 ds s L:=BW.put rfl
      have hn:=Qa6 (d:=Q3 d) B0.hv B0.hd (by rw [List.length_map];omega)
      have last:Ql ixG (Qb 7) (X6 (eC (.int 1))) (E z14 z15) w0=some (Q3 d,w0):=by
        refine Qk (x:=.ref 8) (y:=.int (-1)) (Qe rfl) rfl ?_
        show (Z3 8 >>= _) w0=_
        rw [Qg (ZI A0.hd)]
        show (qG (atI ((ds++[d]).map Q3) (-1))) w0=_
        rw [List.map_append,show ([d].map Q3)=[Q3 d] from rfl,QaA];rfl
      have a2:Qu "Weaver" "hand_in" 2 ZY (Qb 6) (Qc (Ql ixG (Qb 7) (X6 (eC (.int 1)))) (Qm)) (E z14 z15) w0=some (.int (ds.length:Nat),w0.set 5 (.lst ((ds++[d]).map Q3))):=(QS (Qe rfl) B0.hv (Qej _) (ZD last) rfl hn).trans (by rw [List.length_map,List.map_append];rfl)
      refine ⟨_,ds++[d],(Zq t).trans ((Qi (J3 a1)).trans (J3 a2)),B0.hand d,A0.put,Y.more d,by rw [if_pos h24];simp⟩
    . have t:eB (Ql ltD (Qb 12) (eC (.int 24))) (E z14 z15) w=some (false,w):=QT (Qk (x:=.int (k:Int)) (Qe rfl) rfl (show some (DV.bl (decide ((k:Int) < 24)),w)=_ by rw [decide_eq_false (by omega)]))
      exact ⟨w,ds,(QL t).trans QM,BW,A,Y,by rw [if_neg h24];omega⟩
  have hd60:ds'.length<=60:=by rw [dl];split<;>omega
  have g0:0<=c / 3 % (H:Int):=Int.emod_nonneg _ (by omega)
  have g1:c / 3 % (H:Int) < H:=Int.emod_lt_of_pos _ (by omega)
  obtain ⟨i,hi⟩:=Qbv g0
  rw [hi] at g1
  have hiH:i < H:=by omega
  have d3:=Zr (Xg c 3 (by decide) (by decide)) w1
  have mH:=Zr (Jp (c / 3) (H:Int) (by omega)) w1
  rw [hi] at mH
  let I:Sl:=.val (.int (i:Int))
  have u2:QC 14 (Ql XM (Ql qx (Ql ixG (Qb 0) (Qb 12)) (eC (.int 3))) (Qb 2)) (E z14 z15) w1=some ((.nx,E I z15),w1):=QR (Qk (Qk (sc _ _ _) rfl d3) (Qe rfl) mH)
  obtain ⟨o,s',bg',em,Y2,l2,t2,_⟩:=TR.gb Y1 (i:=i) (by omega)
  have h11:11 < w1.length:=(List.getElem?_eq_some_iff.mp A1.ht).1
  obtain ⟨w2,L2,e2,B2,F2⟩:=Qbs BW1 Y1 (by omega) hd60 h11 (by show B<=9000;omega) em
  have A2:=A1.keep BW1 F2 X
  have X2:=X.keep F2 A1.small
  obtain ⟨w3,M3,e3',A3,F3⟩:=Qd4 A2 Y1 (by omega) hd60 (by show B<=9000;omega) em
  have B3:=B2.keep A2 F3 X2
  have X3:=(X2.symm.keep F3 B2.small).symm
  have u3:sIf (Jy (eB (QG 2 (ZM 6) (Qc (Qu "Weaver" "move" 2 ZF (Qb 6) (Qc (Qb 14) (Qm))) (Qc (QG 6 Yd (Qc (Qb 4) (Qc (Qb 9) (Qc (Qb 10) (Qc (Qb 7) (Qc (Qb 11) (Qc (Qb 14) (Qm)))))))) (Qm)))))) (QE (eC (.bl false))) (Zb) (E I z15) w1=some ((.nx,E I z15),w3):=(QL (J5 (b:=true) (QT (ZG (Z4 (QS (Qe rfl) BW1.hv (Qei _) (ZD (Qe rfl)) rfl e2) (ZG (Qaz (Qe rfl) (Qe rfl) (Qe rfl) (Qe rfl) (Qe rfl) (Qe rfl)) rfl e3')) rfl (Qee (zr i o) 3 (by decide) (Qcd i o) w3))))).trans QM
  let St:Sl:=.val (.bl (TR.still ds' s'))
  have ls':s'.ws.length < 1000:=by omega
  have u4:QC 15 (Jm (Ql eqG (Ql ixG (Qb 11) (eC (.int 0))) (Zw Z5 (Qc (Qb 7) (Qm)))) (Ql eqN (uq) (XA (Qm)))) (E I z15) w3=some ((.nx,E I St),w3):=QR (Qch A3 ls' (f:=Qb 9) (g:=Qb 11) (k:=Qb 7) (env:=E I z15) (Qe rfl) (Qe rfl) (Qe rfl))
  have id3:Qu "Weaver" "idle" 1 Zf (Qb 6) Qm (E I St) w3=some (.bl (TR.still ds' s'),w3):=QS (Qe rfl) B3.hv (gM _) Xe rfl (uS B3 ls')
  have u5:sIf (eOr (Jy (eB (jt "bool" (Qu "Weaver" "idle" 1 Zf (Qb 6) Qm)))) (eB (Ql neG (Qu "Weaver" "idle" 1 Zf (Qb 6) Qm) (Qb 15)))) (QE (eC (.bl false))) (Zb) (E I St) w3=some ((.nx,E I St),w3):=(QL ((jV (J5 (b:=true) (QT (QeB id3)))).trans (QT (Qk id3 (Qe rfl) (QeO _ w3))))).trans QM
  have u6:sIf (eOr (eB (Ql neG (Qu "Shelf" "readings" 1 Zy (Qb 5) Qm) (Qu "Shelf" "readings" 1 Zy (Qb 4) Qm))) (eB (Ql neG (Qu "Shelf" "writings" 1 Zz (Qb 5) Qm) (Qu "Shelf" "writings" 1 Zz (Qb 4) Qm)))) (QE (eC (.bl false))) (Zb) (E I St) w3=some ((.nx,E I St),w3):=(QL ((jV (QT (Qk (QS (Qe rfl) B3.h1 (GX ..) Xe rfl (yu B3.h1)) (QS (Qe rfl) A3.h1 (GX ..) Xe rfl (yu A3.h1)) (QeP _ w3)))).trans (QT (Qk (QS (Qe rfl) B3.h1 (GY ..) Xe rfl (yI B3.h1)) (QS (Qe rfl) A3.h1 (GY ..) Xe rfl (yI A3.h1)) (QeP _ w3))))).trans QM
  refine ⟨w3,ds',s',L2,M3,bg',I,St,(Qi u1).trans ((Qi u2).trans ((Qi u3).trans ((Qi u4).trans ((Qi u5).trans u6)))),B3,A3,X3,Y2.mono fun j _=>?_,by rw [l2];exact hl,dl,?_⟩
  . show (if j=i then B+1 else B)<=B+1
    split<;>omega
  . rw [dl];split<;>omega
end
theorem Qbh (ns:List Int) (h:ns.length<=63) (hb:∀ x∈ns,JE x):∃ hp,K3 [.lst (ns.map .int)] []=some (.bl true,hp):=by
 let X:DV:=.lst (ns.map .int)
 obtain ⟨c0,e0⟩:=QcD ns 0 h
 have e0':=Zr e0
 simp only [Int.natCast_zero] at e0'
 have g0:0<=c0 % 8:=Int.emod_nonneg _ (by decide)
 have g1:c0 % 8 < 8:=Int.emod_lt_of_pos _ (by decide)
 obtain ⟨H,hn,n1,n8⟩:∃ n:Nat,1+c0 % 8=(n:Int)/\1<=n/\n<=8:=⟨(1+c0 % 8).toNat,by omega,by omega,by omega⟩
 have q0:0<=c0 / 8 % 4:=Int.emod_nonneg _ (by decide)
 have q1:c0 / 8 % 4 < 4:=Int.emod_lt_of_pos _ (by decide)
 obtain ⟨r,hr,r2,r5⟩:∃ n:Nat,2+c0 / 8 % 4=(n:Int)/\2<=n/\n<=5:=⟨(2+c0 / 8 % 4).toNat,by omega,by omega,by omega⟩
 have m8:=Zr (Jp c0 8 (by decide)) ([]:Hs)
 have d8:=Zr (Xg c0 8 (by decide) (by decide)) ([]:Hs)
 have m4:=Zr (Jp (c0 / 8) 4 (by decide)) ([]:Hs)
 let S:OV:=.ins "Shelf" (shF r 1 0 0 0)
 let S2:OV:=.ins "Shelf" (shF r 3 0 0 0)
 let P:OV:=.lst [emp]
 let w8:Hs:=[S,P,S2,P,.ins "Weaver" (wvF 0),.lst [],.lst (List.replicate H .non),.lst []]
 let E:Sl->Sl->Sl->Sl->Sl->Sl->Sl->Sl->Sl->Sl->Sl->En:=fun z1 z2 z3 z4 z5 z6 z7 z8 z9 z10 z11=>[.val X,z1,z2,z3,z4,z5,z6,z7,z8,z9,z10,z11,.un,.un,.un,.un]
 have s1:QC 1 (QG 2 JD (Qc (Qb 0) (Qc (eC (.int 0)) (Qm)))) (E .un .un .un .un .un .un .un .un .un .un .un) []=some ((.nx,E (.val (.int c0)) .un .un .un .un .un .un .un .un .un .un),[]):=QR (ZG (Z4 (Qe rfl) rfl) rfl (e0' _))
 have s2:QC 2 (Ql Ja (eC (.int 1)) (Ql XM (Qb 1) (eC (.int 8)))) (E (.val (.int c0)) .un .un .un .un .un .un .un .un .un .un) []=some ((.nx,E (.val (.int c0)) (.val (.int H)) .un .un .un .un .un .un .un .un .un),[]):=QR (Qk rfl (Qk (Qe rfl) rfl m8) (show some (DV.int (1+c0 % 8),[])=some (DV.int H,[]) by rw [hn]))
 have s3:QC 3 (Ql Ja (eC (.int 2)) (Ql XM (Ql qx (Qb 1) (eC (.int 8))) (eC (.int 4)))) (E (.val (.int c0)) (.val (.int H)) .un .un .un .un .un .un .un .un .un) []=some ((.nx,E (.val (.int c0)) (.val (.int H)) (.val (.int r)) .un .un .un .un .un .un .un .un),[]):=QR (Qk rfl (Qk (Qk (Qe rfl) rfl d8) rfl m4) (show some (DV.int (2+c0 / 8 % 4),[])=some (DV.int r,[]) by rw [hr]))
 let E3:Sl->Sl->Sl->Sl->Sl->Sl->Sl->Sl->En:=fun z4 z5 z6 z7 z8 z9 z10 z11=>E (.val (.int c0)) (.val (.int H)) (.val (.int r)) z4 z5 z6 z7 z8 z9 z10 z11
 have mks:∀ (hp:Hs) (env:En),env[3]?=some (.val (.int r))->Jn "Shelf" 2 Zl (Qc (Qb 3) (Qm)) env hp=some (.ref hp.length,hp++[.ins "Shelf" (shF r (hp.length+1) 0 0 0),.lst [emp]]):=fun hp env he=>by
  unfold Jn
  have al:XS (.ins "Shelf" []) hp=some (.ref hp.length,hp++[.ins "Shelf" []]):=rfl
  have gd:Qw (decide ([DV.int r].length+1=2)) hp=some ((),hp):=rfl
  rw [Qg (ZD (Qe he)),Qg gd,Qg al,Qg (QcT r hp)];rfl
 have s4:QC 4 (Jn "Shelf" 2 Zl (Qc (Qb 3) (Qm))) (E3 .un .un .un .un .un .un .un .un) []=some ((.nx,E3 (.val (.ref 0)) .un .un .un .un .un .un .un),[S,P]):=QR (mks [] _ rfl)
 have s5:QC 5 (Jn "Shelf" 2 Zl (Qc (Qb 3) (Qm))) (E3 (.val (.ref 0)) .un .un .un .un .un .un .un) [S,P]=some ((.nx,E3 (.val (.ref 0)) (.val (.ref 2)) .un .un .un .un .un .un),[S,P,S2,P]):=QR (mks [S,P] _ rfl)
 have s6:QC 6 (Jn "Weaver" 3 JH (Qc (Qb 5) (Qc (Qb 2) (Qm)))) (E3 (.val (.ref 0)) (.val (.ref 2)) .un .un .un .un .un .un) [S,P,S2,P]=some ((.nx,E3 (.val (.ref 0)) (.val (.ref 2)) (.val (.ref 4)) .un .un .un .un .un),w8):=by
  refine QR ?_
  unfold Jn
  have al:XS (.ins "Weaver" []) [S,P,S2,P]=some (.ref 4,[S,P,S2,P,.ins "Weaver" []]):=rfl
  have gd:Qw (decide ([DV.ref 2,DV.int H].length+1=3)) [S,P,S2,P]=some ((),[S,P,S2,P]):=rfl
  rw [Qg (Z4 (Qe rfl) (Qe rfl)),Qg gd,Qg al,Qg (QdP S P S2 P H n8)];rfl
 obtain ⟨ds,dl,ea⟩:=Qcw (c0 / 32) w8
 have d32:=Zr (Xg c0 32 (by decide) (by decide)) w8
 let E6:Sl->Sl->Sl->Sl->Sl->En:=fun z7 z8 z9 z10 z11=>E3 (.val (.ref 0)) (.val (.ref 2)) (.val (.ref 4)) z7 z8 z9 z10 z11
 let w9:Hs:=w8++[OV.lst (ds.map Q3)]
 have s7:QC 7 (QG 1 YB (Qc (Ql qx (Qb 1) (eC (.int 32))) (Qm))) (E6 .un .un .un .un .un) w8=some ((.nx,E6 (.val (.ref 8)) .un .un .un .un),w9):=QR (ZG (ZD (Qk (Qe rfl) rfl d32)) rfl ea)
 have k8:w9[8]?=some (.lst (([]++ds).map Q3)):=rfl
 obtain ⟨y8,el⟩:=UE ds [] 100000 w9 (.val X) (.val (.int c0)) (.val (.int H)) (.val (.int r)) (.val (.ref 0)) (.val (.ref 2)) (.val (.ref 8)) .un .un .un .un .un .un .un .un k8 rfl rfl (by simp;omega) (by omega)
 let wA:Hs:=[S,P,S2,P,.ins "Weaver" (wvF 0),.lst (ds.map Q3),.lst (List.replicate H .non),.lst [],.lst (ds.map Q3)]
 have s8:uv (E6 (.val (.ref 8)) .un .un .un .un) w9=some ((.nx,E6 (.val (.ref 8)) y8 .un .un .un),wA):=by
  show VB (xLs (Qb 7)) (gN 8) (j7) _ w9=_
  unfold VB
  rw [Qg (yY (n:=8) (Qe rfl) k8)];exact el
 have src:∀ (z9 z10 z11:Sl) (q:Hs),xOf (yQ (Qc (Qb 2) (Qm))) (E6 (.val (.ref 8)) y8 z9 z10 z11) q=some (nxD (Zx 0 H),q):=fun z9 z10 z11 q=>K1 (yU (m:=H) (ZD (Qe rfl)) (by omega))
 let wB:Hs:=wA++[OV.lst (List.replicate H .non)]
 let wC:Hs:=wB++[OV.lst (List.replicate H (.int 0))]
 let wD:Hs:=wC++[OV.lst [.int 0]]
 have s9:QC 9 (Kc) (E6 (.val (.ref 8)) y8 .un .un .un) wA=some ((.nx,E6 (.val (.ref 8)) y8 (.val (.ref 9)) .un .un),wB):=by
  refine QR ?_
  have cx:=xO (hp:=wA) (t:=fun d=>xD (cE [] (E6 (.val (.ref 8)) y8 .un .un .un) d)) (f:=fun d=>eC .non (cE [] (E6 (.val (.ref 8)) y8 .un .un .un) d)) (g:=fun _=>.non) (Zx 0 H) (fun _ _=>rfl) (fun _ _=>rfl) (by rw [Jc];omega)
  rw [List.map_const',Jc] at cx
  unfold Kc Zp
  rw [Qg (src _ _ _ _),Qg (show ZX _ _ _ lim 0 wA=_ from cx)];rfl
 have s10:QC 10 (Kb) (E6 (.val (.ref 8)) y8 (.val (.ref 9)) .un .un) wB=some ((.nx,E6 (.val (.ref 8)) y8 (.val (.ref 9)) (.val (.ref 10)) .un),wC):=by
  refine QR ?_
  have cx:=xO (hp:=wB) (t:=fun d=>xD (cE [] (E6 (.val (.ref 8)) y8 (.val (.ref 9)) .un .un) d)) (f:=fun d=>eC (.int 0) (cE [] (E6 (.val (.ref 8)) y8 (.val (.ref 9)) .un .un) d)) (g:=fun _=>.int 0) (Zx 0 H) (fun _ _=>rfl) (fun _ _=>rfl) (by rw [Jc];omega)
  rw [List.map_const',Jc] at cx
  unfold Kb Zp
  rw [Qg (src _ _ _ _),Qg (show ZX _ _ _ lim 0 wB=_ from cx)];rfl
 let ED:En:=E6 (.val (.ref 8)) y8 (.val (.ref 9)) (.val (.ref 10)) (.val (.ref 11))
 have s11:QC 11 (J0 (Qc (eC (.int 0)) (Qm))) (E6 (.val (.ref 8)) y8 (.val (.ref 9)) (.val (.ref 10)) .un) wC=some ((.nx,ED),wD):=QR rfl
 let d0:TR.Wk:=⟨.find 0,0,0,none,[],none,none,[],true⟩
 let S0:TR.Sh:=⟨r,[⟨0,[],[],none,none⟩],0,0,0⟩
 let s0:TR.St:=⟨S0,List.replicate H d0,List.replicate H 0,0⟩
 have dead:∀ (i:Nat) (v:TR.Wk),(List.replicate H d0)[i]?=some v->v.ended=true:=fun i v hv=>by rw [List.eq_of_mem_replicate (List.mem_of_getElem? hv)]
 have no:∀ (i:Nat) (v:TR.Wk),s0.ws[i]?=some v->v.ended=false->False:=fun i v hv he=>by rw [dead i v hv] at he;cases he
 have Y0:TR.StOk ds s0 (fun _=>none) (fun _=>0):=by
  refine ⟨Qcl r r2,⟨fun i v hv he=>(no i v hv he).elim,fun i v c hv he=>(no i v hv he).elim,fun i j v u c _ hv _ he=>(no i v hv he).elim⟩,fun n p hp hlv=>?_,fun n hn' ht=>?_,r5,by show (List.replicate H 0).length=(List.replicate H d0).length;simp,Nat.zero_le _,?_,fun i v hv he=>(no i v hv he).elim,fun i v hv he=>(no i v hv he).elim⟩
  ·have:p=⟨0,[],[],none,none⟩:=by
    match n,hp with
    | 0,hp=>cases hp;rfl
    | n+1,hp=>simp [s0,S0] at hp
   rw [this] at hlv;exact absurd hlv (by decide)
  ·have hn2:n < 1:=hn'
   exact absurd (show n=0 by omega) ht
  ·have z0:TR.zc (List.replicate H d0)=0:=by
    unfold TR.zc
    rw [List.filter_eq_nil_iff.mpr fun v hv=>?_]
    ·rfl
    ·rw [List.eq_of_mem_replicate hv];decide
   show TR.XJ S0 0+TR.zc (List.replicate H d0)<=1+0
   rw [z0]
   exact Nat.le_refl 1
 have lw:s0.ws.length=H:=by show (List.replicate H d0).length=H;simp
 have gr:∀ {α:Type} (x:α) (i:Nat),i < H->(List.replicate H x)[i]?=some x:=fun x i hi=>by rw [List.getElem?_replicate,if_pos hi]
 have lcz:TR.lc s0.ws=0:=by
  show TR.lc (List.replicate H d0)=0
  unfold TR.lc
  rw [List.filter_eq_nil_iff.mpr fun v hv=>?_]
  ·rfl
  ·rw [List.eq_of_mem_replicate hv];decide
 have W0:WA wD ds s0 (fun _=>0):=⟨rfl,rfl,rfl,rfl,⟨List.replicate H .non,rfl,by rw [lw];simp,fun i v hi=>by
   have li:i < H:=by rw [<- lw];exact (List.getElem?_eq_some_iff.mp hi).1
   rw [uR (dead i v hi),gr _ i li]⟩,⟨[],rfl,by rw [lcz];exact Nat.le_refl _⟩,fun i v hv he=>(no i v hv he).elim,fun i j v u _ hv he=>(no i v hv he).elim⟩
 have A0:LA wD ds s0 (fun _=>0):=⟨rfl,rfl,rfl,⟨List.replicate H .non,rfl,by rw [lw];simp,fun i v hi=>by
   have li:i < H:=by rw [<- lw];exact (List.getElem?_eq_some_iff.mp hi).1
   rw [gL (dead i v hi),gr _ i li]⟩,⟨List.replicate H (.int 0),rfl,by rw [lw];simp,fun i hi=>by
   rw [lw] at hi
   rw [gr _ i hi]
   show _=some (DV.int ((List.replicate H 0).getD i 0:Nat))
   rw [List.getD_eq_getElem?_getD,gr _ i hi];rfl⟩,rfl,fun i v hv he=>(no i v hv he).elim,fun i j v u _ hv he=>(no i v hv he).elim⟩
 have X0:XD s0 (fun _=>0) s0 (fun _=>0):=fun i j v u hv he=>(no i v hv he).elim
 have fin:∀ {w:Hs} {es:List TR.Deed} {s:TR.St} {L M:Nat->Nat} {bg:TR.Bg} {B:Nat} (env:En),env[6]?=some (.val (.ref 4))->env[4]?=some (.val (.ref 0))->env[9]?=some (.val (.ref 9))->env[10]?=some (.val (.ref 10))->env[7]?=some (.val (.ref 8))->env[11]?=some (.val (.ref 11))->WA w es s L->LA w es s M->XD s L s M->TR.StOk es s bg (fun _=>B)->s.ws.length=H->es.length<=47->es.length - s.tk<=24->B<=100->∃ w' s' L' M' bg',sIf (Jy (eB (QG 6 JN (Qc (Qb 6) (Qc (Qb 4) (Qc (Qb 9) (Qc (Qb 10) (Qc (Qb 7) (Qc (Qb 11) (Qm)))))))))) (QE (eC (.bl false))) (Zb) env w=some ((.nx,env),w')/\WA w' es s' L'/\LA w' es s' M'/\XD s' L' s' M'/\TR.StOk es s' bg' (fun _=>0)/\s'.ws.length=H/\TR.still es s'=true:=by
  intro w es s L M bg B env v6 v4 v9 v10 v7 v11 BW A X Y hl h47 h24 hB
  have pg:=Y.pages
  have tk:=Y.tk
  obtain ⟨os,s',bg',R,q2,q3,q4,Y'⟩:=TR.QdD (H:=H) (K:=9000) (C:=218) (by omega) (by omega) 5474 218 B s bg hl Y (fun i v hi hv=>by
   have:=TR.Lim.first Y.T Y.K Y.T.levels s.ws i v hi hv
   dsimp only at this ⊢
   rw [hl] at this
   omega) (by omega) (by omega)
  have ol:os.length < 90000:=by
   have:H * 5474<=8 * 5474:=Nat.mul_le_mul_right _ n8
   omega
  obtain ⟨w',L',M',e,B',A',X'⟩:=vE BW A X (by omega) (by omega) n8 R q2 hl q4 ol
  exact ⟨w',s',L',M',bg',(QL (J5 (b:=true) (QT (ZG (Qaz (Qe v6) (Qe v4) (Qe v9) (Qe v10) (Qe v7) (Qe v11)) rfl e)))).trans QM,B',A',X',Y',q4,q2⟩
 obtain ⟨wE,s1',L1,M1,bg1,f1,B1,A1,X1,Y1,l1,st1⟩:=fin ED rfl rfl rfl rfl rfl rfl W0 A0 X0 Y0 lw (by omega) (by show ds.length - 0<=24;omega) (Nat.zero_le _)
 let EX:Sl->Sl->Sl->En:=fun z12 z14 z15=>[.val X,.val (.int c0),.val (.int H),.val (.int r),.val (.ref 0),.val (.ref 2),.val (.ref 4),.val (.ref 8),y8,.val (.ref 9),.val (.ref 10),.val (.ref 11),z12,.un,z14,z15]
 have tk1:=(TR.U5 st1).1
 have MM:WP (Vg (fun d env=>do let env' <- gN 12 d env;KC env') (Zx 0 ns.length) (EX .un .un .un)) wE fun q w=>∃ es s L M bg z12 z14 z15,q=(.nx,EX z12 z14 z15)/\WA w es s L/\LA w es s M/\XD s L s M/\TR.StOk es s bg (fun _=>63)/\s.ws.length=H/\es.length<=47/\es.length - s.tk<=24:=by
  refine uw (fun j env w=>∃ es s L M bg z12 z14 z15,env=EX z12 z14 z15/\WA w es s L/\LA w es s M/\XD s L s M/\TR.StOk es s bg (fun _=>j)/\s.ws.length=H/\es.length<=47/\(j<=24->es.length<=23+j)/\es.length - s.tk<=24/\(j<=24->es.length - s.tk<=j)) _ ⟨ds,s1',L1,M1,bg1,_,_,_,rfl,B1,A1,X1,Y1,l1,by omega,fun _=>by omega,by omega,fun _=>by omega⟩ (fun j d0 hd0 env w zz=>?_) (fun env w zz=>?_)
  ·obtain ⟨es,s,L,M,bg,z12,z14,z15,rfl,BW,A,X',Y,hl,h47,h23,hw,hw2⟩:=zz
   obtain ⟨hj,rfl⟩:=KL hd0
   have hk:ns[j]?=some ns[j]:=List.getElem?_eq_getElem hj
   have hc:=hb ns[j] (List.getElem_mem hj)
   obtain ⟨w',es',s',L',M',bg',y14,y15,e,B',A',X2,Y',l',dl',dw'⟩:=Qep BW A X' Y (by omega) n8 hl (by omega) ns hk hc h47 (fun hj24=>by have:=h23 (by omega);omega) (.val (.int c0)) (.val (.int r)) y8 .un z14 z15
   refine ⟨_,_,e,es',s',L',M',bg',_,_,_,rfl,B',A',X2,Y',l',?_,?_,?_,?_⟩
   ·rw [dl']
    by_cases hj24:j < 24
    ·have:=h23 (by omega);rw [if_pos hj24];omega
    ·rw [if_neg hj24];omega
   ·intro hj24
    have:=h23 (by omega);rw [dl',if_pos (by omega)];omega
   ·by_cases hj24:j < 24
    ·have:=hw2 (by omega);rw [if_pos hj24] at dw';omega
    ·rw [if_neg hj24] at dw';omega
   ·intro hj24
    have:=hw2 (by omega);rw [if_pos (by omega)] at dw';omega
  ·obtain ⟨es,s,L,M,bg,z12,z14,z15,rfl,BW,A,X',Y,hl,h47,h23,hw,hw2⟩:=zz
   refine ⟨es,s,L,M,bg,z12,z14,z15,rfl,BW,A,X',Y.mono fun i _=>?_,hl,h47,hw⟩
   rw [Jc];omega
 obtain ⟨q,wF,eM,es,s2',L2,M2,bg2,z12,z14,z15,rfl,B2,A2,X2,Y2,l2,h47,hw24⟩:=MM
 have s13:uu (EX .un .un .un) wE=some ((.nx,EX z12 z14 z15),wF):=US (yU (m:=ns.length) (ZD ((Ym (ds:=[X]) (hp1:=wE) (ZD (Qe rfl)) (show Z5 [X] wE=some (.int (ns.length:Nat),wE) by show YS [X] wE=_;simp [YS,X];rfl)))) (by omega)) eM
 obtain ⟨wG,s3',L3,M3,bg3,f2,B3,A3,X3,Y3,l3,st3⟩:=fin (EX z12 z14 z15) rfl rfl rfl rfl rfl rfl B2 A2 X2 Y2 l2 h47 hw24 (by omega)
 have pg3:=Y3.pages
 have tk3:=Y3.tk
 let EP:En:=[.val X,.val (.int c0),.val (.int H),.val (.int r),.val (.ref 0),.val (.ref 2),.val (.ref 4),.val (.ref 8),y8,.val (.ref 9),.val (.ref 10),.val (.ref 11),z12,.val (.lst (s3'.S.pg.map pgD)),z14,z15]
 let wH:Hs:=wG.set 2 (.ins "Shelf" (shF s3'.S.room 3 s3'.S.top (s3'.S.rd+s3'.S.pg.length) s3'.S.wr))
 let wI:Hs:=wH.set 0 (.ins "Shelf" (shF s3'.S.room 1 s3'.S.top (s3'.S.rd+s3'.S.pg.length) s3'.S.wr))
 have s15:QC 13 (uo) (EX z12 z14 z15) wG=some ((.nx,EP),wH):=QR (gt (p:=5) B3.h1 B3.h2 (by decide) (by omega) (EX z12 z14 z15) rfl)
 have c1:Ka EP wH=some (.lst (s3'.S.pg.map pgD),wI):=gt (p:=4) (gs (by decide) A3.h1) (gs (by decide) A3.h2) (by decide) (by omega) EP rfl
 have plp:Pl 3 (.lst (s3'.S.pg.map pgD)):=fun d hd=>by
  obtain ⟨p,_,rfl⟩:=List.mem_map.mp hd
  intro x hx
  simp only [List.mem_cons,List.not_mem_nil,or_false] at hx
  rcases hx with rfl | rfl | rfl | rfl | rfl
  ·exact KI _ _
  ·exact gk 0 _
  ·exact gk 0 _
  ·exact Qfk _ _
  ·cases p.sd with
   | none=>exact QbP _
   | some n=>exact KI _ _
 have g2:wI[2]?=some (.ins "Shelf" (shF s3'.S.room 3 s3'.S.top (s3'.S.rd+s3'.S.pg.length) s3'.S.wr)):=gs (by decide) (gss B3.h1)
 have g0':wI[0]?=some (.ins "Shelf" (shF s3'.S.room 1 s3'.S.top (s3'.S.rd+s3'.S.pg.length) s3'.S.wr)):=gss (gs (by decide) A3.h1)
 have s16:QE (Jm (Ql eqG (Qb 13) (Ka)) (Ql eqG (Qu "Shelf" "root" 1 ZE (Qb 5) Qm) (Qu "Shelf" "root" 1 ZE (Qb 4) Qm))) EP wH=some ((.rt (.bl true),EP),wI):=QB ((za (b:=true) (Qk (Qe rfl) c1 (Gn plp (by decide) wI))).trans ((if_pos rfl).trans (Qk (QS (Qe rfl) g2 (jC ..) Xe rfl (KM g2)) (QS (Qe rfl) g0' (jC ..) Xe rfl (KM g0')) ((eqI _ _ wI).trans (by simp)))))
 exact ⟨wI,Qy ((Qi s1).trans ((Qi s2).trans ((Qi s3).trans ((Qi s4).trans ((Qi s5).trans ((Qi s6).trans ((Qi s7).trans ((Qi s8).trans ((Qi s9).trans ((Qi s10).trans ((Qi s11).trans ((Qi f1).trans ((Qi s13).trans ((Qi f2).trans ((Qi s15).trans s16)))))))))))))))⟩
theorem Up {K:PySem.W.Frag} {a0 a1 a2:Addr} {d0 d1 d2:Option Addr} {n0 n1 n2:Nat} {s0 s1 s2:Array (Option Value)} {t1:Tok} (l0:K.lookup a0=some ⟨.type "tuple", d0,.seq #[.int 0 t1,.ref a1,.ref a2,.none,.none] n0,s0⟩) (l2:K.lookup a2=some ⟨.type "tuple", d2,.seq #[] n2,s2⟩) (l1:K.lookup a1=some ⟨.type "tuple", d1,.seq #[] n1,s1⟩):KRep K (.tup [.int 0,.tup [],.tup [],.non,.non]) (.ref a0):=(vI (xs:=[.int 0,.ref a1,.ref a2,.non,.non]) l0 (Nat.le_of_ble_eq_true rfl) (.cons ⟨_,rfl⟩ (.cons rfl (.cons rfl (.cons rfl (.cons rfl .nil))))) (zo QeJ (zo (vI (xs:=[]) l1 (Nat.le_of_ble_eq_true rfl) .nil KB) (zo (vI (xs:=[]) l2 (Nat.le_of_ble_eq_true rfl) .nil KB) (zo Qbf (zo Qbf KB))))))
theorem QeK {P:Program} {w:World} {K:PySem.W.Frag} {h:Heap} {mg:Str->Option Value} {fa f:Addr} {oc kV dc pm cd ct:Value} {od an:Option Addr} {sl:Array (Option Value)} (X:K.In h) (G:h.Ns mainGlobals mg) (hfa:mg "law" = some (.ref fa)) (Z:Al K mg) (n:PySem.W.nsIn K mainGlobals "law" = some (some (.ref f))) (l:K.lookup f=some ⟨oc,od,.func (PySem.W.fnOf "law" "law" (JI yA) (ZH yA) (Qo yA) .none kV dc pm an cd ct),sl⟩) (c:PySem.W.codeIn K cd "law" = true) (k:PySem.W.keepIn K (.ref f)=true):∃ fd:FuncData,(∀ (s:Shared) (v:Value),BindsTo s fd ⟨[v],[]⟩ [("script", v)])/\∀ base:Heap,K.In base->base.Ns mainGlobals mg->qX P w K mg base CX0 11 fa fd ["script"] (spD K 1 K3):=by
 cases hfa.symm.trans (PySem.W.mg_of X G n)
 exact ⟨PySem.W.fnOf "law" "law" (JI yA) (ZH yA) (Qo yA) .none kV dc pm an cd ct,fun s v=>.of_eq rfl,fun base _ _=>law_fn Z (Kt l c k)⟩
theorem walk {l:PySem.W.OpenLaw} {q:Program} {loose:List Str} {XP:(Str->Option Value)->Heap->Prop} {YP:World->Heap->Prop} {d:DefRec} {K:Params->PySem.W.Frag} (hn:l.most=some 63) (hdf:d.params.defaults=[])
  (hY:∀ (w:World) (h:Heap),YP w h->(K w.params).In h)
  (F:∀ (w:World) (mg:Str->Option Value) (fa:Addr) (h:Heap),(K w.params).In h->h.Ns mainGlobals mg->mg d.name=some (.ref fa) ->
   ∃ fd:FuncData,(∀ (s:Shared) (u:Value),BindsTo s fd ⟨[u],[]⟩ [("script", u)])/\∀ base:Heap,(K w.params).In base->base.Ns mainGlobals mg->qX l.prog w (K w.params) mg base CX0 11 fa fd ["script"] (spD (K w.params) 1 K3)) :
  PySem.W.WalkO q loose XP YP l.row.toRowW d [] (fun f vs=>PySem.call f vs) :=
 L2.Qcn (n:=63) (k:=11) (x := "script") (CX:=fun _=>CX0) (sp:=fun w=>spD (K w.params) 1 K3) hn (by decide) hdf ⟨rfl,by decide,by decide⟩ hY F (fun w _ a ns hl hb _ hS=>QeL (Qbh ns hl hb) hS) fun _ _ _ _ _ z=>z
end K32
open PySem PySem.W PyProof.Rows
open D in
set_option maxRecDepth 100000 in
set_option maxHeartbeats 0 in
theorem PySem.Challenge.cw_sidelink_k32_moves_are_steps_holds : PySem.Challenge.rw_sidelink_k32_moves_are_steps.Holds := by
 w_on;o_law;k_head;(case hw=>w_witness2)
 k_fill
 refine K32.walk (l:=PySem.Challenge.rw_sidelink_k32_moves_are_steps) rfl rfl (fun w h Y=>PySem.W.kIn_of Y) ?F
 case F =>
  intro w mg fa h KX G hmg
  have c0:UC _ "Shelf" := uc KX (by k_is) (by k_is) (by k_is) (by k_is) (by k_is)
  have c1:UC _ "Walk" := uc KX (by k_is) (by k_is) (by k_is) (by k_is) (by k_is)
  have c2:UC _ "Weaver" := uc KX (by k_is) (by k_is) (by k_is) (by k_is) (by k_is)
  exact K32.QeK KX G hmg (by constructor;all_goals first | exact PySem.W.mg_none_of KX G (by k_is) | exact uf KX G (by k_is) (by k_is) (by k_is) (by k_is) | exact ug KX G (by k_is) | exact ut KX G (by k_is) (K32.Up (by k_is) (by k_is) (by k_is)) | exact uk KX c0 (by k_is) (by k_is) | exact um KX c0 (by k_is) (by k_is) (by k_is) (by k_is) (by k_is) (by k_is) | exact uk KX c1 (by k_is) (by k_is) | exact um KX c1 (by k_is) (by k_is) (by k_is) (by k_is) (by k_is) (by k_is) | exact uk KX c2 (by k_is) (by k_is) | exact um KX c2 (by k_is) (by k_is) (by k_is) (by k_is) (by k_is) (by k_is) | exact ui KX G (by k_is) (by k_is) (by k_is) (by k_is) (by k_is) (by k_is) (by k_is) (by k_is)) (by k_is) (by k_is) (by k_is) (by k_is)

import PyProof.Rows.All
import Wide.All
import OpenK.AllK
import Wide.FinOn
import Lean
import PyProof.EqAt
import PyProof.EqKinds
import PyProof.TupleCall
import PySem.Challenge.RW_sidelink_k33_answers
-- CHANGE: your row's module here,as the last of these rows
set_option Elab.async false
set_option linter.all false
set_option maxRecDepth 100000
namespace L2
open PySem PySem.Spec PyProof.Rows
abbrev Key:=Sum Int Str
def VC:Key->Value->Bool
 | .inl k,v=>Value.isInt k v
 | .inr x,v=>Value.isStrOf x v
def Qh4 (w:World):Key->Int
 | .inl k=>hashInt k
 | .inr x=>hashStr w x
theorem ZT:∀ {k:Key} {v:Value},VC k v=true->(∃ i t,k=Sum.inl i/\v=Value.int i t)∨(∃ x t,k=Sum.inr x/\v=Value.str x t)
  | .inl i,v,h=>by
    obtain ⟨t,e⟩:=Value.isInt_shape (k:=i) (v:=v) h
    exact .inl ⟨i,t,rfl,e⟩
  | .inr x,v,h=>by
    obtain ⟨t,e⟩:=Value.isStrOf_shape (x:=x) (v:=v) h
    exact .inr ⟨x,t,rfl,e⟩
theorem QaB (i:Int) (t:Tok):VC (.inl i) (.int i t)=true:=by simp [VC,Value.isInt]
theorem QaC (x:Str) (t:Tok):VC (.inr x) (.str x t)=true:=by simp [VC,Value.isStrOf]
theorem Qfx (a b:Int):decide ((Sum.inl a:Key)=Sum.inl b)=(a==b):=by
 by_cases e:a=b
 ·subst e;simp
 ·have h:¬ (Sum.inl a:Key)=Sum.inl b:=fun q=>e (Sum.inl.inj q)
  rw [decide_eq_false h]
  exact (beq_eq_false_iff_ne.mpr e).symm
theorem QfA (a b:Str):decide ((Sum.inr a:Key)=Sum.inr b)=decide (a=b):=by
 by_cases e:a=b
 ·subst e;simp
 ·have h:¬ (Sum.inr a:Key)=Sum.inr b:=fun q=>e (Sum.inr.inj q)
  rw [decide_eq_false h,decide_eq_false e]
theorem Qfy (a:Int) (b:Str):decide ((Sum.inl a:Key)=Sum.inr b)=false:=decide_eq_false (fun q=>nomatch q)
theorem Qfz (a:Str) (b:Int):decide ((Sum.inr a:Key)=Sum.inl b)=false:=decide_eq_false (fun q=>nomatch q)
def Z0 (prog:Program) (w:World):PySem.KeyKind prog w Key where
 is:=VC
 hash:=Qh4 w
 inj:=fun v a b ha hb=>by
  rcases ZT ha with ⟨i,t,rfl,rfl⟩ | ⟨x,t,rfl,rfl⟩
  ·rcases ZT hb with ⟨j,u,rfl,e⟩ | ⟨y,u,rfl,e⟩
   ·injection e with e1 _;rw [e1]
   ·exact nomatch e
  ·rcases ZT hb with ⟨j,u,rfl,e⟩ | ⟨y,u,rfl,e⟩
   ·exact nomatch e
   ·injection e with e1 _;rw [e1]
 byValue:=fun k v h=>by
  rcases ZT h with ⟨i,t,rfl,rfl⟩ | ⟨x,t,rfl,rfl⟩<;>rfl
 pyHash:=fun hv h=>by
  rcases ZT hv with ⟨i,t,rfl,rfl⟩ | ⟨x,t,rfl,rfl⟩
  ·exact wpAny_pyHash_int h
  ·exact wpAny_pyHash_str h
 eqBool:=fun hu hv h=>by
  rcases ZT hu with ⟨i,t,rfl,rfl⟩ | ⟨x,t,rfl,rfl⟩
  ·rcases ZT hv with ⟨j,u,rfl,rfl⟩ | ⟨y,u,rfl,rfl⟩
   ·rw [Qfx] at h;exact wpAny_eqBool_int h
   ·rw [Qfy] at h;exact SeqAt.EqAt.int_str i t y u _ _ _ _ h
  ·rcases ZT hv with ⟨j,u,rfl,rfl⟩ | ⟨y,u,rfl,rfl⟩
   ·rw [Qfz] at h;exact SeqAt.EqAt.str_int x t j u _ _ _ _ h
   ·rw [QfA] at h;exact wpAny_eqBool_str h
 «strs»:=fun k x t v h=>by
  rcases ZT h with ⟨i,u,rfl,e⟩ | ⟨y,u,rfl,e⟩
  ·exact nomatch e
  ·injection e with e1 _
   subst e1
   cases v<;>rfl
theorem vw (prog:Program) (w:World) (i:Int) (t:Tok):(Z0 prog w).is (.inl i) (.int i t)=true:=QaB i t
theorem vz (prog:Program) (w:World) (x:Str) (t:Tok):(Z0 prog w).is (.inr x) (.str x t)=true:=QaC x t
end L2
namespace L2
open PySem PySem.Spec PyProof.Rows
inductive V where
 | non | bl (b:Bool) | int (i:Int) | str (x:Str) | byt (b:Array UInt8) | flt (b:UInt64) | ref (a:Addr) | ty (n:String)
 deriving DecidableEq
def RelV:V->Value->Prop
 | .non,u=>u=Value.none
 | .bl b,u=>u=Value.bool b
 | .int i,u=>∃ t,u=Value.int i t
 | .str x,u=>∃ t,u=Value.str x t
 | .byt b,u=>∃ t,u=Value.bytes b t
 | .flt b,u=>∃ t,u=Value.float b t
 | .ref a,u=>u=Value.ref a
 | .ty n,u=>u=Value.type n
abbrev Vals:List V->List Value->Prop:=Paired RelV
theorem Vals.length {xs:List V} {us:List Value} (r:Vals xs us):xs.length=us.length:=Paired.length r
theorem Vals.get:∀ {xs:List V} {us:List Value} {i:Nat} {x:V},Vals xs us->xs[i]?=some x->∃ u,us[i]?=some u/\RelV x u
  | _,_,_,_,.nil,e=>by simp at e
  | _,_,0,_,.cons r _,e=>by simp at e;subst e;exact ⟨_,rfl,r⟩
  | _,_,i+1,x,.cons _ t,e=>by
    obtain ⟨u,h1,h2⟩:=Vals.get (i:=i) (x:=x) t (by simpa using e)
    exact ⟨u,by simpa using h1,h2⟩
theorem Vals.set {x:V} {u:Value} (r:RelV x u):∀ {xs:List V} {us:List Value} (i:Nat),Vals xs us->Vals (xs.set i x) (us.set i u)
 | _,_,_,.nil=>.nil
 | _,_,0,.cons _ t=>.cons r t
 | _,_,i+1,.cons q t=>.cons q (Vals.set r i t)
theorem Vals.append:∀ {xs ys:List V} {us ws:List Value},Vals xs us->Vals ys ws->Vals (xs++ys) (us++ws)
 | _,_,_,_,.nil,s=>s
 | _,_,_,_,.cons r t,s=>.cons r (Vals.append t s)
theorem Vals.take:∀ {xs:List V} {us:List Value} (n:Nat),Vals xs us->Vals (xs.take n) (us.take n)
 | _,_,0,_=>.nil
 | _,_,_+1,.nil=>.nil
 | _,_,n+1,.cons r t=>.cons r (Vals.take n t)
theorem Vals.drop:∀ {xs:List V} {us:List Value} (n:Nat),Vals xs us->Vals (xs.drop n) (us.drop n)
 | _,_,0,r=>r
 | _,_,_+1,.nil=>.nil
 | _,_,n+1,.cons _ t=>Vals.drop n t
def RelO:Option V->Option Value->Prop
 | some v,some u=>RelV v u
 | none,none=>True
 | _,_=>False
def KV {κ:Type}:List (κ×V)->List (κ×Value)->Prop:=Paired fun (p:κ×V) (q:κ×Value)=>p.1=q.1/\RelV p.2 q.2
def kV:Key->V
 | .inl i=>.int i
 | .inr x=>.str x
inductive HO where
  | lst (xs:List V)
  | tup (xs:List V)
  | dK (kvs:List (Key×V)) | dT (kvs:List (List Key×V))
  | set (S:Int->Bool) (n:Nat)
  | ins (C dx:Addr) (fs:List (Str×V))
  | own (x:Addr)
  | xd (fs:List (Str×V))
  | met (f x:Addr)
  | rng (lo hi:Int)
  | frz (o:Obj) (u:HO)
  | tbl (ps:Array Value)
  | ext (φ:Heap->Prop)
abbrev Hp:=Addr->Option HO
def upd (H:Hp) (a:Addr) (o:HO):Hp:=fun b=>if b=a then some o else H b
theorem Zm {H:Hp} {a:Addr} {o:HO}:upd H a o a=some o:=by unfold upd;rw [if_pos rfl]
theorem Q4 {H:Hp} {a b:Addr} {o:HO} (h:b≠a):upd H a o b=H b:=by unfold upd;rw [if_neg h]
theorem Qhc {H:Hp} {a b:Addr} {o u:HO} (h:H a=some o) (h':H b=some u) (d:o≠u):a≠b:=by
 intro e;subst e;rw [h] at h';exact d (Option.some.inj h')
theorem ZD {H:Hp} {a b:Addr} {o:HO} (h:H a=some o) (h':H b=none):a≠b:=by
 intro e;subst e;rw [h] at h';cases h'
section
variable (P:Program) (w:World)
def ObjOk (H:Hp) (h:Heap) (a:Addr):HO->Prop
 | .lst xs=>xs.length<=sizeLine/\∃ (its:List Value) (n:Nat),Vals xs its/\h.get? a=some { cls:=.type "list", data:=.seq its.toArray n }
 | .tup xs=>xs.length<=sizeLine/\∃ its:List Value,Vals xs its/\IsTup h a its.toArray
 | .dK kvs=>kvs.length<=sizeLine/\(a==sysModules)=false/\∃ vs,KV kvs vs/\h.DictOf (Z0 P w) a vs
 | .dT kvs=>kvs.length<=sizeLine/\(a==sysModules)=false/\∃ xs:List (List Key×Addr×Value),
   Paired (fun (p:List Key×V) (q:List Key×Addr×Value)=>p.1=q.1/\H q.2.1=some (.tup (p.1.map kV))/\RelV p.2 q.2.2) kvs xs /\
   ∃ o es ep,h.get? a=some o/\o.ExactDict/\o.data=.dict es ep/\es.toList=xs.map (entryOfKey (tupleKind (Z0 P w)))/\(xs.map (·.1)).Nodup
 | .set S n=>h.SetOf (intKind P w) a S n
 | .ins C dx fs=>H dx=some (.own a)/\fs.length<=1000/\dx≠a/\h.get? a=some (PySem.W.instObj C dx) /\
   ∃ mA,h.Ns1 dx mA/\(∀ f,RelO (fs.lookup f) (mA f))/\PySem.Within mA (fs.map (·.1))
 | .own _=>∃ o,h.get? a=some o
 | .xd fs=>∃ mA,h.Ns1 a mA/\∀ f,RelO (fs.lookup f) (mA f)
 | .rng lo hi=>∃ t u v,h.get? a=some { cls:=.type "range", data:=.fields #[.int lo t,.int hi u,.int 1 v] }
 | .frz o u=>h.get? a=some o/\ObjOk H h a u
 | .tbl ps=>h.get? a=some { cls:=.none,data:=.fields ps }
 | .met f x=>h.get? a=some (PySem.W.methodObj (.ref f) (.ref x))
 | .ext φ=>φ h/\(∃ o,h.get? a=some o)/\∀ h1 h2:Heap,φ h1->(∀ o,h1.get? a=some o->h2.get? a=some o)->φ h2
def HOk (H:Hp) (h:Heap):Prop:=∀ a o,H a=some o->ObjOk P w H h a o
end
section
variable {P:Program} {w:World} {H H':Hp} {h h':Heap} {a:Addr} {o:HO}
theorem ObjOk.lt (x:ObjOk P w H h a o):a < h.objs.size:=by
 cases o with
 | lst xs=>obtain ⟨_,_,_,_,e⟩:=x;exact Heap.lt_size e
 | tup xs=>obtain ⟨_,_,_,p⟩:=x;exact p.lt
 | dK kvs=>obtain ⟨_,_,_,_,o,_,_,e,_⟩:=x;exact Heap.lt_size e
 | dT kvs=>obtain ⟨_,_,_,_,o,_,_,e,_⟩:=x;exact Heap.lt_size e
 | set S n=>obtain ⟨o,_,_,_,e,_⟩:=x;exact Heap.lt_size e
 | ins C dx fs=>obtain ⟨_,_,_,e,_⟩:=x;exact Heap.lt_size e
 | own y=>obtain ⟨_,e⟩:=x;exact Heap.lt_size e
 | xd fs=>obtain ⟨_,⟨_,_,_,e,_⟩,_⟩:=x;exact Heap.lt_size e
 | rng lo hi=>obtain ⟨_,_,_,e⟩:=x;exact Heap.lt_size e
 | frz ob u=>obtain ⟨e,_⟩:=x;exact Heap.lt_size e
 | tbl ps=>exact Heap.lt_size (show h.get? a=some _ from x)
 | met f y=>exact Heap.lt_size (show h.get? a=some _ from x)
 | ext φ=>obtain ⟨_,⟨_,e⟩,_⟩:=x;exact Heap.lt_size e
theorem Paired.mapP {α β:Type} {F G:α->β->Prop}:∀ {l₁:List α} {l₂:List β},Paired F l₁ l₂->(∀ a b,F a b->G a b)->Paired G l₁ l₂
 | _,_,.nil,_=>.nil
 | _,_,.cons r t,f=>.cons (f _ _ r) (Paired.mapP t f)
theorem ObjOk.stay (x:ObjOk P w H h a o) (k:∀ b u,(b=a∨H b=some (.own a))->h.get? b=some u->h'.get? b=some u)
    (ho:∀ b,H b=some (.own a)->H' b=some (.own a)) (ht:∀ b xs,H b=some (.tup xs)->H' b=some (.tup xs)):ObjOk P w H' h' a o:=by
  induction o with
  | lst xs=>obtain ⟨z,its,n,r,e⟩:=x;exact ⟨z,its,n,r,k _ _ (.inl rfl) e⟩
  | tup xs=>obtain ⟨z,its,r,ob,e,c⟩:=x;exact ⟨z,its,r,ob,k _ _ (.inl rfl) e,c⟩
  | dK kvs=>obtain ⟨z,y,vs,r,ob,es,ep,e,c⟩:=x;exact ⟨z,y,vs,r,ob,es,ep,k _ _ (.inl rfl) e,c⟩
  | dT kvs =>
    obtain ⟨z,y,xs,r,ob,es,ep,e,c⟩:=x
    exact ⟨z,y,xs,Paired.mapP r fun p q z=>⟨z.1,ht _ _ z.2.1,z.2.2⟩,ob,es,ep,k _ _ (.inl rfl) e,c⟩
  | set S n=>obtain ⟨ob,es,ep,t,e,c⟩:=x;exact ⟨ob,es,ep,t,k _ _ (.inl rfl) e,c⟩
  | ins C dx fs =>
    obtain ⟨d,z,ne,e,mA,⟨od,es,ep,e2,c⟩,r⟩:=x
    exact ⟨ho _ d,z,ne,k _ _ (.inl rfl) e,mA,⟨od,es,ep,k _ _ (.inr d) e2,c⟩,r⟩
  | own y=>obtain ⟨ob,e⟩:=x;exact ⟨ob,k _ _ (.inl rfl) e⟩
  | xd fs=>obtain ⟨mA,⟨od,es,ep,e,c⟩,r⟩:=x;exact ⟨mA,⟨od,es,ep,k _ _ (.inl rfl) e,c⟩,r⟩
  | rng lo hi=>obtain ⟨t,u,v,e⟩:=x;exact ⟨t,u,v,k _ _ (.inl rfl) e⟩
  | frz ob u ih=>obtain ⟨e,q⟩:=x;exact ⟨k _ _ (.inl rfl) e,ih q⟩
  | tbl ps =>
    have e:h.get? a=some { cls:=.none,data:=.fields ps }:=x
    show h'.get? a=some { cls:=.none,data:=.fields ps }
    exact k a _ (.inl rfl) e
  | met f y =>
    have e:h.get? a=some (PySem.W.methodObj (.ref f) (.ref y)):=x
    show h'.get? a=some (PySem.W.methodObj (.ref f) (.ref y))
    exact k a _ (.inl rfl) e
  | ext φ=>obtain ⟨p,⟨o,e⟩,st⟩:=x;exact ⟨st _ _ p fun o q=>k _ _ (.inl rfl) q,⟨o,k _ _ (.inl rfl) e⟩,st⟩
theorem HOk.lt (x:HOk P w H h) (e:H a=some o):a < h.objs.size:=(x a o e).lt
theorem HOk.fresh (x:HOk P w H h) (e:h.objs.size<=a):H a=none:=by
 cases q:H a with
 | none=>rfl
 | some u=>exact absurd (Nat.lt_of_lt_of_le (x.lt q) e) (Nat.lt_irrefl _)
theorem HOk.kept (x:HOk P w H h) (k:∀ b u,h.get? b=some u->h'.get? b=some u):HOk P w H h':=fun a o e =>
 (x a o e).stay (fun b u _ q=>k b u q) (fun _ q=>q) fun _ _ q=>q
theorem HOk.laid (x:HOk P w H h) (k:∀ b u,h.get? b=some u->h'.get? b=some u) (hp:h.objs.size<=a) (new:ObjOk P w (upd H a o) h' a o):HOk P w (upd H a o) h':=fun b u e=>by
 have hn:=x.fresh hp
 by_cases hb:b=a
 ·subst hb;rw [Zm] at e;cases e;exact new
 ·rw [Q4 hb] at e
  exact (x b u e).stay (fun c v _ q=>k c v q) (fun c q=>by rw [Q4 (ZD q hn)];exact q) fun c xs q=>by rw [Q4 (ZD q hn)];exact q
end
def Rd (H:Hp) (a:Addr) (u:HO):Prop:=H a=some u∨∃ o,H a=some (.frz o u)
theorem Rd.ok {P:Program} {w:World} {H:Hp} {h:Heap} {a:Addr} {u:HO} (r:Rd H a u) (x:HOk P w H h):ObjOk P w H h a u:=by
 rcases r with r | ⟨o,r⟩
 ·exact x a u r
 ·obtain ⟨_,q⟩:=x a _ r
  exact q
def Mut:Option HO->Prop
 | some (.lst _)=>True
 | some (.dK _)=>True
 | some (.dT _)=>True
 | some (.set _ _)=>True
 | some (.ins _ _ _)=>True
 | some (.ext _)=>True
 | _=>False
section
variable {P:Program} {w:World} {H:Hp} {h h':Heap} {x e:Addr} {o':HO}
theorem HOk.write (ok:HOk P w H h) (mu:Mut (H x)) (he:e=x∨H e=some (.own x)) (k:∀ b u,b≠e->h.get? b=some u->h'.get? b=some u) (heo:∃ u,h'.get? e=some u)
  (new:ObjOk P w (upd H x o') h' x o'):HOk P w (upd H x o') h':=fun b u q=>by
 have nown:∀ c y,H c=some (.own y)->c≠x:=fun c y r z=>by subst z;rw [r] at mu;exact mu
 have ntup:∀ c xs,H c=some (.tup xs)->c≠x:=fun c xs r z=>by subst z;rw [r] at mu;exact mu
 by_cases hb:b=x
 ·subst hb;rw [Zm] at q;cases q;exact new
 ·rw [Q4 hb] at q
  by_cases hbe:b=e
  ·have q':H b=some (.own x):=by
    rcases he with z | z
    ·exact absurd (hbe.trans z) hb
    ·rw [hbe];exact z
   rw [q] at q';cases q'
   obtain ⟨v,hv⟩:=heo
   exact ⟨v,by rw [hbe];exact hv⟩
  ·refine (ok b u q).stay (fun c v hc r=>k c v ?_ r) (fun c r=>by rw [Q4 (nown c b r)];exact r) fun c xs r=>by rw [Q4 (ntup c xs r)];exact r
   rcases hc with rfl | hc
   ·exact hbe
   ·rintro rfl
    rcases he with z | z
    ·exact nown c b hc z
    ·rw [hc] at z;cases z;exact hb rfl
end
structure Un (fs ex:List Addr) (H H':Hp) (h h':Heap):Prop where
 keep:∀ b o,h.get? b=some o->H b=none->b∉fs->b∉ex->h'.get? b=some o
 slot:∀ b o,h.get? b=some o->H b=none->b∈fs->b∉ex->∃ sl,h'.get? b=some { o with slots:=sl }
 free:∀ b o,h.get? b=some o->H b=none->b∉ex->H' b=none
 there:∀ b o,h.get? b=some o->b∉ex->∃ o',h'.get? b=some o'
 tups:∀ b xs,H b=some (.tup xs)->H' b=some (.tup xs)
 frzs:∀ b o u,H b=some (.frz o u)->H' b=some (.frz o u)
 tbls:∀ b ps,H b=some (.tbl ps)->∃ more,H' b=some (.tbl (ps++more))
section
variable {fs fs' ex ex':List Addr} {H H1 H2:Hp} {h h1 h2 h':Heap} {a x e:Addr} {o:HO}
theorem Un.any (u:Un fs ex H H1 h h1) {b:Addr} {ob:Obj} (q:h.get? b=some ob) (n:H b=none) (hx:b∉ex):∃ sl,h1.get? b=some { ob with slots:=sl }:=by
 by_cases hb:b∈fs
 ·exact u.slot b ob q n hb hx
 ·exact ⟨ob.slots,u.keep b ob q n hb hx⟩
theorem Un.kept (k:∀ b u,h.get? b=some u->h'.get? b=some u):Un fs ex H H h h' :=
 ⟨fun b ob q _ _ _=>k b ob q,fun b ob q _ _ _=>⟨ob.slots,k b ob q⟩,fun _ _ _ n _=>n,fun b ob q _=>⟨ob,k b ob q⟩,fun _ _ q=>q,fun _ _ _ q=>q,fun _ ps q=>⟨#[],by rw [q];simp⟩⟩
theorem Un.refl:Un fs ex H H h h:=Un.kept fun _ _ q=>q
theorem Un.laid (k:∀ b u,h.get? b=some u->h'.get? b=some u) (hp:h.objs.size<=a) (hn:H a=none):Un fs ex H (upd H a o) h h' where
 keep:=fun b u q _ _ _=>k b u q
 slot:=fun b u q _ _ _=>⟨u.slots,k b u q⟩
 free:=fun b u q n _=>by rw [Q4 (Nat.ne_of_lt (Nat.lt_of_lt_of_le (Heap.lt_size q) hp))];exact n
 there:=fun b u q _=>⟨u,k b u q⟩
 tups:=fun b xs q=>by rw [Q4 (ZD q hn)];exact q
 frzs:=fun b u xs q=>by rw [Q4 (ZD q hn)];exact q
 tbls:=fun b ps q=>⟨#[],by rw [Q4 (ZD q hn),q];simp⟩
theorem Un.write (mu:Mut (H x)) (he:e=x∨H e=some (.own x)) (k:∀ b u,b≠e->h.get? b=some u->h'.get? b=some u) (heo:∃ u,h'.get? e=some u):Un fs ex H (upd H x o) h h':=by
 have hx:∀ b,H b=none->b≠x:=fun b n z=>by subst z;rw [n] at mu;exact mu
 have hb:∀ b,H b=none->b≠e:=fun b n z=>by
  subst z
  rcases he with r | r
  ·exact hx b n r
  ·rw [n] at r;cases r
 have hm:∀ b u,H b=some u->¬ Mut (some u)->b≠x:=fun b u q nm z=>by subst z;rw [q] at mu;exact nm mu
 refine ⟨fun b u q n _ _=>k b u (hb b n) q,fun b u q n _ _=>⟨u.slots,k b u (hb b n) q⟩,fun b u q n _=>by rw [Q4 (hx b n)];exact n,fun b u q _=>?_,
  fun b xs q=>by rw [Q4 (hm b _ q fun z=>z)];exact q,fun b u xs q=>by rw [Q4 (hm b _ q fun z=>z)];exact q,fun b ps q=>⟨#[],by rw [Q4 (hm b _ q fun z=>z),q];simp⟩⟩
 by_cases hbe:b=e
 ·subst hbe;exact heo
 ·exact ⟨u,k b u hbe q⟩
end
def trk (h:Heap) (H:Hp):List Addr:=(List.range h.objs.size).filter fun a=>(H a).isSome
def Gd (h:Heap) (H:Hp):Heap:=PySem.W.hideAll h (trk h H)
theorem Qay (h:Heap) (H:Hp):(Gd h H).objs.size=h.objs.size:=PySem.W.hideAll_size _ _
theorem QbO {h:Heap} {H:Hp} {b:Addr} {o:Obj} (e:h.get? b=some o) (n:H b=none):(Gd h H).get? b=some o :=
 PySem.W.hideAll_get _ e fun hm=>by
  have q:(H b).isSome=true:=(List.mem_filter.mp hm).2
  rw [n] at q;simp at q
theorem QdO {h:Heap} {H:Hp} {b:Addr} {o:Obj} (e:(Gd h H).get? b=some o):h.get? b=some o/\H b=none:=by
  have e':h.get? b=some o:=PySem.W.of_hideAll (trk h H) e
  refine ⟨e',?_⟩
  cases q:H b with
  | none=>rfl
  | some x =>
    have hm:b∈trk h H:=List.mem_filter.mpr ⟨List.mem_range.mpr (Heap.lt_size e'),by simp [q]⟩
    have z:(Gd h H).get? b=none:=PySem.W.hideAll_none (trk h H) hm
    rw [z] at e;cases e
def KL (g h:Heap) (L:Addr):List (Addr×Obj):=(List.range h.objs.size).filterMap fun a=>if a=L∨(g.get? a).isSome=true then none else (h.get? a).map fun o=>(a,o)
theorem VH {g h:Heap} {L:Addr} {p:Addr×Obj} (hp:p∈KL g h L):p.1≠L/\g.get? p.1=none/\h.get? p.1=some p.2:=by
  obtain ⟨b,_,e⟩:=List.mem_filterMap.mp hp
  split at e
  . cases e
  . rename_i hn
    cases q:h.get? b with
    | none=>rw [q] at e;simp at e
    | some u =>
      rw [q] at e
      simp only [Option.map_some,Option.some.injEq] at e
      subst e
      refine ⟨fun z=>hn (.inl z),?_,q⟩
      show g.get? b=none
      cases r:g.get? b with
      | none=>rfl
      | some v=>exact (hn (.inr (by simp [r]))).elim
def rest (g h:Heap) (L d:Addr):List (Addr×Obj):=(KL g h L).filter fun p=>decide (p.1≠d)
theorem Qce {g h:Heap} {L:Addr}:News g L h (KL g h L):=fun p hp=>let ⟨a,b,c⟩:=VH hp;⟨c,a,b⟩
end L2
namespace L2
open PySem PySem.Spec PyProof.Rows
structure Mod (K:PySem.W.Frag) (mg:Str->Option Value) (base:Heap):Prop where
 kin:K.In base
 glob:base.Ns mainGlobals mg
 blt:∃ mb,base.Ns builtinsNs mb/\∀ x:Str,x ≠ "__name__" -> mb x=bootBuiltins x
 nolimit:base.NoLimit
structure Cx where
 prog:Program
 w:World
 K:PySem.W.Frag
 mg:Str->Option Value
 base:Heap
 A:Around
 N:List Str
 s₀:Shared
 H₀:Hp
 env:Env
 outer:List Env
 stack:List Env
 ex:List Addr
 fn:Str->Bool
 calm:Bool
 pn:List (Addr×Obj)
 xe:Value->Shared->Prop
def frs (l:List Env):List Addr:=l.filterMap (·.frame)
abbrev Cx.fs (X:Cx):List Addr:=frs X.outer
def Vis (sc:Scope) (x:Str):Prop:=sc.names.lookup x=some .local∨sc.names.lookup x=some .cell∨sc.names.lookup x=some .free
def Loc (sc:Scope) (x:Str):Prop:=sc.names.lookup x=some .local∨sc.names.lookup x=some .cell
def QhV (env:Env) (h:Heap) (m:Str->Option Value) (x:Str) (u:Value):Prop :=
 (env.kindOf x=some .local/\m x=some u)∨((env.kindOf x=some .cell∨env.kindOf x=some .free)/\∃ c,env.cells.lookup x=some c/\h.IsCell c (some u))
structure Cx.Ok (X:Cx):Prop where
 mod:Mod X.K X.mg X.base
 kind:X.env.scope.kind=.function
 glob:X.env.globals=mainGlobals
 blt:X.env.builtins=builtinsNs
 above:X.s₀.heap.objs.size<=X.env.locals
 inj:∀ x y c,X.env.cells.lookup x=some c->X.env.cells.lookup y=some c->x=y
 has:∀ x,(X.env.kindOf x=some .cell∨X.env.kindOf x=some .free)->∃ c,X.env.cells.lookup x=some c
 cab:∀ x c,X.fn x=true->X.env.cells.lookup x=some c->X.s₀.heap.objs.size<=c
 hd:X.calm=true->X.A.handled=none
 frames:X.A.frames=some X.stack
 stk:X.stack=X.outer∨(X.stack=X.env::X.outer/\X.env.frame=some X.env.locals)
 exf:∀ b∈X.ex,b≠X.env.locals/\∀ x c,X.env.cells.lookup x=some c->c≠b
 bs:∀ b o,X.base.get? b=some o->X.s₀.heap.get? b=some o/\X.H₀ b=none
 bsz:X.base.objs.size<=X.s₀.heap.objs.size
 noex:∀ b o,X.base.get? b=some o->b∉X.ex
 exfs:∀ b∈X.ex,b∉X.fs
 funs:X.s₀.heap.FunFrames X.base X.outer
 frf:∀ b∈X.fs,X.H₀ b=none
structure Inv (X:Cx) (pins:List (Addr×Obj)) (σ:List (Option V)) (H:Hp) (s:Shared):Prop where
 ok:X.Ok
 os:s.os=X.s₀.os
 bare:AllBare s.gens
 base:Un X.fs X.ex X.H₀ H X.s₀.heap s.heap
 loc:∃ m,s.heap.Ns X.env.locals m/\∀ (i:Nat) (x:Str) (v:V),X.N[i]?=some x->σ[i]?=some (some v)->Vis X.env.scope x->∃ u,RelV v u/\QhV X.env s.heap m x u
 cell:∀ x c,X.env.cells.lookup x=some c->∃ v,s.heap.IsCell c v
 free:H X.env.locals=none
 freeC:∀ x c,X.env.cells.lookup x=some c->H c=none
 pin:∀ p∈X.pn++pins,s.heap.get? p.1=some p.2/\H p.1=none/\p.1≠X.env.locals/\p.1∉X.fs/\∀ v,p.2.data≠.cell v
 hok:HOk X.prog X.w H s.heap
 len:σ.length=X.N.length
section
variable {X:Cx} {pins:List (Addr×Obj)} {σ:List (Option V)} {H H':Hp} {s:Shared} {h':Heap}
theorem Cx.Ok.nofr (ok:X.Ok) {b:Addr} {o:Obj} (e:X.base.get? b=some o):b∉X.fs:=fun hb=>by
 have:=(ok.funs.mem hb).1
 rw [e] at this;cases this
theorem Inv.bs (I:Inv X pins σ H s):∀ b o,X.base.get? b=some o->s.heap.get? b=some o/\H b=none:=fun b o e =>
 ⟨I.base.keep b o (I.ok.bs b o e).1 (I.ok.bs b o e).2 (I.ok.nofr e) (I.ok.noex b o e),I.base.free b o (I.ok.bs b o e).1 (I.ok.bs b o e).2 (I.ok.noex b o e)⟩
theorem Inv.bk (I:Inv X pins σ H s):∀ b o,X.base.get? b=some o->s.heap.get? b=some o:=fun b o e=>(I.bs b o e).1
theorem Inv.mod (I:Inv X pins σ H s):Mod X.K X.mg X.base:=I.ok.mod
theorem Inv.kIn (I:Inv X pins σ H s):X.K.In s.heap:=I.ok.mod.kin.keeps I.bk
theorem Inv.fr (I:Inv X pins σ H s):∃ m,Fr X.base X.env.locals s.heap m :=
 let ⟨m,hn,_⟩:=I.loc
 ⟨m,hn,I.bk,Nat.le_trans I.ok.bsz I.ok.above⟩
theorem Inv.lt (I:Inv X pins σ H s):X.env.locals < s.heap.objs.size:=let ⟨_,hn,_⟩:=I.loc;hn.lt
theorem Inv.sz (I:Inv X pins σ H s):X.s₀.heap.objs.size<=s.heap.objs.size:=Nat.le_trans I.ok.above (Nat.le_of_lt I.lt)
theorem Inv.nofs (I:Inv X pins σ H s) {a:Addr} (h:s.heap.objs.size<=a):a∉X.fs:=fun hb=>by
 obtain ⟨_,o,ho,_⟩:=I.ok.funs.mem hb
 exact absurd (Nat.lt_of_lt_of_le (Heap.lt_size ho) (Nat.le_trans I.sz h)) (Nat.lt_irrefl _)
theorem Inv.cne (I:Inv X pins σ H s):∀ x c,X.env.cells.lookup x=some c->c≠X.env.locals:=fun x c e z=>by
 obtain ⟨v,o,ho,hd⟩:=I.cell x c e
 obtain ⟨m,⟨o',es,ep,ho',hd',_⟩,_⟩:=I.loc
 rw [z,ho'] at ho;cases ho;rw [hd'] at hd;cases hd
theorem Inv.funs (I:Inv X pins σ H s):s.heap.FunFrames X.base X.outer:=by
  have all:∀ (l:List Env),(∀ b∈frs l,b∈X.fs)->X.s₀.heap.FunFrames X.base l->s.heap.FunFrames X.base l:=by
    intro l
    induction l with
    | nil=>intro _ _;trivial
    | cons env r ih =>
      intro hs hl
      obtain ⟨hk,⟨L,o,hf,hn,ho,hd⟩,hr⟩:=hl
      have hL:L∈X.fs:=hs L (by unfold frs;rw [List.filterMap_cons,hf];exact List.mem_cons_self)
      obtain ⟨sl,e⟩:=I.base.slot L o ho (I.ok.frf L hL) hL fun z=>I.ok.exfs L z hL
      exact ⟨hk,⟨L,_,hf,hn,e,hd⟩,ih (fun b hb=>hs b (by unfold frs;rw [List.filterMap_cons,hf];exact List.mem_cons_of_mem _ hb)) hr⟩
  exact all X.outer (fun _ hb=>hb) I.ok.funs
theorem Inv.stack (I:Inv X pins σ H s):s.heap.FunFrames X.base X.stack:=by
 rcases I.ok.stk with e | ⟨e,hf⟩
 ·rw [e];exact I.funs
 ·rw [e]
  obtain ⟨m,hn,_⟩:=I.loc
  refine .cons (by rw [I.ok.kind];decide) hf hn ?_ I.funs
  exact Heap.get?_none_of_le (Nat.le_trans I.ok.bsz I.ok.above)
theorem Inv.stkSub (I:Inv X pins σ H s):∀ b∈frs X.stack,b∈X.env.locals::X.fs:=fun b hb=>by
 rcases I.ok.stk with e | ⟨e,hf⟩
 ·rw [e] at hb;exact List.mem_cons_of_mem _ hb
 ·rw [e] at hb
  unfold frs at hb
  rw [List.filterMap_cons,hf] at hb
  exact hb
theorem Inv.stkFree (I:Inv X pins σ H s):∀ b∈frs X.stack,H b=none:=fun b hb=>by
 rcases List.mem_cons.mp (I.stkSub b hb) with e | hb
 ·rw [e];exact I.free
 ·obtain ⟨_,o,ho,_⟩:=I.ok.funs.mem hb
  exact I.base.free b o ho (I.ok.frf b hb) fun z=>I.ok.exfs b z hb
theorem Inv.step {g':Array GenState} {t':Nat} {d':Drawn} {ch:List Addr} (I:Inv X pins σ H s)
  (hch:∀ b∈ch,(b∈X.ex∨X.s₀.heap.objs.size<=b)/\b≠X.env.locals/\(∀ x c,X.env.cells.lookup x=some c->c≠b)/\∀ p∈X.pn++pins,p.1≠b)
  (keep:∀ b o,b≠X.env.locals->b∉X.fs->b∉ch->s.heap.get? b=some o->H b=none->h'.get? b=some o)
  (slot:∀ b o,b≠X.env.locals->b∈X.fs->b∉ch->s.heap.get? b=some o->H b=none->∃ sl,h'.get? b=some { o with slots:=sl }) (free:∀ b o,b∉ch->s.heap.get? b=some o->H b=none->H' b=none)
  (there:∀ b o,b∉ch->s.heap.get? b=some o->∃ o',h'.get? b=some o')
  (tups:∀ b xs,H b=some (.tup xs)->H' b=some (.tup xs)) (frzs:∀ b o u,H b=some (.frz o u)->H' b=some (.frz o u)) (tbls:∀ b ps,H b=some (.tbl ps)->∃ more,H' b=some (.tbl (ps++more)))
  (ns:∀ m,s.heap.Ns X.env.locals m->h'.Ns X.env.locals m) (hok:HOk X.prog X.w H' h') (hg:AllBare g') :
  Inv X pins σ H' { s with heap:=h',gens:=g',drawn:=d',toks:=t' }:=by
 have neL:∀ b o,X.s₀.heap.get? b=some o->b≠X.env.locals:=fun b o e=>Nat.ne_of_lt (Nat.lt_of_lt_of_le (Heap.lt_size e) I.ok.above)
 have neC:∀ b o,X.s₀.heap.get? b=some o->b∉X.ex->b∉ch:=fun b o e hx hb=>by
  rcases (hch b hb).1 with z | z
  ·exact hx z
  ·exact absurd (Nat.lt_of_lt_of_le (Heap.lt_size e) z) (Nat.lt_irrefl _)
 have cellK:∀ x c,X.env.cells.lookup x=some c->∀ v,s.heap.IsCell c v->h'.IsCell c v:=fun x c e v ⟨o,ho,hd⟩=>by
  have nch:c∉ch:=fun z=>(hch c z).2.2.1 x c e rfl
  by_cases hc:c∈X.fs
  ·obtain ⟨sl,q⟩:=slot c o (I.cne x c e) hc nch ho (I.freeC x c e)
   exact ⟨_,q,hd⟩
  ·exact ⟨o,keep c o (I.cne x c e) hc nch ho (I.freeC x c e),hd⟩
 refine ⟨I.ok,I.os,hg,⟨fun b o e n hb hx=>?_,fun b o e n hb hx=>?_,fun b o e n hx=>?_,fun b o e hx=>?_,fun b xs e=>tups b xs (I.base.tups b xs e),fun b o xs e=>frzs b o xs (I.base.frzs b o xs e),fun b ps e=>?_⟩,?_,fun x c e=>?_,?_,fun x c e=>?_,fun p hp=>?_,hok,I.len⟩
 ·exact keep b o (neL b o e) hb (neC b o e hx) (I.base.keep b o e n hb hx) (I.base.free b o e n hx)
 ·obtain ⟨sl,e1⟩:=I.base.slot b o e n hb hx
  obtain ⟨sl',e2⟩:=slot b _ (neL b o e) hb (neC b o e hx) e1 (I.base.free b o e n hx)
  exact ⟨sl',e2⟩
 ·obtain ⟨o',e1⟩:=I.base.there b o e hx
  exact free b o' (neC b o e hx) e1 (I.base.free b o e n hx)
 ·obtain ⟨o',e1⟩:=I.base.there b o e hx
  exact there b o' (neC b o e hx) e1
 ·obtain ⟨m1,e1⟩:=I.base.tbls b ps e
  obtain ⟨m2,e2⟩:=tbls b _ e1
  exact ⟨m1++m2,by rw [e2,Array.append_assoc]⟩
 ·obtain ⟨m,hn,hl⟩:=I.loc
  refine ⟨m,ns m hn,fun i x v e1 e2 e3=>?_⟩
  obtain ⟨u,r,l⟩:=hl i x v e1 e2 e3
  refine ⟨u,r,?_⟩
  rcases l with l | ⟨k,c,e,z⟩
  ·exact .inl l
  ·exact .inr ⟨k,c,e,cellK x c e _ z⟩
 ·obtain ⟨v,z⟩:=I.cell x c e
  exact ⟨v,cellK x c e v z⟩
 ·obtain ⟨m,⟨o,_,_,ho,_⟩,_⟩:=I.loc
  exact free _ o (fun z=>(hch _ z).2.1 rfl) ho I.free
 ·obtain ⟨v,o,ho,hd⟩:=I.cell x c e
  exact free c o (fun z=>(hch c z).2.2.1 x c e rfl) ho (I.freeC x c e)
 ·obtain ⟨e,n,ne,nf,d⟩:=I.pin p hp
  have nch:p.1∉ch:=fun z=>(hch p.1 z).2.2.2 p hp rfl
  exact ⟨keep p.1 p.2 ne nf nch e n,free p.1 p.2 nch e n,ne,nf,d⟩
theorem Inv.un {t':Nat} (I:Inv X pins σ H s) (u:Un X.fs [] H H' s.heap h') (hok:HOk X.prog X.w H' h'):Inv X pins σ H' { s with heap:=h',toks:=t' }:=by
 obtain ⟨m,⟨o,es,ep,ho,r⟩,_⟩:=id I.loc
 obtain ⟨sl,hL⟩:=u.any ho I.free (by simp)
 exact I.step (g':=s.gens) (d':=s.drawn) (ch:=[]) (fun _ z=>nomatch z) (fun b o _ hb _ e n=>u.keep b o e n hb (by simp)) (fun b o _ hb _ e n=>u.slot b o e n hb (by simp)) (fun b o _ e n=>u.free b o e n (by simp)) (fun b o _ e=>u.there b o e (by simp)) u.tups u.frzs u.tbls (fun m' hm=>by
  obtain ⟨o',es',ep',ho',r'⟩:=hm
  rw [ho] at ho';cases ho'
  exact ⟨_,es',ep',hL,r'⟩) hok I.bare
theorem Inv.call {g':Array GenState} {t':Nat} {d':Drawn} {ch:List Addr} (I:Inv X pins σ H s) (u:Un (frs X.stack) ch H H' s.heap h') (hok:HOk X.prog X.w H' h') (hg:AllBare g')
  (hch:∀ b∈ch,(b∈X.ex∨X.s₀.heap.objs.size<=b)/\b≠X.env.locals/\(∀ x c,X.env.cells.lookup x=some c->c≠b)/\∀ p∈X.pn++pins,p.1≠b) :
  Inv X pins σ H' { s with heap:=h',gens:=g',drawn:=d',toks:=t' }:=by
 obtain ⟨m,⟨o,es,ep,ho,r⟩,_⟩:=id I.loc
 obtain ⟨sl,hL⟩:=u.any ho I.free fun z=>(hch _ z).2.1 rfl
 exact I.step (ch:=ch) hch (fun b o hL hb hc e n=>u.keep b o e n (fun z=>(List.mem_cons.mp (I.stkSub b z)).elim hL hb) hc) (fun b o _ _ hc e n=>u.any e n hc) (fun b o hc e n=>u.free b o e n hc) (fun b o hc e=>u.there b o e hc) u.tups u.frzs u.tbls (fun m' hm=>by
  obtain ⟨o',es',ep',ho',r'⟩:=hm
  rw [ho] at ho';cases ho'
  exact ⟨_,es',ep',hL,r'⟩) hok hg
theorem Inv.turned {t':Nat} {it:Addr} (I:Inv X pins σ H s) (k:∀ b o,b≠it->s.heap.get? b=some o->h'.get? b=some o) (hn:H it=none) (hL:it≠X.env.locals)
  (h1:it∈X.ex∨X.s₀.heap.objs.size<=it) (h2:∀ x c,X.env.cells.lookup x=some c->c≠it) (h3:∀ p∈X.pn++pins,p.1≠it):Inv X pins σ H { s with heap:=h',toks:=t' }:=by
 have nit:∀ b u,H b=some u->b≠it:=fun b u e z=>by rw [z,hn] at e;cases e
 refine I.step (g':=s.gens) (d':=s.drawn) (ch:=[it]) (fun b hb=>?_) (fun b o _ _ hc e _=>k b o (fun z=>hc (by simp [z])) e) (fun b o _ _ hc e _=>⟨o.slots,k b o (fun z=>hc (by simp [z])) e⟩) (fun _ _ _ _ n=>n)
  (fun b o hc e=>⟨o,k b o (fun z=>hc (by simp [z])) e⟩) (fun _ _ e=>e) (fun _ _ _ e=>e) (fun b ps e=>⟨#[],by rw [e];simp⟩) (fun m hm=>?_) (fun b u e=>?_) I.bare
 ·have e:b=it:=by simpa using hb
  subst e
  exact ⟨h1,hL,h2,h3⟩
 ·obtain ⟨o,es,ep,ho,r⟩:=hm
  exact ⟨o,es,ep,k _ o (Ne.symm hL) ho,r⟩
 ·refine (I.hok b u e).stay (fun c v hc q=>k c v ?_ q) (fun _ q=>q) fun _ _ q=>q
  rcases hc with z | z
  ·rw [z];exact nit b u e
  ·exact nit c _ z
theorem Inv.tok (I:Inv X pins σ H s) (t:Nat):Inv X pins σ H { s with toks:=t }:=I.un (h':=s.heap) (t':=t) Un.refl I.hok
theorem Inv.kept {t':Nat} (I:Inv X pins σ H s) (k:∀ b u,s.heap.get? b=some u->h'.get? b=some u):Inv X pins σ H { s with heap:=h',toks:=t' }:=I.un (Un.kept k) (I.hok.kept k)
theorem Inv.laid {a:Addr} {o:HO} {t':Nat} (I:Inv X pins σ H s) (k:∀ b u,s.heap.get? b=some u->h'.get? b=some u) (hp:s.heap.objs.size<=a) (new:ObjOk X.prog X.w (upd H a o) h' a o) :
  Inv X pins σ (upd H a o) { s with heap:=h',toks:=t' }:=I.un (Un.laid k hp (I.hok.fresh hp)) (I.hok.laid k hp new)
theorem Inv.write {x e:Addr} {o:HO} {t':Nat} (I:Inv X pins σ H s) (mu:Mut (H x)) (he:e=x∨H e=some (.own x)) (k:∀ b u,b≠e->s.heap.get? b=some u->h'.get? b=some u) (heo:∃ u,h'.get? e=some u)
  (new:ObjOk X.prog X.w (upd H x o) h' x o):Inv X pins σ (upd H x o) { s with heap:=h',toks:=t' }:=I.un (Un.write mu he k heo) (I.hok.write mu he k heo new)
theorem Inv.pins_of {pins':List (Addr×Obj)} (I:Inv X pins σ H s) (h:∀ p∈pins',s.heap.get? p.1=some p.2/\H p.1=none/\p.1≠X.env.locals/\p.1∉X.fs/\∀ v,p.2.data≠.cell v):Inv X pins' σ H s :=
 ⟨I.ok,I.os,I.bare,I.base,I.loc,I.cell,I.free,I.freeC,fun p hp=>(List.mem_append.mp hp).elim (fun z=>I.pin p (List.mem_append_left _ z)) (h p),I.hok,I.len⟩
theorem vA {N:List Str} (hN:N.Nodup) {i j:Nat} {x:Str} (a:N[i]?=some x) (b:N[j]?=some x):i=j:=by
 obtain ⟨h1,e1⟩:=List.getElem?_eq_some_iff.mp a
 obtain ⟨h2,e2⟩:=List.getElem?_eq_some_iff.mp b
 exact (List.getElem_inj hN).mp (e1.trans e2.symm)
theorem Kz {M:Model} {A:Around} {E:Value->Shared->Prop} {i:Nat} {x:Str} {v:V} {u:Value} {Q:Unit->Shared->Prop} (I:Inv X pins σ H s) (hN:X.N.Nodup) (hi:X.N[i]?=some x) (hx:Loc X.env.scope x) (r:RelV v u)
  (h:∀ s',Inv X pins (σ.set i (some v)) H s'->(∃ a,Heap.SameBut a s.heap s'.heap/\(a=X.env.locals∨X.env.cells.lookup x=some a))->Q () s') (hf:X.fn x=true∨X.env.scope.names.lookup x=some .local:=by first | exact .inl rfl | exact .inr rfl | assumption):wpAny M A (storeName X.env x u) Q E s:=by
 obtain ⟨m,hn,hl⟩:=id I.loc
 have hcls:(X.env.scope.kind==.class||(X.env.scope.kind==.module&&X.env.locals != X.env.globals))=false:=by rw [I.ok.kind];rfl
 have hiσ:i < σ.length:=by rw [I.len];exact (List.getElem?_eq_some_iff.mp hi).1
 have cne:=I.cne
 have tracked:∀ {a:Addr} {h':Heap},(∃ o,s.heap.get? a=some o/\H a=none)->Heap.SameBut a s.heap h'->HOk X.prog X.w H h':=fun {a h'} ha hs b ob e=>by
  obtain ⟨_,_,hfree⟩:=ha
  refine (I.hok b ob e).stay (fun c w' hc q=>(hs.2 c ?_).trans q) (fun _ q=>q) fun _ _ q=>q
  rintro rfl
  rcases hc with rfl | hc
  ·rw [hfree] at e;cases e
  ·rw [hfree] at hc;cases hc
 rcases hx with hk | hk
 ·refine wpAny_storeName_local hk hn (fun h' hn' hs=>?_) hcls
  obtain ⟨oL,_,_,hoL,_⟩:=id hn
  refine h _ ⟨I.ok,I.os,I.bare,⟨fun b o e n hb hx=>?_,fun b o e n hb hx=>?_,I.base.free,fun b o e hx=>?_,I.base.tups,I.base.frzs,I.base.tbls⟩,⟨_,hn',fun j y v' e1 e2 e3=>?_⟩,fun y c e=>?_,I.free,I.freeC,fun p hp=>?_,tracked ⟨oL,hoL,I.free⟩ hs,by simpa using I.len⟩ ⟨_,hs,.inl rfl⟩
  ·exact (hs.2 b (Nat.ne_of_lt (Nat.lt_of_lt_of_le (Heap.lt_size e) I.ok.above))).trans (I.base.keep b o e n hb hx)
  ·obtain ⟨sl,e1⟩:=I.base.slot b o e n hb hx
   exact ⟨sl,(hs.2 b (Nat.ne_of_lt (Nat.lt_of_lt_of_le (Heap.lt_size e) I.ok.above))).trans e1⟩
  ·obtain ⟨o',e1⟩:=I.base.there b o e hx
   exact ⟨o',(hs.2 b (Nat.ne_of_lt (Nat.lt_of_lt_of_le (Heap.lt_size e) I.ok.above))).trans e1⟩
  ·by_cases hj:j=i
   ·subst hj
    rw [hi] at e1;cases e1
    rw [List.getElem?_set_self hiσ] at e2
    cases e2
    exact ⟨u,r,.inl ⟨hk,by simp⟩⟩
   ·rw [List.getElem?_set_ne (Ne.symm hj)] at e2
    obtain ⟨u',r',q⟩:=hl j y v' e1 e2 e3
    refine ⟨u',r',?_⟩
    rcases q with ⟨k,e⟩ | ⟨k,c,e,z⟩
    ·refine .inl ⟨k,?_⟩
     have:y≠x:=fun e=>hj (vA hN e1 (e▸hi))
     simp [this,e]
    ·exact .inr ⟨k,c,e,z.sameBut hs (cne y c e)⟩
  ·obtain ⟨w',z⟩:=I.cell y c e
   exact ⟨w',z.sameBut hs (cne y c e)⟩
  ·obtain ⟨e,n,ne,nf,d⟩:=I.pin p hp
   exact ⟨(hs.2 p.1 ne).trans e,n,ne,nf,d⟩
 ·have hfn:X.fn x=true:=by
   rcases hf with z | z
   ·exact z
   ·rw [z] at hk;cases hk
  obtain ⟨c,hc⟩:=I.ok.has x (.inl hk)
  obtain ⟨w',z⟩:=I.cell x c hc
  refine wpAny_storeName_cell I.ok.kind hk hc z (fun h' hc' hs=>?_)
  obtain ⟨oc,hoc,hocd⟩:=id z
  refine h { s with heap:=h' } ⟨I.ok,I.os,I.bare,⟨fun b o e n hb hx=>?_,fun b o e n hb hx=>?_,I.base.free,fun b o e hx=>?_,I.base.tups,I.base.frzs,I.base.tbls⟩,⟨m,hn.sameBut hs (Ne.symm (cne x c hc)),fun j y v' e1 e2 e3=>?_⟩,fun y c' e=>?_,I.free,I.freeC,fun p hp=>?_,tracked ⟨oc,hoc,I.freeC x c hc⟩ hs,by simpa using I.len⟩ ⟨c,hs,.inr hc⟩
  ·exact (hs.2 b (Nat.ne_of_lt (Nat.lt_of_lt_of_le (Heap.lt_size e) (I.ok.cab x c hfn hc)))).trans (I.base.keep b o e n hb hx)
  ·obtain ⟨sl,e1⟩:=I.base.slot b o e n hb hx
   exact ⟨sl,(hs.2 b (Nat.ne_of_lt (Nat.lt_of_lt_of_le (Heap.lt_size e) (I.ok.cab x c hfn hc)))).trans e1⟩
  ·obtain ⟨o',e1⟩:=I.base.there b o e hx
   exact ⟨o',(hs.2 b (Nat.ne_of_lt (Nat.lt_of_lt_of_le (Heap.lt_size e) (I.ok.cab x c hfn hc)))).trans e1⟩
  ·by_cases hj:j=i
   ·subst hj
    rw [hi] at e1;cases e1
    rw [List.getElem?_set_self hiσ] at e2
    cases e2
    exact ⟨u,r,.inr ⟨.inl hk,c,hc,hc'⟩⟩
   ·rw [List.getElem?_set_ne (Ne.symm hj)] at e2
    obtain ⟨u',r',q⟩:=hl j y v' e1 e2 e3
    refine ⟨u',r',?_⟩
    rcases q with q | ⟨k,c',e,z'⟩
    ·exact .inl q
    ·refine .inr ⟨k,c',e,z'.sameBut hs ?_⟩
     rintro rfl
     exact hj (vA hN e1 (I.ok.inj _ _ _ e hc▸hi))
  ·by_cases hcc:c'=c
   ·subst hcc;exact ⟨_,hc'⟩
   ·obtain ⟨w2,z2⟩:=I.cell y c' e
    exact ⟨w2,z2.sameBut hs hcc⟩
  ·obtain ⟨e,n,ne,nf,d⟩:=I.pin p hp
   refine ⟨(hs.2 p.1 ?_).trans e,n,ne,nf,d⟩
   intro q
   rw [q,hoc] at e
   have q':oc=p.2:=Option.some.inj e
   exact d w' (by rw [<- q'];exact hocd)
theorem vW {M:Model} {A:Around} {E:Value->Shared->Prop} {i:Nat} {x:Str} {v:V} {u:Value} {Q:Unit->Shared->Prop} (I:Inv X pins σ H s) (hN:X.N.Nodup) (hi:X.N[i]?=some x) (hx:Loc X.env.scope x) (r:RelV v u)
  (h:∀ s',Inv X pins (σ.set i (some v)) H s'->Q () s') (hf:X.fn x=true∨X.env.scope.names.lookup x=some .local:=by first | exact .inl rfl | exact .inr rfl | assumption):wpAny M A (storeName X.env x u) Q E s :=
 Kz I hN hi hx r (fun s' I' _=>h s' I') hf
theorem Inv.call' {s':Shared} {ch:List Addr} (I:Inv X pins σ H s) (ho:s'.os=s.os) (u:Un (frs X.stack) ch H H' s.heap s'.heap) (hok:HOk X.prog X.w H' s'.heap) (hg:AllBare s'.gens)
  (hch:∀ b∈ch,(b∈X.ex∨X.s₀.heap.objs.size<=b)/\b≠X.env.locals/\(∀ x c,X.env.cells.lookup x=some c->c≠b)/\∀ p∈X.pn++pins,p.1≠b):Inv X pins σ H' s':=by
 obtain ⟨h',g',d',t',o'⟩:=s'
 have e:o'=s.os:=ho
 subst e
 exact I.call (g':=g') (t':=t') (d':=d') u hok hg hch
end
abbrev XK:=Value->Option Addr->Hp->Prop
abbrev St:=List (Option V)
abbrev VK:=V->Hp->Prop
abbrev TE:=St->Hp->VK->Prop
abbrev TT:=St->Hp->(Bool->Hp->Prop)->Prop
abbrev TA:=St->Hp->(List V->Hp->Prop)->Prop
structure KF where
 nx:St->Hp->Prop
 rt:VK
 bk:St->Hp->Prop:=fun _ _=>False
 ct:St->Hp->Prop:=fun _ _=>False
abbrev TS:=KF->St->Hp->Prop
def EP (X:Cx) (pins:List (Addr×Obj)) (σ:St) (Q:VK) (u:Value) (s':Shared):Prop:=∃ v H',Inv X pins σ H' s'/\RelV v u/\Q v H'
def TP (X:Cx) (pins:List (Addr×Obj)) (σ:St) (Q:Bool->Hp->Prop) (b:Bool) (s':Shared):Prop:=∃ H',Inv X pins σ H' s'/\Q b H'
def AP (X:Cx) (pins:List (Addr×Obj)) (σ:St) (Q:List V->Hp->Prop) (us:List Value) (s':Shared):Prop:=∃ vs H',Inv X pins σ H' s'/\Vals vs us/\Q vs H'
def SP (X:Cx) (pins:List (Addr×Obj)) (D:KF) (f:Flow) (s':Shared):Prop :=
 match f with
 | .next=>∃ σ' H',Inv X pins σ' H' s'/\D.nx σ' H'
 | .brk=>∃ σ' H',Inv X pins σ' H' s'/\D.bk σ' H'
 | .cont=>∃ σ' H',Inv X pins σ' H' s'/\D.ct σ' H'
 | .ret u=>∃ v σ' H',Inv X pins σ' H' s'/\RelV v u/\D.rt v H'
def PE (X:Cx) (e:Expr) (t:TE):Prop :=
 ∀ (pins:List (Addr×Obj)) (s:Shared) (σ:St) (H:Hp) (Q:VK),Inv X pins σ H s->t σ H Q->wpAny (model X.prog X.w) X.A (eval e X.env) (EP X pins σ Q) X.xe s
def PT (X:Cx) (e:Expr) (t:TT):Prop :=
 ∀ (pins:List (Addr×Obj)) (s:Shared) (σ:St) (H:Hp) (Q:Bool->Hp->Prop),Inv X pins σ H s->t σ H Q->wpAny (model X.prog X.w) X.A (isTrue e X.env (eval e X.env)) (TP X pins σ Q) X.xe s
def PW (X:Cx) (e:Expr) (t:TT):Prop :=
 ∀ (whole:Sem Value) (pins:List (Addr×Obj)) (s:Shared) (σ:St) (H:Hp) (Q:Bool->Hp->Prop),Inv X pins σ H s->t σ H Q->wpAny (model X.prog X.w) X.A (isTrue e X.env whole) (TP X pins σ Q) X.xe s
def PA (X:Cx) (es:List Expr) (t:TA):Prop :=
 ∀ (pos:Pos) (pins:List (Addr×Obj)) (s:Shared) (σ:St) (H:Hp) (Q:List V->Hp->Prop),Inv X pins σ H s->t σ H Q->wpAny (model X.prog X.w) X.A (spliced (backTo pos (starEach es X.env))) (AP X pins σ Q) X.xe s
def PS (X:Cx) (st:Stmt) (t:TS):Prop :=
 ∀ (pins:List (Addr×Obj)) (s:Shared) (σ:St) (H:Hp) (D:KF),Inv X pins σ H s->t D σ H->wpAny (model X.prog X.w) X.A (exec st X.env) (SP X pins D) X.xe s
def PSs (X:Cx) (st:List Stmt) (t:TS):Prop :=
 ∀ (pins:List (Addr×Obj)) (s:Shared) (σ:St) (H:Hp) (D:KF),Inv X pins σ H s->t D σ H->wpAny (model X.prog X.w) X.A (execs st X.env) (SP X pins D) X.xe s
theorem thn {α:Type} {t:Sem α} {Q Q':α->Shared->Prop} {M:Model} {A:Around} {E:Value->Shared->Prop} {s:Shared} (h:wpAny M A t Q E s) (hQ:∀ a s,Q a s->Q' a s):wpAny M A t Q' E s:=wpAny_mono h hQ fun _ _ x=>x
end L2
namespace L2
open PySem PySem.Spec PyProof.Rows
section
variable {X:Cx}
theorem bin {a b:Expr} {ta tb:TE} (ha:PE X a ta) (hb:PE X b tb) {pins:List (Addr×Obj)} {s:Shared} {σ:St} {H:Hp} {R:V->V->Hp->Prop} (I:Inv X pins σ H s) (h:ta σ H fun x H1=>tb σ H1 fun y H2=>R x y H2)
  {α:Type} {Q:α->Shared->Prop} {f:Value->Value->Sem α}
  (hf:∀ v u s2 x y H2,Inv X pins σ H2 s2->RelV x v->RelV y u->R x y H2->wpAny (model X.prog X.w) X.A (f v u) Q X.xe s2) :
  wpAny (model X.prog X.w) X.A (eval a X.env) (fun v s₁=>wpAny (model X.prog X.w) X.A (eval b X.env) (fun u s₂=>wpAny (model X.prog X.w) X.A (f v u) Q X.xe s₂) X.xe s₁) X.xe s:=by
 refine thn (ha pins s σ H _ I h) fun v s1 ⟨x,H1,I1,r1,q1⟩=>?_
 refine thn (hb pins s1 σ H1 _ I1 q1) fun u s2 ⟨y,H2,I2,r2,q2⟩=>?_
 exact hf v u s2 x y H2 I2 r1 r2 q2
def Qip (i:Nat):TE:=fun σ H Q=>∃ v,σ[i]?=some (some v)/\Q v H
def tC (v:V):TE:=fun _ H Q=>Q v H
theorem Qf3 {i:Nat} {x:Str} {pos:Pos} (hN:X.N[i]?=some x) (hv:Vis X.env.scope x) (hd:(x==("__debug__" : Str))=false:=by decide) (hcd:(x==("__classdict__" : Str))=false:=by decide):PE X (.Name x pos) (Qip i):=by
 intro pins s σ H Q I h
 obtain ⟨v,e,h⟩:=h
 obtain ⟨m,hn,hl⟩:=I.loc
 obtain ⟨u,r,l⟩:=hl i x v hN e hv
 have fin:EP X pins σ Q u s:=⟨v,H,I,r,h⟩
 rcases l with ⟨hk,hm⟩ | ⟨hk,c,hc,hcell⟩
 ·exact wpAny_Name (wpAny_loadName_local I.ok.kind hk hn hm fin) hd
 ·rcases hk with hk | hk
  ·exact wpAny_Name (wpAny_loadName_cell I.ok.kind hk hc hcell fin) hd
  ·exact wpAny_Name (wpAny_loadName_free I.ok.kind hk hc hcell fin hcd) hd
theorem QfX {i j pos}:PE X (.Constant (.int i) j pos) (tC (.int i)):=fun _ _ _ H _ I h=>wpAny_Constant_int ⟨.int i,H,I.tok _,⟨_,rfl⟩,h⟩
theorem Qhn {b j pos}:PE X (.Constant (.bool b) j pos) (tC (.bl b)):=fun _ _ _ H _ I h=>Constant_bool ⟨.bl b,H,I,rfl,h⟩
theorem QfY {j pos}:PE X (.Constant .none j pos) (tC .non):=fun _ _ _ H _ I h=>Constant_none ⟨.non,H,I,rfl,h⟩
theorem Qf1 {x j pos}:PE X (.Constant (.str x) j pos) (tC (.str x)):=fun _ _ _ H _ I h=>Calls.Constant_str ⟨.str x,H,I.tok _,⟨_,rfl⟩,h⟩
def Gl (X:Cx) (x:Str):Prop:=X.env.kindOf x=some .globalImplicit
theorem Gp {E:Value->Shared->Prop} {pins:List (Addr×Obj)} {s:Shared} {σ:St} {H:Hp} {x:Str} {u:Value} {pos:Pos} {Q:Value->Shared->Prop} (I:Inv X pins σ H s) (hg:Gl X x) (hm:X.mg x=some u) (h:Q u s)
  (hd:(x==("__debug__" : Str))=false:=by decide):wpAny (model X.prog X.w) X.A (eval (.Name x pos) X.env) Q E s :=
 Calls.Name_function_global I.ok.kind hg (Calls.loadGlobal_global (by rw [I.ok.glob];exact I.mod.glob.keeps I.bk) hm h) hd
theorem yb {E:Value->Shared->Prop} {pins:List (Addr×Obj)} {s:Shared} {σ:St} {H:Hp} {x:Str} {u:Value} {pos:Pos} {Q:Value->Shared->Prop} (I:Inv X pins σ H s) (hg:Gl X x) (hm:X.mg x=none) (hv:bootBuiltins x=some u) (h:Q u s)
  (hn:x ≠ "__name__" := by decide) (hd:(x==("__debug__" : Str))=false:=by decide):wpAny (model X.prog X.w) X.A (eval (.Name x pos) X.env) Q E s:=by
 obtain ⟨mb,h1,h2⟩:=I.mod.blt
 exact Calls.Name_function_global I.ok.kind hg (Calls.loadGlobal_builtin (by rw [I.ok.glob];exact I.mod.glob.keeps I.bk) hm (by rw [I.ok.blt];exact h1.keeps I.bk) ((h2 x hn).trans hv) h) hd
theorem kG {x:Str} {v:V} {u:Value} {pos:Pos} (hg:Gl X x) (hm:X.mg x=some u) (r:RelV v u) (hd:(x==("__debug__" : Str))=false:=by decide):PE X (.Name x pos) (tC v) :=
 fun _ _ _ H _ I h=>Gp I hg hm ⟨v,H,I,r,h⟩ hd
theorem kF {x:Str} {v:V} {u:Value} {pos:Pos} (hg:Gl X x) (hm:X.mg x=none) (hv:bootBuiltins x=some u) (r:RelV v u) (hn:x ≠ "__name__" := by decide) (hd:(x==("__debug__" : Str))=false:=by decide):PE X (.Name x pos) (tC v) :=
 fun _ _ _ H _ I h=>yb I hg hm hv ⟨v,H,I,r,h⟩ hn hd
variable {a b:Expr} {ta tb:TE} {pos:Pos}
def PC (X:Cx) (op:CmpOp) (a b:Expr) (t:TE):Prop :=
  ∀ (pins : List (Addr × Obj)) (s : Shared) (σ : St) (H : Hp) (Q : VK), Inv X pins σ H s -> t σ H Q ->
    wpAny (model X.prog X.w) X.A (eval a X.env) (fun v s₁=>wpAny (model X.prog X.w) X.A (eval b X.env) (fun u s₂=>wpAny (model X.prog X.w) X.A (compareOp op v u) (EP X pins σ Q) X.xe s₂) X.xe s₁) X.xe s
theorem Qcf (b:Expr) {op:CmpOp} (h:op≠.In) (h2:op≠.NotIn):behindInMarks op b=false:=by
 have e1:(op==CmpOp.In)=false:=by cases op<;>first | rfl | exact absurd rfl h
 have e2:(op==CmpOp.NotIn)=false:=by cases op<;>first | rfl | exact absurd rfl h2
 cases b<;>simp [behindInMarks,e1,e2]
def tB (t:TE):TT:=fun σ H Q=>t σ H fun x H1=>∃ c,x=.bl c/\Q c H1
theorem Qh9 {op:CmpOp} {t:TE} (h:PC X op a b t) (h1:behindInMarks op b=false:=by first | exact Qcf _ (by decide) (by decide) | rfl):PT X (.Compare a [op] [b] pos) (tB t):=by
 intro pins s σ H Q I hw
 refine wpAny_isTrue_Compare1 (thn (h pins s σ H _ I hw) fun v s1 h1=>thn h1 fun u s2 h2=>thn h2 fun c s3 ⟨x,H1,I1,r1,q1⟩=>?_) h1
 obtain ⟨d,rfl,q⟩:=q1
 cases r1
 exact wpAny_truthy_bool ⟨H1,I1,q⟩
theorem Qgi {e:Expr} {t:TE} (h:PE X e t) (he:∀ whole,isTrue e X.env whole=(do let v <- whole;standAt e.pos;holding [v] (truthy v)):=by intro _;rfl):PT X e (tB t):=by
 intro pins s σ H Q I hw
 refine isTrue_plain (thn (h pins s σ H _ I hw) fun v s1 ⟨x,H1,I1,r1,q1⟩=>?_) (he _)
 obtain ⟨d,rfl,q⟩:=q1
 cases r1
 exact wpAny_truthy_bool ⟨H1,I1,q⟩
variable {tA tB':TT} {rest:List Expr}
def Qih (t u:TT):TT:=fun σ H Q=>t σ H fun c H1=>if c=true then u σ H1 Q else Q false H1
def tOr (t u:TT):TT:=fun σ H Q=>t σ H fun c H1=>if c=true then Q true H1 else u σ H1 Q
def Qim (t:TT):TT:=fun σ H Q=>t σ H fun c H1=>Q (!c) H1
theorem Qek (ha:PT X a tA):PW X (.BoolOp .And [a] pos) tA:=by
 intro wh pins s σ H Q I h
 refine isTrue_and (thn (ha pins s σ H Q I h) fun c s1 e=>?_)
 cases c with
 | true=>exact isTrue_and_nil e
 | false=>exact e
theorem Qgl (ha:PT X a tA):PW X (.BoolOp .Or [a] pos) tA:=by
 intro wh pins s σ H Q I h
 refine isTrue_or (thn (ha pins s σ H Q I h) fun c s1 e=>?_)
 cases c with
 | false=>exact isTrue_or_nil e
 | true=>exact e
theorem Qgk (ha:PT X a tA) (hb:PW X (.BoolOp .And (b::rest) pos) tB'):PW X (.BoolOp .And (a::b::rest) pos) (Qih tA tB'):=by
 intro wh pins s σ H Q I h
 refine isTrue_and (thn (ha pins s σ H _ I h) fun c s1 ⟨H1,I1,q1⟩=>?_)
 cases c with
 | true=>exact hb wh pins s1 σ H1 Q I1 q1
 | false=>exact ⟨H1,I1,q1⟩
theorem Qhs (ha:PT X a tA) (hb:PW X (.BoolOp .Or (b::rest) pos) tB'):PW X (.BoolOp .Or (a::b::rest) pos) (tOr tA tB'):=by
 intro wh pins s σ H Q I h
 refine isTrue_or (thn (ha pins s σ H _ I h) fun c s1 ⟨H1,I1,q1⟩=>?_)
 cases c with
 | true=>exact ⟨H1,I1,q1⟩
 | false=>exact hb wh pins s1 σ H1 Q I1 q1
theorem Qgh (ha:PT X a tA):PT X (.UnaryOp .Not a pos) (Qim tA):=by
 intro pins s σ H Q I h
 exact isTrue_not (ha pins s σ H (fun c H1=>Q (!c) H1) I h)
def QhB (ta tb:TE):TE:=fun σ H Q=>ta σ H fun x H1=>∃ c,x=.bl c/\if c=true then tb σ H1 Q else Q (.bl false) H1
def QhH (ta:TE):TE:=fun σ H Q=>ta σ H fun x H1=>∃ c,x=.bl c/\Q (.bl (!c)) H1
theorem Qf0 {op} {t:TE} (h:PE X a t):PE X (.BoolOp op [a] pos) t:=fun pins s σ H Q I hw=>BoolOp_one (h pins s σ H Q I hw)
theorem QfV (ha:PE X a ta) (hb:PE X (.BoolOp .And (b::rest) pos) tb):PE X (.BoolOp .And (a::b::rest) pos) (QhB ta tb):=by
 intro pins s σ H Q I h
 refine BoolOp_and (thn (ha pins s σ H _ I h) fun v s1 ⟨x,H1,I1,r1,q1⟩=>?_)
 obtain ⟨c,rfl,q1⟩:=q1
 cases r1
 refine wpAny_truthy_bool ?_
 cases c with
 | true=>exact hb pins s1 σ H1 Q I1 q1
 | false=>exact ⟨.bl false,H1,I1,rfl,q1⟩
theorem QfZ (ha:PE X a ta):PE X (.UnaryOp .Not a pos) (QhH ta):=by
 intro pins s σ H Q I h
 refine UnaryOp_ (thn (ha pins s σ H _ I h) fun v s1 ⟨x,H1,I1,r1,q1⟩=>?_)
 obtain ⟨c,rfl,q1⟩:=q1
 cases r1
 exact not_of (wpAny_truthy_bool ⟨.bl (!c),H1,I1,rfl,q1⟩)
def tIf (t:TT) (ta tb:TE):TE:=fun σ H Q=>t σ H fun c H1=>if c=true then ta σ H1 Q else tb σ H1 Q
theorem Qco {c:Expr} (hc:PT X c tA) (ha:PE X a ta) (hb:PE X b tb):PE X (.IfExp c a b pos) (tIf tA ta tb):=by
 intro pins s σ H Q I h
 refine wpAny_IfExp (thn (hc pins s σ H _ I h) fun d s1 ⟨H1,I1,q1⟩=>?_)
 cases d with
 | true=>exact ha pins s1 σ H1 Q I1 q1
 | false=>exact hb pins s1 σ H1 Q I1 q1
end
end L2
namespace L2
open PySem PySem.Spec PyProof.Rows
def SqL (K:PySem.W.Frag) (H:Hp) (a:Addr) (xs:List V):Prop :=
 Rd H a (.lst xs) ∨
  ∃ (o:Obj) (its:Array Value) (n:Nat),K.lookup a=some o/\o.cls=.type "list" /\ o.dict=none/\o.data=.seq its n/\its.size<=sizeLine/\Vals xs its.toList
def SqT (K:PySem.W.Frag) (H:Hp) (a:Addr) (xs:List V):Prop :=
 Rd H a (.tup xs) ∨
  ∃ (o:Obj) (its:Array Value) (n:Nat),K.lookup a=some o/\o.cls=.type "tuple" /\ o.data=.seq its n/\its.size<=sizeLine/\Vals xs its.toList
def QhW:Value->Option V
 | .none=>some .non
 | .bool b=>some (.bl b)
 | .int i _=>some (.int i)
 | .str x _=>some (.str x)
 | .bytes b _=>some (.byt b)
 | .float b _=>some (.flt b)
 | .ref a=>some (.ref a)
 | .type n=>some (.ty n)
 | _=>none
theorem RelV.abs {x:V} {u:Value} (r:RelV x u):QhW u=some x:=by
 cases x with
 | non=>cases r;rfl
 | bl _=>cases r;rfl
 | int _=>obtain ⟨t,rfl⟩:=r;rfl
 | str _=>obtain ⟨t,rfl⟩:=r;rfl
 | byt _=>obtain ⟨t,rfl⟩:=r;rfl
 | flt _=>obtain ⟨t,rfl⟩:=r;rfl
 | ref _=>cases r;rfl
 | ty _=>cases r;rfl
theorem RelV.inj {x y:V} {u:Value} (r:RelV x u) (q:RelV y u):x=y:=Option.some.inj (r.abs.symm.trans q.abs)
theorem Vals.inj:∀ {xs ys:List V} {us:List Value},Vals xs us->Vals ys us->xs=ys
 | _,_,_,.nil,.nil=>rfl
 | _,_,_,.cons r t,.cons r' t'=>by rw [r.inj r',Vals.inj t t']
section
variable {X:Cx} {pins:List (Addr×Obj)} {σ:St} {H:Hp} {s:Shared} {a:Addr} {xs ys:List V}
theorem SqL.of {K:PySem.W.Frag} (h:H a=some (.lst xs)):SqL K H a xs:=.inl (.inl h)
theorem SqT.of {K:PySem.W.Frag} (h:H a=some (.tup xs)):SqT K H a xs:=.inl (.inl h)
theorem Inv.list (I:Inv X pins σ H s) (h:SqL X.K H a xs):∃ its:List Value,Vals xs its/\PlainL s.heap a its.toArray/\xs.length<=sizeLine:=by
 rcases h with h | ⟨o,its,n,hk,hc,hd,hs,hz,r⟩
 ·obtain ⟨z,its,n,r,e⟩:=h.ok I.hok
  exact ⟨its,r,⟨_,n,e,rfl,rfl,rfl⟩,z⟩
 ·refine ⟨its.toList,r,⟨o,n,I.kIn a o hk,hc,hd,by simpa using hs⟩,?_⟩
  have e:=r.length
  simp only [Array.length_toList] at e
  omega
theorem Inv.tuple (I:Inv X pins σ H s) (h:SqT X.K H a xs):∃ its:List Value,Vals xs its/\IsTup s.heap a its.toArray/\xs.length<=sizeLine:=by
 rcases h with h | ⟨o,its,n,hk,hc,hs,hz,r⟩
 ·obtain ⟨z,its,r,p⟩:=h.ok I.hok
  exact ⟨its,r,p,z⟩
 ·refine ⟨its.toList,r,⟨o,I.kIn a o hk,hc,n,by simpa using hs⟩,?_⟩
  have e:=r.length
  simp only [Array.length_toList] at e
  omega
theorem Inv.list_inj (I:Inv X pins σ H s) (h:SqL X.K H a xs) (h':SqL X.K H a ys):xs=ys:=by
 obtain ⟨its,r,⟨o,n,e,_,_,d⟩,_⟩:=I.list h
 obtain ⟨its',r',⟨o',n',e',_,_,d'⟩,_⟩:=I.list h'
 rw [e] at e';cases e'
 rw [d] at d'
 injection d' with d1 _
 have:its=its':=by simpa using congrArg Array.toList d1
 subst this
 exact r.inj r'
theorem Inv.tuple_inj (I:Inv X pins σ H s) (h:SqT X.K H a xs) (h':SqT X.K H a ys):xs=ys:=by
 obtain ⟨its,r,⟨o,e,_,n,d⟩,_⟩:=I.tuple h
 obtain ⟨its',r',⟨o',e',_,n',d'⟩,_⟩:=I.tuple h'
 rw [e] at e';cases e'
 rw [d] at d'
 injection d' with d1 _
 have:its=its':=by simpa using congrArg Array.toList d1
 subst this
 exact r.inj r'
end
abbrev Cx.wish (X:Cx) (E:Value->Shared->Prop):Cx:={ X with xe:=E }
abbrev Cx.nox (X:Cx):Cx:=X.wish fun _ _=>False
theorem Cx.Ok.wish {X:Cx} (ok:X.Ok) (E:Value->Shared->Prop):(X.wish E).Ok :=
 ⟨ok.mod,ok.kind,ok.glob,ok.blt,ok.above,ok.inj,ok.has,ok.cab,ok.hd,ok.frames,ok.stk,ok.exf,ok.bs,ok.bsz,ok.noex,ok.exfs,ok.funs,ok.frf⟩
theorem Cx.Ok.unwish {X:Cx} {E:Value->Shared->Prop} (ok:(X.wish E).Ok):X.Ok :=
 ⟨ok.mod,ok.kind,ok.glob,ok.blt,ok.above,ok.inj,ok.has,ok.cab,ok.hd,ok.frames,ok.stk,ok.exf,ok.bs,ok.bsz,ok.noex,ok.exfs,ok.funs,ok.frf⟩
section
variable {X:Cx} {pins:List (Addr×Obj)} {σ:St} {H:Hp} {s:Shared} {E:Value->Shared->Prop}
theorem Inv.wish (I:Inv X pins σ H s) (E:Value->Shared->Prop):Inv (X.wish E) pins σ H s:=⟨I.ok.wish E,I.os,I.bare,I.base,I.loc,I.cell,I.free,I.freeC,I.pin,I.hok,I.len⟩
theorem Inv.unwish (I:Inv (X.wish E) pins σ H s):Inv X pins σ H s:=⟨I.ok.unwish,I.os,I.bare,I.base,I.loc,I.cell,I.free,I.freeC,I.pin,I.hok,I.len⟩
theorem SP.unwish {D:KF} {f:Flow} {s':Shared} (h:SP (X.wish E) pins D f s'):SP X pins D f s':=by
 cases f with
 | next=>obtain ⟨σ',H',I,q⟩:=h;exact ⟨σ',H',I.unwish,q⟩
 | brk=>obtain ⟨σ',H',I,q⟩:=h;exact ⟨σ',H',I.unwish,q⟩
 | cont=>obtain ⟨σ',H',I,q⟩:=h;exact ⟨σ',H',I.unwish,q⟩
 | ret u=>obtain ⟨v,σ',H',I,r,q⟩:=h;exact ⟨v,σ',H',I.unwish,r,q⟩
theorem PSs.nox {st:List Stmt} {t:TS} (h:PSs X.nox st t):PSs X st t:=fun pins s σ H D I hw =>
 wpAny_mono (h pins s σ H D (I.wish _) hw) (fun _ _ q=>q.unwish) fun _ _ z=>False.elim z
end
section
variable {X:Cx} {st:Stmt} {rest:List Stmt} {t u:TS} {e:Expr} {te:TE} {pos:Pos}
def QhF:TS:=fun D σ H=>D.nx σ H
def QhK (t u:TS):TS:=fun D σ H=>t { D with nx:=u D } σ H
theorem pss_nil:PSs X [] QhF:=fun _ _ σ H _ I h=>wpAny_execs_nil ⟨σ,H,I,h⟩
theorem Qcz (h1:PS X st t) (h2:PSs X rest u):PSs X (st::rest) (QhK t u):=by
  intro pins s σ H D I h
  refine wpAny_execs_cons (thn (h1 pins s σ H { D with nx:=u D } I h) fun f s1 q=>?_)
  cases f with
  | next =>
    obtain ⟨σ',H',I',q⟩:=q
    exact h2 pins s1 σ' H' D I' q
  | ret v=>exact q
  | brk=>exact q
  | cont=>exact q
theorem Qef (h1:PS X st t):PSs X [st] t:=by
 intro pins s σ H D I h
 refine wpAny_execs_cons (thn (h1 pins s σ H D I h) fun f s1 q=>?_)
 cases f with
 | next=>exact wpAny_execs_nil q
 | ret v=>exact q
 | brk=>exact q
 | cont=>exact q
theorem Inv.quiet {pins:List (Addr×Obj)} {σ:St} {H:Hp} {s:Shared} (I:Inv X pins σ H s):interactive X.env=false:=by simp [interactive,I.ok.kind]
def QhE (te:TE):TS:=fun D σ H=>te σ H fun _ H1=>D.nx σ H1
theorem Qee (he:PE X e te) (hs:swapsWith e none pos.line X.env=pure false:=by rfl):PS X (.Expr e pos) (QhE te):=by
 intro pins s σ H D I h
 exact wpAny_Expr_any (thn (he pins s σ H _ I h) fun v s1 ⟨x,H1,I1,r1,q1⟩=>⟨σ,H1,I1,q1⟩) I.quiet hs
def Qin (te:TE):TS:=fun D σ H=>te σ H D.rt
theorem Qgf (he:PE X e te):PS X (.Return (some e) pos) (Qin te):=by
 intro pins s σ H D I h
 exact wpAny_Return_some (thn (he pins s σ H _ I h) fun v s1 ⟨x,H1,I1,r1,q1⟩=>⟨x,σ,H1,I1,r1,q1⟩)
def QhJ:TS:=fun D _ H=>D.rt .non H
theorem ps_retN:PS X (.Return none pos) QhJ:=fun _ _ σ H _ I h=>wpAny_Return_none ⟨.non,σ,H,I,rfl,h⟩
def Qik (c:TT) (t u:TS):TS:=fun D σ H=>c σ H fun b H1=>if b=true then t D σ H1 else u D σ H1
theorem Qhr {c:Expr} {a b:List Stmt} {tc:TT} (hc:PT X c tc) (ha:PSs X a t) (hb:PSs X b u):PS X (.If c a b pos) (Qik tc t u):=by
 intro pins s σ H D I h
 refine wpAny_If (thn (hc pins s σ H _ I h) fun d s1 ⟨H1,I1,q1⟩=>?_)
 cases d with
 | true=>exact ha pins s1 σ H1 D I1 q1
 | false=>exact hb pins s1 σ H1 D I1 q1
def Qgr:TS:=fun _ _ _=>False
theorem Qcx:PS X st Qgr:=fun _ _ _ _ _ _ h=>h.elim
end
abbrev TG:=V->St->Hp->(St->Hp->Prop)->Prop
abbrev TGs:=List V->St->Hp->(St->Hp->Prop)->Prop
def PG (X:Cx) (target:Expr) (t:TG):Prop :=
  ∀ (pins : List (Addr × Obj)) (s : Shared) (σ : St) (H : Hp) (v : V) (u : Value) (Q : St -> Hp -> Prop), Inv X pins σ H s -> RelV v u -> t v σ H Q ->
    wpAny (model X.prog X.w) X.A (assign target X.env u) (fun _ s'=>∃ σ' H',Inv X pins σ' H' s'/\Q σ' H') X.xe s
def PGs (X:Cx) (ts:List Expr) (t:TGs):Prop :=
  ∀ (pins : List (Addr × Obj)) (s : Shared) (σ : St) (H : Hp) (vs : List V) (us : List Value) (Q : St -> Hp -> Prop), Inv X pins σ H s -> Vals vs us -> t vs σ H Q ->
    wpAny (model X.prog X.w) X.A (assignInOrder ((assignEach ts X.env).map (·.2)) us) (fun _ s'=>∃ σ' H',Inv X pins σ' H' s'/\Q σ' H') X.xe s
abbrev Qdf:=V->V->V->Hp->(Hp->Prop)->Prop
def Qde (X:Cx) (t:Qdf):Prop :=
  ∀ (pins : List (Addr × Obj)) (s : Shared) (σ : St) (H : Hp) (o i v : V) (ov iv u : Value) (Q : Hp -> Prop), Inv X pins σ H s -> RelV o ov -> RelV i iv -> RelV v u -> t o i v H Q ->
    wpAny (model X.prog X.w) X.A (setItem ov iv u) (fun _ s'=>∃ H',Inv X pins σ H' s'/\Q H') X.xe s
section
variable {X:Cx} {pos:Pos}
def gW (i:Nat):TG:=fun v σ H Q=>Q (σ.set i (some v)) H
theorem Gv {i:Nat} {x:Str} (hN:X.N.Nodup) (hi:X.N[i]?=some x) (hx:Loc X.env.scope x) (hf:X.fn x=true∨X.env.scope.names.lookup x=some .local:=by first | exact .inl rfl | exact .inr rfl | assumption):PG X (.Name x pos) (gW i):=by
 intro pins s σ H v u Q I r h
 exact wpAny_assign_Name (vW I hN hi hx r (fun s' I'=>⟨_,H,I',h⟩) hf)
def QhZ:TGs:=fun vs σ H Q=>vs=[]/\Q σ H
def Qg1 (t:TG) (u:TGs):TGs:=fun vs σ H Q=>∃ v r,vs=v::r/\t v σ H fun σ' H'=>u r σ' H' Q
theorem Qd3:PGs X [] QhZ:=by
 intro pins s σ H vs us Q I r h
 obtain ⟨e,h⟩:=h
 subst e
 cases r
 exact assignInOrder_nil ⟨σ,H,I,h⟩
theorem Qcv {e:Expr} {es:List Expr} {t:TG} {u:TGs} (h1:PG X e t) (h2:PGs X es u)
    (hs:(assignEach (e::es) X.env).map (·.2)=assign e X.env::(assignEach es X.env).map (·.2):=by rfl):PGs X (e::es) (Qg1 t u):=by
  intro pins s σ H vs us Q I r h
  obtain ⟨v,vr,e1,h⟩:=h
  subst e1
  cases r with
  | cons r rr =>
    rw [hs]
    refine assignInOrder_cons (thn (h1 pins s σ H _ _ _ I r h) fun _ s1 ⟨σ1,H1,I1,q1⟩=>?_)
    exact h2 pins s1 σ1 H1 _ _ Q I1 rr q1
def Qh1 (K:PySem.W.Frag) (n:Nat) (t:TGs):TG:=fun v σ H Q=>∃ a xs,v=.ref a/\SqT K H a xs/\xs.length=n/\t xs σ H Q
theorem Qf9 {es:List Expr} {k:Nat} {t:TGs} {n:Nat} (hc:X.calm=true) (h:PGs X es t)
  (hn:(assignEach es X.env).length=n:=by rfl) (hst:(assignEach es X.env).findIdx? (·.1)=none:=by rfl):PG X (.Tuple es k pos) (Qh1 X.K n t):=by
 intro pins s σ H v u Q I r hw
 obtain ⟨a,xs,e1,hq,hl,hw⟩:=hw
 subst e1
 cases r
 obtain ⟨its,rv,ht,hz⟩:=I.tuple hq
 refine assign_Tuple_tuple (I.ok.hd hc) ht (by simp [hn,<- hl,rv.length]) hst fun h' hx=>?_
 have I1:Inv X pins σ H { s with heap:=h' }:=I.kept (t':=s.toks) fun b o e=>hx b o (Nat.ne_of_lt (Heap.lt_size e)) e
 exact h pins _ σ H xs _ Q I1 (by simpa using rv) hw
def Qh0 (to ti:TE) (t:Qdf):TG:=fun v σ H Q=>to σ H fun o H1=>ti σ H1 fun i H2=>t o i v H2 fun H3=>Q σ H3
theorem Qf8 {o i:Expr} {to ti:TE} {t:Qdf} (ho:PE X o to) (hi:PE X i ti) (hs:Qde X t)
  (ha:∀ v,assign (.Subscript o i pos) X.env v=(do
   let ov <- holding [v] (eval o X.env)
   let iv <- holding [v,ov] (eval i X.env)
   standAt pos
   holding [v,ov,iv] (setItem ov iv v)
   release [v,ov,iv] []):=by intro _;rfl):PG X (.Subscript o i pos) (Qh0 to ti t):=by
 intro pins s σ H v u Q I r h
 rw [ha]
 refine wpAny_bind (wpAny_holding (thn (ho pins s σ H _ I h) fun ov s1 ⟨x,H1,I1,r1,q1⟩=>?_))
 refine wpAny_bind (wpAny_holding (thn (hi pins s1 σ H1 _ I1 q1) fun iv s2 ⟨y,H2,I2,r2,q2⟩=>?_))
 refine wpAny_bind (wpAny_standAt (wpAny_bind (wpAny_holding (thn (hs pins s2 σ H2 x y v ov iv u _ I2 r1 r2 r q2) fun _ s3 ⟨H3,I3,q3⟩=>?_))))
 exact wpAny_release ⟨σ,H3,I3,q3⟩
def QeB (te:TE) (g:TG):TS:=fun D σ H=>te σ H fun x H1=>g x σ H1 D.nx
theorem Qgc {tg e:Expr} {te:TE} {g:TG} (he:PE X e te) (hg:PG X tg g) (hs:swapsWithSole [tg] e pos.line X.env=pure false:=by rfl) (hw:swappedStores [tg] e X.env=pure none:=by rfl)
  (h1:(assignEach [tg] X.env).map (·.2)=[assign tg X.env]:=by rfl):PS X (.Assign [tg] e pos) (QeB te g):=by
 intro pins s σ H D I h
 refine wpAny_Assign_stores (thn (he pins s σ H _ I h) fun v s1 ⟨x,H1,I1,r1,q1⟩=>?_) hs hw
 rw [h1]
 exact thn (hg pins s1 σ H1 x v _ I1 r1 q1) fun _ s2 q=>q
theorem Qgg {i:Nat} {x:Str} {e:Expr} {te:TE} {pos':Pos} (hN:X.N.Nodup) (hi:X.N[i]?=some x) (hx:Loc X.env.scope x) (he:PE X e te) (hs:swapsWith e (some (.Name x pos')) pos.line X.env=pure false:=by rfl) (hf:X.fn x=true∨X.env.scope.names.lookup x=some .local:=by first | exact .inl rfl | exact .inr rfl | assumption) :
  PS X (.Assign [.Name x pos'] e pos) (QeB te (gW i)):=by
 intro pins s σ H D I h
 refine wpAny_Assign_Name (thn (he pins s σ H _ I h) fun v s1 ⟨y,H1,I1,r1,q1⟩=>?_) hs
 exact vW I1 hN hi hx r1 (fun s2 I2=>⟨_,H1,I2,q1⟩) hf
end
section
variable {X:Cx} {pos:Pos}
def Qgs (c:TT) (tb:TS):TS:=fun D σ H=>∃ W:Nat->St->Hp->Prop,(∃ m,W m σ H)/\∀ m σ H,W m σ H ->
 c σ H fun b H1=>if b=true then ∃ N:St->Hp->Prop,(∀ σ' H',N σ' H'->∃ m',m' < m/\W m' σ' H')/\tb { D with nx:=N,ct:=N,bk:=D.nx } σ H1 else D.nx σ H1
theorem Qcy {c:Expr} {body:List Stmt} {tc:TT} {tb:TS} (hp:PassesOwn (model X.prog X.w) X.A X.env X.xe) (hc:PT X c tc) (hb:PSs X body tb):PS X (.While c body [] pos) (Qgs tc tb):=by
  intro pins s σ H D I h
  obtain ⟨W,⟨m0,w0⟩,turn⟩:=h
  refine wpAny_While (codeAny_whileLoop (fun n s'=>∃ σ' H',Inv X pins σ' H' s'/\W n σ' H') ?_ m0 ⟨σ,H,I,w0⟩)
  rintro n s1 ⟨σ1,H1,I1,w1⟩
  refine wpAny_passesOwn hp (thn (hc pins s1 σ1 H1 _ I1 (turn n σ1 H1 w1)) fun b s2 ⟨H2,I2,q2⟩=>?_)
  cases b with
  | true =>
    obtain ⟨N,hN,q2⟩:=q2
    rw [if_pos rfl]
    refine wpAny_passesOwn hp (thn (hb pins s2 σ1 H2 _ I2 q2) fun f s3 q3=>?_)
    cases f with
    | next =>
      obtain ⟨σ3,H3,I3,n3⟩:=q3
      obtain ⟨m',hm,w3⟩:=hN σ3 H3 n3
      exact ⟨m',hm,σ3,H3,I3,w3⟩
    | cont =>
      obtain ⟨σ3,H3,I3,n3⟩:=q3
      obtain ⟨m',hm,w3⟩:=hN σ3 H3 n3
      exact ⟨m',hm,σ3,H3,I3,w3⟩
    | brk=>exact q3
    | ret v=>exact q3
  | false =>
    rw [if_neg Bool.false_ne_true]
    exact wpAny_execs_nil ⟨σ1,H2,I2,q2⟩
end
structure It where
 go:Nat->Hp->Prop
 yld:Nat->Hp->V->Hp->Prop
 stop:Nat->Hp->Prop
def Uo (X:Cx) (pins:List (Addr×Obj)) (H:Hp) (b:Addr):Prop :=
 H b=none/\b≠X.env.locals/\b∉X.fs/\(b∈X.ex∨X.s₀.heap.objs.size<=b)/\(∀ x c,X.env.cells.lookup x=some c->c≠b)/\∀ p∈X.pn++pins,p.1≠b
theorem Inv.fpOk {X:Cx} {pins:List (Addr×Obj)} {σ:St} {H H':Hp} {s:Shared} {b:Addr} (I:Inv X pins σ H s) (hb:s.heap.objs.size<=b) (hn:H' b=none):Uo X pins H' b:=by
 refine ⟨hn,Nat.ne_of_gt (Nat.lt_of_lt_of_le I.lt hb),I.nofs hb,.inr (Nat.le_trans I.sz hb),fun x c e z=>?_,fun p hp z=>?_⟩
 ·obtain ⟨v,q⟩:=I.cell x c e
  exact absurd (Nat.lt_of_lt_of_le q.lt (by rw [z];exact hb)) (Nat.lt_irrefl _)
 ·exact absurd (Nat.lt_of_lt_of_le (Heap.lt_size (I.pin p hp).1) (by rw [z];exact hb)) (Nat.lt_irrefl _)
structure Qad (P:Program) (w:World) (K:PySem.W.Frag) (tg:Expr) (J:It) (fp:List Addr) (it:Addr) (tn:Nat->Heap->Prop):Prop where
 mem:it∈fp
 obj:∀ i h,tn i h->∀ b∈fp,∃ o,h.get? b=some o/\∀ v,o.data≠.cell v
 keep:∀ i h h',tn i h->(∀ b∈fp,∀ o,h.get? b=some o->h'.get? b=some o)->tn i h'
 item:∀ (X:Cx),X.prog=P->X.w=w->X.K=K->X.calm=true->∀ (i:Nat) (pins:List (Addr×Obj)) (s:Shared) (σ:St) (H:Hp) (E:Value->Shared->Prop),Inv X pins σ H s->(∀ b∈fp,Uo X pins H b)->tn i s.heap->J.go i H ->
  wpAny (model P w) X.A (pyNext (.ref it)) (fun r s1=>∃ u,r=some u /\
   wpAny (model P w) X.A (letOwnedTupleGo tg (.ref it) u) (fun _ s2=>∃ x H',Inv X pins σ H' s2/\RelV x u/\J.yld i H x H'/\tn (i+1) s2.heap/\∀ b∈fp,H' b=none) E s1) E s
 done:∀ (X:Cx),X.prog=P->X.w=w->X.K=K->X.calm=true->∀ (i:Nat) (pins:List (Addr×Obj)) (s:Shared) (σ:St) (H:Hp) (E:Value->Shared->Prop),Inv X pins σ H s->(∀ b∈fp,Uo X pins H b)->tn i s.heap->J.stop i H ->
  wpAny (model P w) X.A (pyNext (.ref it)) (fun r s1=>r=none/\Inv X pins σ H s1) E s
 self:∀ (A:Around) (i:Nat) (s:Shared) (Q:Value->Shared->Prop) (E:Value->Shared->Prop),tn i s.heap->Q (.ref it) s->wpAny (model P w) A (pyIter (.ref it)) Q E s
abbrev TI:=St->Hp->(It->Hp->Prop)->Prop
def PIE (X:Cx) (pins:List (Addr×Obj)) (σ:St) (tg:Expr) (R:It->Hp->Prop) (itv:Value) (s2:Shared):Prop :=
 ∃ (it:Addr) (fp:List Addr) (tn:Nat->Heap->Prop) (J:It) (H':Hp),itv=.ref it/\Inv X pins σ H' s2/\Qad X.prog X.w X.K tg J fp it tn/\tn 0 s2.heap/\(∀ b∈fp,Uo X pins H' b)/\R J H'
def PI (X:Cx) (tg iter:Expr) (wi:TI):Prop :=
  ∀ (pins : List (Addr × Obj)) (s : Shared) (σ : St) (H : Hp) (R : It -> Hp -> Prop), Inv X pins σ H s -> wi σ H R ->
    wpAny (model X.prog X.w) X.A (eval iter X.env) (fun v s1=>wpAny (model X.prog X.w) X.A (pyIter v) (PIE X pins σ tg R) X.xe s1) X.xe s
theorem QbL {M:Model} {A:Around} {E:Value->Shared->Prop} {s:Shared} {tg:Expr} {it:Addr} {u:Value} {o:Obj} {n:String} {vs:Array Value} {Q:Unit->Shared->Prop} (ho:s.heap.get? it=some o) (hc:o.cls=.type n) (hd:o.data=.fields vs)
    (hn:["enumerate", "zip", "dict_itemiterator", "dict_reverseitemiterator", "odict_iterator", "itertools.zip_longest", "itertools.pairwise"].contains n=false) (hQ:Q () s):wpAny M A (letOwnedTupleGo tg (.ref it) u) Q E s:=by
  unfold letOwnedTupleGo
  cases tg<;>first
    | exact wpAny_pure hQ
    | (cases u<;>first
        | exact wpAny_pure hQ
        | (refine wpAny_bind (wpAny_load ho ?_)
           rw [hc,hd]
           show wpAny M A (if (["enumerate", "zip", "dict_itemiterator", "dict_reverseitemiterator", "odict_iterator", "itertools.zip_longest", "itertools.pairwise"].contains n&&vs[0]?==some (rawInt _))=true then _ else _) Q E s
           rw [if_neg (by intro h;rw [hn,Bool.false_and] at h;cases h)]
           exact wpAny_pure hQ))
def Itl (K:PySem.W.Frag) (a:Addr):It :=
 ⟨fun i H=>∃ xs x,SqL K H a xs/\xs[i]?=some x,fun i H x H'=>H'=H/\∀ xs,SqL K H a xs->xs[i]?=some x,fun i H=>∃ xs,SqL K H a xs/\xs.length<=i⟩
def Itt (K:PySem.W.Frag) (a:Addr):It :=
 ⟨fun i H=>∃ xs x,SqT K H a xs/\xs[i]?=some x,fun i H x H'=>H'=H/\∀ xs,SqT K H a xs->xs[i]?=some x,fun i H=>∃ xs,SqT K H a xs/\xs.length<=i⟩
def Itr (lo:Int) (n:Nat):It:=⟨fun i _=>i < n,fun i H x H'=>H'=H/\x=.int (lo+i),fun i _=>n<=i⟩
theorem Qa6 {P:Program} {w:World} {K:PySem.W.Frag} {tg:Expr} (a it:Addr):Qad P w K tg (Itl K a) [it] it (fun i h=>h.IsListIter it a i) where
 mem:=by simp
 obj:=fun i h st b hb=>by
  have e:b=it:=by simpa using hb
  subst e
  obtain ⟨o,e,c,d⟩:=st
  exact ⟨o,e,fun v z=>by rw [d] at z;cases z⟩
 keep:=fun i h h' st k=>st.at fun o e=>k it (by simp) o e
 item:=by
  intro X hP hw hK hc i pins s σ H E I hf st hg
  subst hP hw hK
  obtain ⟨xs,x,hq,hx⟩:=hg
  obtain ⟨its,rv,p,hz⟩:=I.list hq
  obtain ⟨u,hu,ru⟩:=rv.get hx
  obtain ⟨f0,f1,f2,f3,f4,f5⟩:=hf it (by simp)
  refine wpAny_pyNext_list_item st p.isList (x:=u) (by simpa using hu) fun h' st' sb=>?_
  have I1:Inv X pins σ H { s with heap:=h' }:=I.turned (t':=s.toks) (fun b o hb e=>(sb.2 b hb).trans e) f0 f1 f3 f4 f5
  obtain ⟨o,e,c,d⟩:=id st'
  exact ⟨u,rfl,QbL (s:={ s with heap:=h' }) e c d (by decide) ⟨x,H,I1,ru,⟨rfl,fun ys hy=>by rw [I.list_inj hy hq];exact hx⟩,st',fun b hb=>(hf b hb).1⟩⟩
 done:=by
  intro X hP hw hK hc i pins s σ H E I hf st hg
  subst hP hw hK
  obtain ⟨xs,hq,hx⟩:=hg
  obtain ⟨its,rv,p,hz⟩:=I.list hq
  obtain ⟨f0,f1,f2,f3,f4,f5⟩:=hf it (by simp)
  have hl:=rv.length
  exact wpAny_pyNext_list_end (I.ok.hd hc) st p.isList (by simp;omega) fun h' eb=>⟨rfl,I.turned (t':=s.toks) (fun b o hb e=>eb b o hb e) f0 f1 f3 f4 f5⟩
 self:=fun _ _ _ _ _ st h=>wpAny_pyIter_listiter st h
theorem gt {P:Program} {w:World} {K:PySem.W.Frag} {tg:Expr} (a it:Addr):Qad P w K tg (Itt K a) [it] it (fun i h=>h.IsTupleIter it a i) where
 mem:=by simp
 obj:=fun i h st b hb=>by
  have e:b=it:=by simpa using hb
  subst e
  obtain ⟨o,e,c,d⟩:=st
  exact ⟨o,e,fun v z=>by rw [d] at z;cases z⟩
 keep:=fun i h h' st k=>st.at fun o e=>k it (by simp) o e
 item:=by
  intro X hP hw hK hc i pins s σ H E I hf st hg
  subst hP hw hK
  obtain ⟨xs,x,hq,hx⟩:=hg
  obtain ⟨its,rv,p,hz⟩:=I.tuple hq
  obtain ⟨u,hu,ru⟩:=rv.get hx
  obtain ⟨f0,f1,f2,f3,f4,f5⟩:=hf it (by simp)
  refine wpAny_pyNext_tuple_item st (show s.heap.IsTuple a its.toArray from p) (x:=u) (by simpa using hu) fun h' st' sb=>?_
  have I1:Inv X pins σ H { s with heap:=h' }:=I.turned (t':=s.toks) (fun b o hb e=>(sb.2 b hb).trans e) f0 f1 f3 f4 f5
  obtain ⟨o,e,c,d⟩:=id st'
  exact ⟨u,rfl,QbL (s:={ s with heap:=h' }) e c d (by decide) ⟨x,H,I1,ru,⟨rfl,fun ys hy=>by rw [I.tuple_inj hy hq];exact hx⟩,st',fun b hb=>(hf b hb).1⟩⟩
 done:=by
  intro X hP hw hK hc i pins s σ H E I hf st hg
  subst hP hw hK
  obtain ⟨xs,hq,hx⟩:=hg
  obtain ⟨its,rv,p,hz⟩:=I.tuple hq
  obtain ⟨f0,f1,f2,f3,f4,f5⟩:=hf it (by simp)
  have hl:=rv.length
  exact wpAny_pyNext_tuple_end (I.ok.hd hc) st (show s.heap.IsTuple a its.toArray from p) (by simp;omega) fun h' eb=>⟨rfl,I.turned (t':=s.toks) (fun b o hb e=>eb b o hb e) f0 f1 f3 f4 f5⟩
 self:=fun _ _ _ _ _ st h=>wpAny_pyIter_tupleiter st h
theorem gq {P:Program} {w:World} {K:PySem.W.Frag} {tg:Expr} (it:Addr) (lo:Int) (n:Nat):Qad P w K tg (Itr lo n) [it] it (fun i h=>IsRangeIter h it (lo+(i:Nat) * 1) ((n:Int) - (i:Nat)) 1) where
 mem:=by simp
 obj:=fun i h st b hb=>by
  have e:b=it:=by simpa using hb
  subst e
  exact ⟨_,st,fun v z=>by
   have z':Data.fields _=Data.cell v:=z
   cases z'⟩
 keep:=fun i h h' st k=>k it (by simp) _ st
 item:=by
  intro X hP hw hK hc i pins s σ H E I hf st hg
  subst hP hw hK
  obtain ⟨f0,f1,f2,f3,f4,f5⟩:=hf it (by simp)
  have W:=Walks.range (prog:=X.prog) (w:=X.w) (I.ok.hd hc) it lo 1 n
  refine W.item i s _ _ hg st fun v h' tk hv st' kk=>?_
  obtain ⟨t,rfl⟩:=hv
  have I1:Inv X pins σ H { s with heap:=h',toks:=tk }:=I.turned (fun b o hb e=>kk b o (by simpa using hb) e) f0 f1 f3 f4 f5
  refine ⟨_,rfl,QbL (s:={ s with heap:=h',toks:=tk }) (n := "range_iterator") st' rfl rfl (by decide) ⟨.int (lo+i),H,I1,⟨t,?_⟩,⟨rfl,rfl⟩,st',fun b hb=>(hf b hb).1⟩⟩
  rw [Int.mul_one]
 done:=by
  intro X hP hw hK hc i pins s σ H E I hf st hg
  subst hP hw hK
  obtain ⟨f0,f1,f2,f3,f4,f5⟩:=hf it (by simp)
  exact wpAny_pyNext_range_end (I.ok.hd hc) st (by have:n<=i:=hg;omega) fun h' eb=>⟨rfl,I.turned (t':=s.toks) (fun b o hb e=>eb b o hb e) f0 f1 f3 f4 f5⟩
 self:=fun _ _ _ _ _ st h=>wpAny_pyIter_rangeiter st h
end L2
namespace L2
open PySem PySem.Spec PyProof.Rows
section
variable {X:Cx} {tg:Expr}
def Qg2 (K:PySem.W.Frag) (tl:TE):TI:=fun σ H R=>tl σ H fun x H1=>∃ a,x=.ref a/\(∃ xs,SqL K H1 a xs)/\R (Itl K a) H1
def Qh3 (K:PySem.W.Frag) (tl:TE):TI:=fun σ H R=>tl σ H fun x H1=>∃ a,x=.ref a/\(∃ xs,SqT K H1 a xs)/\R (Itt K a) H1
theorem Qd6 {l:Expr} {tl:TE} (hl:PE X l tl):PI X tg l (Qg2 X.K tl):=by
 intro pins s σ H R I h
 refine thn (hl pins s σ H _ I h) fun v s1 ⟨x,H1,I1,r1,q1⟩=>?_
 obtain ⟨a,e,⟨xs,hq⟩,q⟩:=q1
 subst e
 cases r1
 obtain ⟨its,rv,p,hz⟩:=I1.list hq
 refine wpAny_pyIter_list p.isList ?_
 refine ⟨s1.heap.objs.size,[s1.heap.objs.size],_,_,H1,rfl,I1.kept (t':=s1.toks) fun b o e=>Heap.get?_push_of_some _ e,Qa6 a _,⟨_,Heap.get?_push_size _ rfl,rfl,rfl⟩,fun b hb=>?_,q⟩
 have e:b=s1.heap.objs.size:=by simpa using hb
 subst e
 exact I1.fpOk (Nat.le_refl _) (I1.hok.fresh (Nat.le_refl _))
theorem Qga {l:Expr} {tl:TE} (hl:PE X l tl):PI X tg l (Qh3 X.K tl):=by
 intro pins s σ H R I h
 refine thn (hl pins s σ H _ I h) fun v s1 ⟨x,H1,I1,r1,q1⟩=>?_
 obtain ⟨a,e,⟨xs,hq⟩,q⟩:=q1
 subst e
 cases r1
 obtain ⟨its,rv,p,hz⟩:=I1.tuple hq
 refine wpAny_pyIter_tuple (show s1.heap.IsTuple a its.toArray from p) ?_
 refine ⟨s1.heap.objs.size,[s1.heap.objs.size],_,_,H1,rfl,I1.kept (t':=s1.toks) fun b o e=>Heap.get?_push_of_some _ e,gt a _,⟨_,Heap.get?_push_size _ rfl,rfl,rfl⟩,fun b hb=>?_,q⟩
 have e:b=s1.heap.objs.size:=by simpa using hb
 subst e
 exact I1.fpOk (Nat.le_refl _) (I1.hok.fresh (Nat.le_refl _))
theorem QcD {pins:List (Addr×Obj)} {σ:St} {H:Hp} {s:Shared} {R:It->Hp->Prop} {E:Value->Shared->Prop} {lo hi:Int} {t u v:Tok} {tk:Nat} (I:Inv X pins σ H s) (h1:-(2 ^ 62)<=lo) (h2:lo < 2 ^ 62) (h3:-(2 ^ 62)<=hi) (h4:hi < 2 ^ 62)
  (q:R (Itr lo (hi - lo).toNat) H):wpAny (model X.prog X.w) X.A (pyIter (.ref s.heap.objs.size)) (PIE X pins σ tg R) E { s with heap:=s.heap.push { cls:=.type "range", data:=.fields #[.int lo t,.int hi u,.int 1 v] },toks:=tk }:=by
 refine wpAny_pyIter_range (IsRange.new ..) (small_one h1 h2 h3 h4) ?_
 have I1:Inv X pins σ H { s with heap:=s.heap.push { cls:=.type "range", data:=.fields #[.int lo t,.int hi u,.int 1 v] },toks:=tk }:=I.kept fun b o e=>Heap.get?_push_of_some _ e
 refine ⟨(s.heap.push { cls:=.type "range", data:=.fields #[.int lo t,.int hi u,.int 1 v] }).objs.size,[(s.heap.push { cls:=.type "range", data:=.fields #[.int lo t,.int hi u,.int 1 v] }).objs.size],_,_,H,rfl,
  I1.kept (t':=tk) fun b o e=>Heap.get?_push_of_some _ e,gq _ lo (hi - lo).toNat,?_,fun b hb=>?_,q⟩
 ·have e1:lo+((0:Nat):Int) * 1=lo:=by simp
  have e2:(((hi - lo).toNat:Nat):Int) - ((0:Nat):Int)=Builtin.Range.rangeSize lo hi 1:=by rw [rangeSize_one];split<;>omega
  show IsRangeIter _ _ (lo+((0:Nat):Int) * 1) ((((hi - lo).toNat:Nat):Int) - ((0:Nat):Int)) 1
  rw [e1,e2]
  exact Heap.get?_push_size _ rfl
 ·have e:b=(s.heap.push { cls:=.type "range", data:=.fields #[.int lo t,.int hi u,.int 1 v] }).objs.size:=by simpa using hb
  subst e
  exact I1.fpOk (Nat.le_refl _) (I1.hok.fresh (Nat.le_refl _))
def Qg3 (ta:TA):TI:=fun σ H R=>ta σ H fun vs H1=>∃ j:Int,vs=[.int j] /\ -(2 ^ 62)<=j/\j < 2 ^ 62/\R (Itr 0 j.toNat) H1
theorem QaW {a:Expr} {ta:TA} {p pos:Pos} (hg:Gl X "range") (hm:X.mg "range" = none) (ha:PA X [a] ta) (hs:starEach [a] X.env=[(false,eval a X.env)]:=by rfl):PI X tg (.Call (.Name "range" p) [a] [] pos) (Qg3 ta):=by
  intro pins s σ H R I h
  refine Call_ (yb I hg hm boot_range (PyProof.Rows.callWith_type1 (thn (ha pos pins s σ H _ I h) fun us s1 ⟨vs,H1,I1,r1,q1⟩=>?_) hs rfl))
  obtain ⟨j,e,q1,q2,q⟩:=q1
  subst e
  cases r1 with
  | cons r rr =>
    cases rr
    obtain ⟨t,rfl⟩:=r
    exact call_range_1 (QcD I1 (by omega) (by omega) q1 q2 (by simpa using q))
def Qij (wi:TI) (g:TG) (tb:TS):TS:=fun D σ H=>wi σ H fun J H1=>∃ W:Nat->Nat->St->Hp->Prop,(∃ m,W 0 m σ H1)/\∀ i m σ H,W i m σ H ->
 (J.stop i H/\D.nx σ H)∨(J.go i H/\∃ N:St->Hp->Prop,(∀ σ' H',N σ' H'->∃ m',m' < m/\W (i+1) m' σ' H')/\∀ x H',J.yld i H x H'->g x σ H' fun σ2 H2=>tb { D with nx:=N,ct:=N,bk:=D.nx } σ2 H2)
def VO (fp:List Addr) (h:Heap):List (Addr×Obj):=fp.filterMap fun b=>(h.get? b).map fun o=>(b,o)
theorem qH {fp:List Addr} {h:Heap} {b:Addr} {o:Obj} (hb:b∈fp) (e:h.get? b=some o):(b,o)∈VO fp h:=List.mem_filterMap.mpr ⟨b,hb,by rw [e];rfl⟩
theorem QaN {fp:List Addr} {h:Heap} {p:Addr×Obj} (hp:p∈VO fp h):p.1∈fp/\h.get? p.1=some p.2:=by
  obtain ⟨b,hb,e⟩:=List.mem_filterMap.mp hp
  cases q:h.get? b with
  | none=>rw [q] at e;cases e
  | some o =>
    rw [q] at e
    have e':(b,o)=p:=Option.some.inj e
    subst e'
    exact ⟨hb,q⟩
theorem Inv.pinned {pins:List (Addr×Obj)} {σ:St} {H:Hp} {s:Shared} {fp:List Addr} (I:Inv X pins σ H s) (hf:∀ b∈fp,Uo X pins H b) (ho:∀ b∈fp,∃ o,s.heap.get? b=some o/\∀ v,o.data≠.cell v):Inv X (pins++VO fp s.heap) σ H s :=
 I.pins_of fun p hp=>(List.mem_append.mp hp).elim (fun z=>I.pin p (List.mem_append_right _ z)) fun z=>by
  obtain ⟨hb,e⟩:=QaN z
  obtain ⟨f0,f1,f2,_⟩:=hf p.1 hb
  obtain ⟨o,e',d⟩:=ho p.1 hb
  rw [e] at e';cases e'
  exact ⟨e,f0,f1,f2,d⟩
theorem Inv.unpinned {pins pl:List (Addr×Obj)} {σ:St} {H:Hp} {s:Shared} (I:Inv X (pins++pl) σ H s):Inv X pins σ H s:=I.pins_of fun p hp=>I.pin p (List.mem_append_right _ (List.mem_append_left _ hp))
theorem Qge {iter:Expr} {body:List Stmt} {wi:TI} {g:TG} {tb:TS} {pos:Pos} (hp:PassesOwn (model X.prog X.w) X.A X.env X.xe) (hc:X.calm=true) (hi:PI X tg iter wi) (hg:PG X tg g) (hb:PSs X body tb)
  (hs:∀ x,foldedSetIterable iter X.env x=pure x:=by intro _;rfl):PS X (.For tg iter body [] pos) (Qij wi g tb):=by
 intro pins s σ H D I h
 refine wpAny_For (thn (hi pins s σ H _ I h) fun v s1 h1=>thn h1 fun itv s2 h2=>?_) hs
 obtain ⟨it,fp,tn,J,H2,e,I2,T,st2,f2,W,⟨m0,w0⟩,turn⟩:=h2
 subst e
 have stat:∀ {H':Hp},(∀ b∈fp,H' b=none)->∀ b∈fp,Uo X pins H' b:=fun hn b hb=>⟨hn b hb,(f2 b hb).2⟩
 refine codeAny_forLoop_any (fun n s'=>∃ i σ' H',Inv X pins σ' H' s'/\tn i s'.heap/\(∀ b∈fp,H' b=none)/\W i n σ' H') ?_ m0 ⟨0,σ,H2,I2,st2,fun b hb=>(f2 b hb).1,w0⟩
 rintro n s3 ⟨i,σ3,H3,I3,st3,fr3,w3⟩
 rcases turn i n σ3 H3 w3 with ⟨stop,qn⟩ | ⟨go,N,hN,step⟩
 ·refine wpAny_passesOwn hp (thn (T.done X rfl rfl rfl hc i pins s3 σ3 H3 X.xe I3 (stat fr3) st3 stop) fun r s4 ⟨hr,I4⟩=>?_)
  subst hr
  exact wpAny_execs_nil ⟨σ3,H3,I4,qn⟩
 ·refine wpAny_passesOwn hp (thn (T.item X rfl rfl rfl hc i pins s3 σ3 H3 X.xe I3 (stat fr3) st3 go) fun r s4 ⟨u,hr,h4⟩=>?_)
  subst hr
  refine wpAny_passesOwn hp (thn h4 fun _ s5 ⟨x,H5,I5,r5,y5,st5,fr5⟩=>?_)
  have I5':=I5.pinned (stat fr5) (T.obj _ _ st5)
  refine wpAny_passesOwn hp (thn (hg _ s5 σ3 H5 x u _ I5' r5 (step x H5 y5)) fun _ s6 ⟨σ6,H6,I6,q6⟩=>?_)
  refine wpAny_passesOwn hp (thn (hb _ s6 σ6 H6 _ I6 q6) fun f s7 q7=>?_)
  have again:∀ {σ7:St} {H7:Hp},Inv X (pins++VO fp s5.heap) σ7 H7 s7->N σ7 H7->∃ m,m < n/\∃ i σ' H',Inv X pins σ' H' s7/\tn i s7.heap/\(∀ b∈fp,H' b=none)/\W i m σ' H':=fun {σ7 H7} I7 n7=>by
   obtain ⟨m',hm,w7⟩:=hN σ7 H7 n7
   refine ⟨m',hm,i+1,σ7,H7,I7.unpinned,T.keep _ _ _ st5 fun b hb o e=>(I7.pin (b,o) (List.mem_append_right _ (List.mem_append_right _ (qH hb e)))).1,fun b hb=>?_,w7⟩
   obtain ⟨o,e,d⟩:=T.obj _ _ st5 b hb
   exact (I7.pin (b,o) (List.mem_append_right _ (List.mem_append_right _ (qH hb e)))).2.1
  cases f with
  | next=>obtain ⟨σ7,H7,I7,n7⟩:=q7;exact again I7 n7
  | cont=>obtain ⟨σ7,H7,I7,n7⟩:=q7;exact again I7 n7
  | brk=>obtain ⟨σ7,H7,I7,q7⟩:=q7;exact ⟨σ7,H7,I7.unpinned,q7⟩
  | ret v=>obtain ⟨x7,σ7,H7,I7,r7,q7⟩:=q7;exact ⟨x7,σ7,H7,I7.unpinned,r7,q7⟩
end
end L2
namespace L2
open PySem PySem.Spec PyProof.Rows
abbrev R2:=V->V->Hp->VK->Prop
def OpR (X:Cx) (f:Value->Value->Sem Value) (r:R2):Prop :=
  ∀ (pins : List (Addr × Obj)) (s : Shared) (σ : St) (H : Hp) (x y : V) (v u : Value) (Q : VK), Inv X pins σ H s -> RelV x v -> RelV y u -> r x y H Q ->
    wpAny (model X.prog X.w) X.A (f v u) (EP X pins σ Q) X.xe s
def UnR (X:Cx) (f:Value->Sem Value) (r:V->Hp->VK->Prop):Prop :=
  ∀ (pins : List (Addr × Obj)) (s : Shared) (σ : St) (H : Hp) (x : V) (v : Value) (Q : VK), Inv X pins σ H s -> RelV x v -> r x H Q ->
    wpAny (model X.prog X.w) X.A (f v) (EP X pins σ Q) X.xe s
def CallR (X:Cx) (f:Value) (r:List V->Hp->VK->Prop):Prop :=
  ∀ (pins : List (Addr × Obj)) (s : Shared) (σ : St) (H : Hp) (xs : List V) (us : List Value) (Q : VK), Inv X pins σ H s -> Vals xs us -> r xs H Q ->
    wpAny (model X.prog X.w) X.A (call f us) (EP X pins σ Q) X.xe s
def tOp (r:R2) (ta tb:TE):TE:=fun σ H Q=>ta σ H fun x H1=>tb σ H1 fun y H2=>r x y H2 Q
def tUn (r:V->Hp->VK->Prop) (ta:TE):TE:=fun σ H Q=>ta σ H fun x H1=>r x H1 Q
def rI (C:Int->Int->Prop) (g:Int->Int->V):R2:=fun x y H Q=>∃ i j,x=.int i/\y=.int j/\C i j/\Q (g i j) H
def rI0 (g:Int->Int->V):R2:=fun x y H Q=>∃ i j,x=.int i/\y=.int j/\Q (g i j) H
def rU (g:Int->V):V->Hp->VK->Prop:=fun x H Q=>∃ i,x=.int i/\Q (g i) H
section
variable {X:Cx} {a b c:Expr} {ta tb tc:TE} {pos:Pos}
theorem Qfa (ha:PE X a ta) (hb:PE X b tb) {pins:List (Addr×Obj)} {s:Shared} {σ:St} {H:Hp} {R:V->V->Hp->Prop} (I:Inv X pins σ H s)
  (h:ta σ H fun x H1=>tb σ H1 fun y H2=>R x y H2) {Q:Value->Shared->Prop} {f:Value->Value->Sem Value}
  (hf:∀ v u s2 x y H2,Inv X pins σ H2 s2->RelV x v->RelV y u->R x y H2->wpAny (model X.prog X.w) X.A (f v u) Q X.xe s2) :
  wpAny (model X.prog X.w) X.A (eval a X.env) (fun v s₁=>wpAny (model X.prog X.w) X.A (eval b X.env) (fun u s₂=>wpAny (model X.prog X.w) X.A (f v u) Q X.xe s₂) X.xe s₁) X.xe s:=by
 refine thn (ha pins s σ H _ I h) fun v s1 ⟨x,H1,I1,r1,q1⟩=>?_
 refine thn (hb pins s1 σ H1 _ I1 q1) fun u s2 ⟨y,H2,I2,r2,q2⟩=>?_
 exact hf v u s2 x y H2 I2 r1 r2 q2
theorem Qhp {op:Operator} {r:R2} (ho:OpR X (binaryOp op) r) (ha:PE X a ta) (hb:PE X b tb):PE X (.BinOp a op b pos) (tOp r ta tb):=by
 intro pins s σ H Q I h
 exact wpAny_BinOp (Qfa ha hb I h fun v u s2 x y H2 I2 rx ry q=>ho pins s2 σ H2 x y v u Q I2 rx ry q)
theorem Qhq {op:UnaryOp} {r:V->Hp->VK->Prop} (ho:UnR X (unaryOp op) r) (ha:PE X a ta):PE X (.UnaryOp op a pos) (tUn r ta):=by
 intro pins s σ H Q I h
 exact UnaryOp_ (thn (ha pins s σ H _ I h) fun v s1 ⟨x,H1,I1,r1,q1⟩=>ho pins s1 σ H1 x v Q I1 r1 q1)
theorem opI {f:Value->Value->Sem Value} {C:Int->Int->Prop} {g:Int->Int->Int}
  (rule:∀ (i j:Int) (t u:Tok) (s:Shared) (Q:Value->Shared->Prop) (E:Value->Shared->Prop),C i j->Q (.int (g i j) s.toks) { s with toks:=s.toks+1 }->wpAny (model X.prog X.w) X.A (f (.int i t) (.int j u)) Q E s) :
  OpR X f (rI C fun i j=>.int (g i j)):=by
 intro pins s σ H x y v u Q I rx ry h
 obtain ⟨i,j,rfl,rfl,hc,q⟩:=h
 obtain ⟨t,rfl⟩:=rx
 obtain ⟨t',rfl⟩:=ry
 exact rule i j t t' s _ _ hc ⟨.int (g i j),H,I.tok _,⟨_,rfl⟩,q⟩
theorem Qhe {f:Value->Value->Sem Value} {g:Int->Int->Int}
  (rule:∀ (i j:Int) (t u:Tok) (s:Shared) (Q:Value->Shared->Prop) (E:Value->Shared->Prop),Q (.int (g i j) s.toks) { s with toks:=s.toks+1 }->wpAny (model X.prog X.w) X.A (f (.int i t) (.int j u)) Q E s) :
  OpR X f (rI0 fun i j=>.int (g i j)):=by
 intro pins s σ H x y v u Q I rx ry h
 obtain ⟨i,j,rfl,rfl,q⟩:=h
 obtain ⟨t,rfl⟩:=rx
 obtain ⟨t',rfl⟩:=ry
 exact rule i j t t' s _ _ ⟨.int (g i j),H,I.tok _,⟨_,rfl⟩,q⟩
theorem QdP {f:Value->Value->Sem Value} {g:Int->Int->Bool}
  (rule:∀ (i j:Int) (t u:Tok) (s:Shared) (Q:Value->Shared->Prop) (E:Value->Shared->Prop),Q (.bool (g i j)) s->wpAny (model X.prog X.w) X.A (f (.int i t) (.int j u)) Q E s) :
  OpR X f (rI0 fun i j=>.bl (g i j)):=by
 intro pins s σ H x y v u Q I rx ry h
 obtain ⟨i,j,rfl,rfl,q⟩:=h
 obtain ⟨t,rfl⟩:=rx
 obtain ⟨t',rfl⟩:=ry
 exact rule i j t t' s _ _ ⟨.bl (g i j),H,I,rfl,q⟩
def QhS (i j:Int):Prop:=0 < j/\j < 1073741824
def QhT (i j:Int):Prop:=0<=j/\j<=1000000/\i.natAbs < 2 ^ 64
def CMul (i j:Int):Prop:=(-(2 ^ 64) < i/\i < 2 ^ 64)∨(-(2 ^ 64) < j/\j < 2 ^ 64)
theorem CMul.ok {i j:Int} (h:CMul i j):IntMulOk i j:=by
 rcases h with ⟨h1,h2⟩ | ⟨h1,h2⟩
 ·exact .of_left (intBits_le_64 h1 h2)
 ·exact .of_right (intBits_le_64 h1 h2)
theorem QfM:OpR X (binaryOp .Add) (rI0 fun i j=>.int (i+j)):=Qhe fun _ _ _ _ _ _ _ q=>add_int q
theorem QfR:OpR X (binaryOp .Sub) (rI0 fun i j=>.int (i - j)):=Qhe fun _ _ _ _ _ _ _ q=>sub_int q
theorem QfP:OpR X (binaryOp .Mult) (rI CMul fun i j=>.int (i * j)):=opI fun _ _ _ _ _ _ _ hc q=>mul_int q hc.ok
theorem QdR:OpR X (binaryOp .FloorDiv) (rI QhS fun i j=>.int (i / j)):=opI fun i j _ _ _ _ _ hc q=>by
 have h1:(0:Int) < j:=hc.1
 have h2:j < 1073741824:=hc.2
 exact floordiv_int (by omega) (by rw [Int.fdiv_eq_ediv_of_nonneg i (by omega)];exact q) (.inl (PyProof.noPylong_small (by omega)))
theorem QfO:OpR X (binaryOp .Mod) (rI (fun _ j=>0 < j) fun i j=>.int (i % j)):=opI fun i j _ _ _ _ _ hc q=>by
 have h1:(0:Int) < j:=hc
 exact mod_int' (by omega) (by rw [Int.fmod_eq_emod_of_nonneg i (by omega)];exact q)
theorem QfQ:OpR X (binaryOp .Pow) (rI QhT fun i j=>.int (i ^ j.toNat)):=opI fun _ _ _ _ _ _ _ hc q=>pow_int_small hc.1 hc.2.1 hc.2.2 q
theorem unI {f:Value->Sem Value} {g:Int->Int}
  (rule:∀ (i:Int) (t:Tok) (s:Shared) (Q:Value->Shared->Prop) (E:Value->Shared->Prop),Q (.int (g i) s.toks) { s with toks:=s.toks+1 }->wpAny (model X.prog X.w) X.A (f (.int i t)) Q E s) :
  UnR X f (rU fun i=>.int (g i)):=by
 intro pins s σ H x v Q I rx h
 obtain ⟨i,rfl,q⟩:=h
 obtain ⟨t,rfl⟩:=rx
 exact rule i t s _ _ ⟨.int (g i),H,I.tok _,⟨_,rfl⟩,q⟩
theorem Qgy:UnR X (unaryOp .USub) (rU fun i=>.int (-i)):=unI fun _ _ _ _ _ q=>neg_int q
end
section
variable {X:Cx} {a b c:Expr} {ta tb tc:TE} {pos:Pos}
theorem QbE {pins:List (Addr×Obj)} {σ:St} {H:Hp} {s:Shared} {Q:VK} {k k':Bool} (I:Inv X pins σ H s) (q:Q (.bl k) H) (e:k=k'):EP X pins σ Q (.bool k') s:=by
 subst e
 exact ⟨.bl k,H,I,rfl,q⟩
theorem Qhi:OpR X (compareOp .Lt) (rI0 fun i j=>.bl (decide (i < j))):=QdP fun _ _ _ _ _ _ _ q=>lt_int q
theorem Qhh:OpR X (compareOp .LtE) (rI0 fun i j=>.bl (decide (i<=j))):=QdP fun _ _ _ _ _ _ _ q=>le_int q
theorem Qhg:OpR X (compareOp .Gt) (rI0 fun i j=>.bl (decide (j < i))):=QdP fun _ _ _ _ _ _ _ q=>gt_int q
theorem Qhf:OpR X (compareOp .GtE) (rI0 fun i j=>.bl (decide (j<=i))):=QdP fun _ _ _ _ _ _ _ q=>ge_int q
theorem QfN:OpR X (compareOp .Is) (fun x y H Q=>y=.non/\Q (.bl (decide (x=.non))) H):=by
 intro pins s σ H x y v u Q I rx ry h
 obtain ⟨rfl,q⟩:=h
 cases ry
 refine is_none_gen (QbE I q ?_)
 cases x<;>first
  | (cases rx;rfl)
  | (obtain ⟨t,rfl⟩:=rx;rfl)
theorem QdT:OpR X (compareOp .IsNot) (fun x y H Q=>y=.non/\Q (.bl (!decide (x=.non))) H):=by
 intro pins s σ H x y v u Q I rx ry h
 obtain ⟨rfl,q⟩:=h
 cases ry
 refine isnot_none_gen (QbE I q ?_)
 cases x<;>first
  | (cases rx;rfl)
  | (obtain ⟨t,rfl⟩:=rx;rfl)
theorem QV (b:Expr) {op:CmpOp} (h:op≠.In:=by decide) (h2:op≠.NotIn:=by decide):behindInMarks op b=false:=by
 have e1:(op==CmpOp.In)=false:=by cases op<;>first | rfl | exact absurd rfl h
 have e2:(op==CmpOp.NotIn)=false:=by cases op<;>first | rfl | exact absurd rfl h2
 cases b<;>simp [behindInMarks,e1,e2]
theorem QdY {op:CmpOp} {r:R2} (ho:OpR X (compareOp op) r) (ha:PE X a ta) (hb:PE X b tb) (hm:behindInMarks op b=false):PE X (.Compare a [op] [b] pos) (tOp r ta tb):=by
 intro pins s σ H Q I h
 exact wpAny_Compare1 (Qfa ha hb I h fun v u s2 x y H2 I2 rx ry q=>ho pins s2 σ H2 x y v u Q I2 rx ry q) hm
def Qe3 (t:TE):TT:=fun σ H Q=>t σ H fun x H'=>∃ k,x=.bl k/\Q k H'
theorem Qeg {op:CmpOp} {r:R2} (ho:OpR X (compareOp op) r) (ha:PE X a ta) (hb:PE X b tb) (hm:behindInMarks op b=false):PT X (.Compare a [op] [b] pos) (Qe3 (tOp r ta tb)):=by
 intro pins s σ H Q I h
 refine wpAny_isTrue_Compare1 (thn (ha pins s σ H _ I h) fun v s1 ⟨x,H1,I1,r1,q1⟩=>thn (hb pins s1 σ H1 _ I1 q1) fun u s2 ⟨y,H2,I2,r2,q2⟩ =>
  thn (ho pins s2 σ H2 x y v u _ I2 r1 r2 q2) fun c s3 ⟨z,H3,I3,r3,k,e,q3⟩=>?_) hm
 subst e
 cases r3
 exact wpAny_truthy_bool ⟨H3,I3,q3⟩
def QcV (r r':R2) (ta tb tc:TE):TE:=fun σ H Q=>ta σ H fun x H1=>tb σ H1 fun y H2=>r x y H2 fun z H3=>∃ k,z=.bl k /\
 (if k=true then tc σ H3 fun w' H4=>r' y w' H4 Q else Q (.bl false) H3)
theorem QcA {op op':CmpOp} {r r':R2} (ho:OpR X (compareOp op) r) (ho':OpR X (compareOp op') r') (ha:PE X a ta) (hb:PE X b tb) (hc:PE X c tc)
    (hm:lastMarks [op,op'] [b,c]=false:=by with_unfolding_all rfl):PT X (.Compare a [op,op'] [b,c] pos) (Qe3 (QcV r r' ta tb tc)):=by
  intro pins s σ H Q I h
  refine isTrue_chain (thn (ha pins s σ H _ I h) fun v s1 ⟨x,H1,I1,r1,q1⟩=>test_link (thn (hb pins s1 σ H1 _ I1 q1) fun u s2 ⟨y,H2,I2,r2,q2⟩ =>
    thn (ho pins s2 σ H2 x y v u _ I2 r1 r2 q2) fun d s3 ⟨z,H3,I3,r3,k,e,q3⟩=>?_)) hm
  subst e
  cases r3
  refine wpAny_truthy_bool ?_
  cases k with
  | false =>
    obtain ⟨k',e',q'⟩:=q3
    cases e'
    exact ite_ff ⟨H3,I3,q'⟩
  | true =>
    refine ite_tt (test_last (thn (hc pins s3 σ H3 _ I3 q3) fun w' s4 ⟨z',H4,I4,r4,q4⟩=>thn (ho' pins s4 σ H4 y z' u w' _ I4 r2 r4 q4) fun d' s5 ⟨z2,H5,I5,r5,k2,e2,q5⟩=>?_))
    subst e2
    cases r5
    exact wpAny_truthy_bool ⟨H5,I5,q5⟩
theorem Gu:(sizeLine:Nat) < 2 ^ 63:=by rw [sizeLine_eq];decide
theorem Ui {x:V} {us:List Value} (r:Vals [x] us):∃ u,us=[u]/\RelV x u:=by
 cases r with
 | cons r1 r2=>cases r2;exact ⟨_,rfl,r1⟩
theorem v8 {x y:V} {us:List Value} (r:Vals [x,y] us):∃ u w',us=[u,w']/\RelV x u/\RelV y w':=by
  cases r with
  | cons r1 r2 =>
    cases r2 with
    | cons r3 r4=>cases r4;exact ⟨_,_,rfl,r1,r3⟩
theorem Qan (hc:X.calm=true):CallR X (.builtin "max") (fun xs H Q=>∃ i j,xs=[.int i,.int j]/\Q (.int (if j > i then j else i)) H):=by
 intro pins s σ H xs us Q I r h
 obtain ⟨i,j,rfl,q⟩:=h
 obtain ⟨u,w',rfl,⟨t,rfl⟩,⟨t',rfl⟩⟩:=v8 r
 refine max_two_ints (I.ok.hd hc) fun h' tk k=>⟨_,H,I.kept k,?_,q⟩
 by_cases hj:j > i
 ·rw [if_pos hj,if_pos hj];exact ⟨_,rfl⟩
 ·rw [if_neg hj,if_neg hj];exact ⟨_,rfl⟩
theorem Qao (hc:X.calm=true):CallR X (.builtin "min") (fun xs H Q=>∃ i j,xs=[.int i,.int j]/\Q (.int (if j < i then j else i)) H):=by
 intro pins s σ H xs us Q I r h
 obtain ⟨i,j,rfl,q⟩:=h
 obtain ⟨u,w',rfl,⟨t,rfl⟩,⟨t',rfl⟩⟩:=v8 r
 refine min_two_ints (I.ok.hd hc) fun h' tk k=>⟨_,H,I.kept k,?_,q⟩
 by_cases hj:j < i
 ·rw [if_pos hj,if_pos hj];exact ⟨_,rfl⟩
 ·rw [if_neg hj,if_neg hj];exact ⟨_,rfl⟩
end
end L2
namespace L2
open PySem PySem.Spec PyProof.Rows
structure ObjM (h:Heap) (x dx C:Addr) (mA:Str->Option Value):Prop where
 obj:h.get? x=some (PySem.W.instObj C dx)
 ns:h.Ns1 dx mA
 ne:dx≠x
theorem QaH {h:Heap} {dx:Addr} {mA:Str->Option Value} (n:h.Ns1 dx mA):∃ od,h.get? dx=some od/\∀ name,PySem.W.lookIn name od=some (mA name):=by
 obtain ⟨o,es,ep,ho,hd,hk,_,hm⟩:=n
 refine ⟨o,ho,fun name=>?_⟩
 have e:=hm name
 unfold nsFind findBy at e
 rw [<- Array.find?_toList] at e
 unfold PySem.W.lookIn
 rw [hd]
 dsimp only
 split
 ·rename_i y q
  rw [q] at e
  exact congrArg some e
 ·rename_i q
  rw [q] at e
  have a:es.toList.any (·.refKey)=false:=by
   rw [List.any_eq_false]
   intro y hy
   obtain ⟨z,t,hkey⟩:=hk y (Array.mem_toList_iff.mp hy)
   simp [DictEntry.refKey,hkey]
  have a':¬ es.toList.any (·.refKey)=true:=by rw [a];exact Bool.false_ne_true
  rw [if_neg a']
  exact congrArg some e
theorem ObjM.look {h:Heap} {x dx C:Addr} {mA:Str->Option Value} (I:ObjM h x dx C mA):∃ od,PySem.W.InstAt h x (PySem.W.instObj C dx) C (some od)/\∀ name,PySem.W.lookIn name od=some (mA name) :=
 let ⟨od,ho,hl⟩:=QaH I.ns
 ⟨od,⟨I.obj,rfl,rfl,ho⟩,hl⟩
section
variable {prog:Program} {w:World} {A:Around} {E:Value->Shared->Prop} {s:Shared} {K:PySem.W.Frag} {x dx C f:Addr} {mA:Str->Option Value} {name:Str} {v:Value}
theorem QdB {expr:Bool} {Q:Value->Shared->Prop} (X:K.In s.heap) (I:ObjM s.heap x dx C mA) (hg:PySem.W.plainGet K C name=true) (hh:PySem.W.hasDictIn K C=true)
  (ha:PySem.W.findIn K (.ref C) name=some none) (hv:mA name=some v) (hv':PySem.W.handedIn v=true) (h:Q v { s with toks:=s.toks+1 }) :
  wpAny (model prog w) A (getAttr (.ref x) name expr) Q E s:=by
 obtain ⟨od,J,hl⟩:=I.look
 exact PySem.W.get_value X J (PySem.W.plainGet_of hg).1 (PySem.W.findObj_own hh ha rfl (by rw [hl,hv])) hv' h
theorem QbK {pl:Sem Bool} {Q:Value×List Value->Shared->Prop} (X:K.In s.heap) (I:ObjM s.heap x dx C mA) (hg:PySem.W.plainGet K C name=true)
  (hf:PySem.W.findIn K (.ref C) name=some (some (.ref f))) (ht:PySem.W.isFn K (.ref f)=true) (hv:mA name=none) (h:Q (.ref f,[.ref x]) s) :
  wpAny (model prog w) A (getMethod (.ref x) name pl) Q E s:=by
 obtain ⟨od,J,hl⟩:=I.look
 exact PySem.W.method_fn X J (PySem.W.plainGet_of hg).1 (PySem.W.plainGet_of hg).2 hf (beq_iff_eq.mp ht) (by show (PySem.W.lookIn name od).map (·.isSome)=some false;rw [hl,hv];rfl) h
theorem Qew {ns:List Str} {Q:Unit->Shared->Prop} (X:K.In s.heap) (I:ObjM s.heap x dx C mA)
  (hs:PySem.W.findIn K (.ref C) "__setattr__" = some (some (.builtin "object.__setattr__"))) (hp:PySem.W.plainOver K C=true) (ht:PySem.W.takerIn K C name=some none) (hh:PySem.W.hasDictIn K C=true)
  (hw:PySem.Within mA ns) (hsz:ns.length<=sizeLine)
  (h:∀ h',ObjM h' x dx C (fun y=>if y=name then some v else mA y)->Heap.SameBut dx s.heap h'->Q () { s with heap:=h',toks:=s.toks+2 }) :
  wpAny (model prog w) A (setAttr (.ref x) name v) Q E s:=by
 obtain ⟨od,J,hl⟩:=I.look
 refine PySem.W.set_plain X J hs (PySem.W.osa_open (s:={ s with toks:=s.toks+1 }) (r:=none) X J hp ht fun b=>?_)
 obtain ⟨cd,hc,hd'⟩:=PySem.W.any_some hh
 have hx:s.heap.get? x=some ⟨.ref C,some dx,.plain,#[]⟩:=I.obj
 refine wpAny_bind (wpAny_pure (wpAny_bind (wpAny_bind (wpAny_loadPart hx (wpAny_bind (PySem.W.Looks.here (s:={ s with toks:=s.toks+1 }) (PySem.W.looks_clsIn X hc) ?_))))))
 rw [hd']
 refine wpAny_pure (a:=some dx) (wpAny_bind (wpAny_pure (wpAny_bind ?_)))
 refine wpAny_nsSet1 (s:={ s with toks:=s.toks+1 }) I.ns fun h' hn2 hs2=>?_
 obtain ⟨oD,esD,epD,hoD,hdD,hcD⟩:=hn2.count (PySem.Within.cons name v hw)
 refine wpAny_bind (wpAny_lookBehind hoD (by rw [hdD];exact pastItsLine_dict (Nat.le_trans hcD (by rw [List.length_cons];omega))) ?_)
 exact wpAny_pure (h _ ⟨(hs2.2 _ (Ne.symm I.ne)).trans I.obj,hn2,I.ne⟩ hs2)
theorem Qb7 {R:Result->Shared->Prop} {vs:List Value} {kw:List (Str×Value)} (X:K.In s.heap) (hm:PySem.W.makesIn K C=true)
  (hi:PySem.W.findIn K (.ref C) "__init__" = some (some (.ref f))) (hf:PySem.W.typeIn K (.ref f)=some (.type "function"))
  (h:codeAny (model prog w) (A.under (.builtin "type.__call__" ⟨.ref C::vs,kw⟩)) (.call (.ref f) ⟨.ref (s.heap.objs.size+1)::vs,kw⟩) (PySem.W.InitBack (s.heap.objs.size+1) R)
   { s with heap:=(s.heap.push PySem.W.emptyDict).push (PySem.W.instObj C s.heap.objs.size) }) :
  codeAny (model prog w) A (.call (.ref C) ⟨vs,kw⟩) R s:=by
 obtain ⟨hh,g,d,t,os⟩:=s
 exact PySem.W.make_core (PySem.W.makes_of X hm) (PySem.W.looks_findIn X hi) (fun self=>PySem.W.bind_fn X self hf) (.inl rfl) h
end
def YU (f:Str) (v:V):List (Str×V)->List (Str×V)
 | []=>[(f,v)]
 | (g,x)::r=>if g=f then (g,v)::r else (g,x)::YU f v r
theorem yv (f g:Str) (v:V):∀ fs:List (Str×V),(YU f v fs).lookup g=if g=f then some v else fs.lookup g
  | []=>by
    show List.lookup g [(f,v)]=_
    by_cases h:g=f
    . have hb:(g==f)=true:=beq_iff_eq.mpr h
      simp only [List.lookup,hb,if_pos h]
    . have hb:(g==f)=false:=beq_eq_false_iff_ne.mpr h
      simp only [List.lookup,hb,if_neg h]
  | (k,x)::r=>by
    have ih:=yv f g v r
    rw [show YU f v ((k,x)::r)=(if k=f then (k,v)::r else (k,x)::YU f v r) from rfl]
    by_cases hk:k=f
    . rw [if_pos hk]
      by_cases h:g=k
      . have hb:(g==k)=true:=beq_iff_eq.mpr h
        simp only [List.lookup,hb,if_pos (h.trans hk)]
      . have hb:(g==k)=false:=beq_eq_false_iff_ne.mpr h
        simp only [List.lookup,hb,if_neg (fun e:g=f=>h (e.trans hk.symm))]
    . rw [if_neg hk]
      by_cases h:g=k
      . have hb:(g==k)=true:=beq_iff_eq.mpr h
        simp only [List.lookup,hb,if_neg (fun e:g=f=>hk (h.symm.trans e))]
      . have hb:(g==k)=false:=beq_eq_false_iff_ne.mpr h
        simp only [List.lookup,hb]
        exact ih
theorem ya (f:Str) (v:V):∀ fs:List (Str×V),f∈(YU f v fs).map (·.1)/\∀ g,g∈fs.map (·.1)->g∈(YU f v fs).map (·.1)
  | []=>⟨by simp [YU],fun g h=>by simp at h⟩
  | (k,x)::r=>by
    obtain ⟨i1,i2⟩:=ya f v r
    rw [show YU f v ((k,x)::r)=(if k=f then (k,v)::r else (k,x)::YU f v r) from rfl]
    by_cases hk:k=f
    . rw [if_pos hk]
      subst hk
      exact ⟨by simp,fun g h=>by simpa using h⟩
    . rw [if_neg hk]
      refine ⟨?_,fun g h=>?_⟩
      . rw [List.map_cons]
        exact List.mem_cons_of_mem _ i1
      . rw [List.map_cons] at h ⊢
        rcases List.mem_cons.mp h with e | e
        . exact List.mem_cons.mpr (.inl e)
        . exact List.mem_cons_of_mem _ (i2 g e)
theorem yt (f:Str) (v:V):∀ fs:List (Str×V),(YU f v fs).length<=fs.length+1
  | []=>by simp [YU]
  | (k,x)::r=>by
    have ih:=yt f v r
    rw [show YU f v ((k,x)::r)=(if k=f then (k,v)::r else (k,x)::YU f v r) from rfl]
    by_cases hk:k=f
    . rw [if_pos hk,List.length_cons,List.length_cons];omega
    . rw [if_neg hk,List.length_cons,List.length_cons];omega
theorem RelO.some_of {v:V} {o:Option Value} (r:RelO (some v) o):∃ u,o=some u/\RelV v u:=by
 cases o with
 | none=>exact (show False from r).elim
 | some u=>exact ⟨u,rfl,r⟩
theorem RelO.none_of {o:Option Value} (r:RelO none o):o=none:=by
 cases o with
 | none=>rfl
 | some u=>exact (show False from r).elim
theorem Qax {v:V} {u:Value} (r:RelV v u):PySem.W.handedIn u=true:=by
 cases v with
 | non=>cases (show u=Value.none from r);rfl
 | bl b=>cases (show u=Value.bool b from r);rfl
 | int i=>obtain ⟨t,e⟩:=(show ∃ t,u=Value.int i t from r);cases e;rfl
 | str x=>obtain ⟨t,e⟩:=(show ∃ t,u=Value.str x t from r);cases e;rfl
 | byt b=>obtain ⟨t,e⟩:=(show ∃ t,u=Value.bytes b t from r);cases e;rfl
 | flt b=>obtain ⟨t,e⟩:=(show ∃ t,u=Value.float b t from r);cases e;rfl
 | ref a=>cases (show u=Value.ref a from r);rfl
 | ty n=>cases (show u=Value.type n from r);rfl
section
variable {P:Program} {w:World} {H H':Hp} {h h':Heap} {a C dx:Addr} {fs fs':List (Str×V)}
theorem Gf (hok:HOk P w H h) (e:H a=some (.ins C dx fs)):∃ mA,ObjM h a dx C mA/\(∀ f,RelO (fs.lookup f) (mA f))/\PySem.Within mA (fs.map (·.1))/\fs.length<=1000/\H dx=some (.own a):=by
 obtain ⟨d,z,ne,ob,mA,n,r,q⟩:=(show ObjOk P w H h a (.ins C dx fs) from hok a _ e)
 exact ⟨mA,⟨ob,n,ne⟩,r,q,z,d⟩
end
structure Cls (K:PySem.W.Frag) (C:Addr):Prop where
 pg:PySem.W.plainGet K C Str.empty=true
 hd:PySem.W.hasDictIn K C=true
 po:PySem.W.plainOver K C=true
 sa:PySem.W.findIn K (.ref C) "__setattr__" = some (some (.builtin "object.__setattr__"))
theorem Cls.get {K:PySem.W.Frag} {C:Addr} (c:Cls K C) (f:Str):PySem.W.plainGet K C f=true:=c.pg
def NoAttr (K:PySem.W.Frag) (C:Addr) (f:Str):Prop:=PySem.W.findIn K (.ref C) f=some none
theorem NoAttr.taker {K:PySem.W.Frag} {C:Addr} {f:Str} (n:NoAttr K C f):PySem.W.takerIn K C f=some none:=by
 unfold PySem.W.takerIn
 rw [show PySem.W.findIn K (.ref C) f=some none from n]
 rfl
structure ud (K:PySem.W.Frag) (C:Addr) (m:Str) (f:Addr):Prop where
 at_:PySem.W.findIn K (.ref C) m=some (some (.ref f))
 fn:PySem.W.isFn K (.ref f)=true
 kp:PySem.W.keepIn K (.ref f)=true
section
variable {X:Cx} {pins:List (Addr×Obj)} {σ:St} {H:Hp} {s:Shared} {a C dx:Addr} {fs:List (Str×V)} {f:Str} {v:V} {A:Around} {E:Value->Shared->Prop}
theorem Vv {b:Bool} {Q:Value->Shared->Prop} (I:Inv X pins σ H s) (e:H a=some (.ins C dx fs)) (c:Cls X.K C) (n:NoAttr X.K C f) (l:fs.lookup f=some v)
  (h:∀ u s',Inv X pins σ H s'->RelV v u->Q u s'):wpAny (model X.prog X.w) A (getAttr (.ref a) f b) Q E s:=by
 obtain ⟨mA,O,r,_,_,_⟩:=Gf I.hok e
 obtain ⟨u,hu,ru⟩:=RelO.some_of (v:=v) (o:=mA f) (by rw [<- l];exact r f)
 exact QdB I.kIn O (c.get f) c.hd n hu (Qax ru) (h u _ (I.tok _) ru)
theorem jt {m:Str} {g:Addr} {pl:Sem Bool} {Q:Value×List Value->Shared->Prop} (I:Inv X pins σ H s) (e:H a=some (.ins C dx fs)) (c:Cls X.K C) (k:ud X.K C m g) (l:fs.lookup m=none)
  (h:Q (.ref g,[.ref a]) s):wpAny (model X.prog X.w) A (getMethod (.ref a) m pl) Q E s:=by
 obtain ⟨mA,O,r,_,_,_⟩:=Gf I.hok e
 have hn:mA m=none:=RelO.none_of (by rw [<- l];exact r m)
 exact QbK I.kIn O (c.get m) k.at_ k.fn hn h
theorem V7 {y:V} {u:Value} {Q:Unit->Shared->Prop} (I:Inv X pins σ H s) (e:H a=some (.ins C dx fs)) (c:Cls X.K C) (n:NoAttr X.K C f) (hl:fs.length < 1000) (ry:RelV y u)
  (h:∀ s',Inv X pins σ (upd H a (.ins C dx (YU f y fs))) s'->Q () s'):wpAny (model X.prog X.w) A (setAttr (.ref a) f u) Q E s:=by
 obtain ⟨mA,O,r,wi,_,ho⟩:=Gf I.hok e
 have hz:(fs.map (·.1)).length<=sizeLine:=by rw [List.length_map,sizeLine_eq];omega
 refine Qew I.kIn O c.sa c.po n.taker c.hd wi hz fun h' O' sb=>h _ ?_
 have hd:∃ o,h'.get? dx=some o:=let ⟨o,_,_,e',_⟩:=O'.ns;⟨o,e'⟩
 refine I.write (x:=a) (e:=dx) (by rw [e];exact True.intro) (.inr ho) (fun b q hb z=>(sb.2 b hb).trans z) hd ?_
 refine ⟨by rw [Q4 O.ne];exact ho,?_,O.ne,O'.obj,_,O'.ns,fun g=>?_,fun g hg=>?_⟩
 ·have:=yt f y fs;omega
 ·show RelO ((YU f y fs).lookup g) (if g=f then some u else mA g)
  rw [yv]
  by_cases q:g=f
  ·rw [if_pos q,if_pos q];exact ry
  ·rw [if_neg q,if_neg q];exact r g
 ·by_cases q:g=f
  ·rw [q];exact (ya f y fs).1
  ·refine (ya f y fs).2 g (wi g fun z=>hg ?_)
   show (if g=f then some u else mA g)=none
   rw [if_neg q];exact z
theorem Inv.made (I:Inv X pins σ H s):Inv X pins σ (upd (upd H s.heap.objs.size (.own (s.heap.objs.size+1))) (s.heap.objs.size+1) (.ins C s.heap.objs.size []))
  { s with heap:=(s.heap.push PySem.W.emptyDict).push (PySem.W.instObj C s.heap.objs.size) }:=by
 have e1:(s.heap.push PySem.W.emptyDict).get? s.heap.objs.size=some PySem.W.emptyDict:=Heap.get?_push_size s.heap rfl
 have e2:((s.heap.push PySem.W.emptyDict).push (PySem.W.instObj C s.heap.objs.size)).get? (s.heap.objs.size+1)=some (PySem.W.instObj C s.heap.objs.size):=by
  have:=Heap.get?_push_size (s.heap.push PySem.W.emptyDict) (o:=PySem.W.instObj C s.heap.objs.size) rfl
  rwa [Heap.size_push] at this
 have e3:(s.heap.push PySem.W.emptyDict).Ns s.heap.objs.size (fun _=>none):=⟨PySem.W.emptyDict,#[],_,e1,rfl,(fun e he=>absurd he (by simp)),fun _=>rfl⟩
 have I1:=I.laid (a:=s.heap.objs.size) (o:=.own (s.heap.objs.size+1)) (h':=s.heap.push PySem.W.emptyDict) (t':=s.toks) (fun b u q=>Heap.get?_push_of_some _ q) (Nat.le_refl _) ⟨_,e1⟩
 refine I1.laid (a:=s.heap.objs.size+1) (o:=.ins C s.heap.objs.size []) (t':=s.toks) (fun b u q=>Heap.get?_push_of_some _ q) (Nat.le_of_eq (Heap.size_push _ _)) ?_
 have ne:s.heap.objs.size≠s.heap.objs.size+1:=Nat.ne_of_lt (Nat.lt_succ_self _)
 refine ⟨by rw [Q4 ne,Zm],Nat.zero_le _,ne,e2,fun _=>none,(Heap.Ns1.of_empty e3).at fun o q=>Heap.get?_push_of_some _ q,fun _=>True.intro,fun y hy=>absurd rfl hy⟩
theorem Qdj {prog:Program} {w:World} {env:Env} {e:Expr} {f:Str} {pos:Pos} {s:Shared} {Q:Value->Shared->Prop} (hb:attributeBase e f env (eval e env)=eval e env)
  (h:wpAny (model prog w) A (eval e env) (fun o s₁=>wpAny (model prog w) A (getAttr o f true) Q E s₁) E s):wpAny (model prog w) A (eval (.Attribute e f pos) env) Q E s :=
 Attribute_any_ h (by rw [arm_eval_Attribute,hb])
end
def Qii (K:PySem.W.Frag) (ta:TE) (f:Str):TE:=fun σ H Q=>ta σ H fun x H1=>∃ a C dx fs v,x=.ref a/\H1 a=some (.ins C dx fs)/\Cls K C/\NoAttr K C f/\fs.lookup f=some v/\Q v H1
def Qig (K:PySem.W.Frag) (ta tv:TE) (f:Str):TS:=fun D σ H=>tv σ H fun y H1=>ta σ H1 fun x H2=>∃ a C dx fs,x=.ref a/\H2 a=some (.ins C dx fs)/\Cls K C/\NoAttr K C f/\fs.length < 1000 /\
 D.nx σ (upd H2 a (.ins C dx (YU f y fs)))
def QgJ (X:Cx) (op:Operator) (rd:V->V->Hp->VK->Prop):Prop :=
 ∀ (pins:List (Addr×Obj)) (s:Shared) (σ:St) (H:Hp) (x y:V) (u v:Value) (Q:VK),Inv X pins σ H s->RelV x u->RelV y v->rd x y H Q->wpAny (model X.prog X.w) X.A (inplaceOp op u v) (EP X pins σ Q) X.xe s
def Qeu (K:PySem.W.Frag) (ta tv:TE) (rd:V->V->Hp->VK->Prop) (f:Str):TS:=fun D σ H=>ta σ H fun x H1=>∃ a C dx fs v,x=.ref a/\H1 a=some (.ins C dx fs)/\Cls K C/\NoAttr K C f/\fs.lookup f=some v /\
 tv σ H1 fun y H2=>rd v y H2 fun z H3=>∃ dx' fs',H3 a=some (.ins C dx' fs')/\fs'.length < 1000/\D.nx σ (upd H3 a (.ins C dx' (YU f z fs')))
section
variable {X:Cx} {o e value:Expr} {f:Str} {pos pos' tpos:Pos} {ta tv:TE}
theorem QfW (he:PE X e ta) (hb:attributeBase e f X.env (eval e X.env)=eval e X.env):PE X (.Attribute e f pos) (Qii X.K ta f):=by
 intro pins s σ H Q I h
 refine Qdj hb (thn (he pins s σ H _ I h) fun u s1 ⟨x,H1,I1,rx,a,C,dx,fs,v,ex,ea,c,n,l,q⟩=>?_)
 subst ex
 obtain rfl:u=Value.ref a:=rx
 exact Vv I1 ea c n l fun u' s2 I2 ru=>⟨v,H1,I2,ru,q⟩
theorem Qgd (ha:PE X o ta) (hv:PE X value tv) (hs:swapsWith value (some (.Attribute o f pos')) pos.line X.env=pure false):PS X (.Assign [.Attribute o f pos'] value pos) (Qig X.K ta tv f):=by
 intro pins s σ H D I h
 refine plainObj_wpAny_Assign_Attribute (thn (hv pins s σ H _ I h) fun u s1 ⟨y,H1,I1,ry,q⟩=>thn (ha pins s1 σ H1 _ I1 q) fun ov s2 ⟨x,H2,I2,rx,a,C,dx,fs,ex,ea,c,n,l,q2⟩=>?_) hs
 subst ex
 obtain rfl:ov=Value.ref a:=rx
 exact V7 I2 ea c n l ry fun s3 I3=>⟨σ,_,I3,q2⟩
theorem QaX {op:Operator} {rd:V->V->Hp->VK->Prop} (ha:PE X o ta) (hv:PE X value tv) (hop:QgJ X op rd):PS X (.AugAssign (.Attribute o f tpos) op value pos) (Qeu X.K ta tv rd f):=by
 intro pins s σ H D I h
 refine wpAny_AugAssign_AttributeAny (thn (ha pins s σ H _ I h) fun ov s1 ⟨x,H1,I1,rx,a,C,dx,fs,v,ex,ea,c,n,l,q⟩=>?_)
 subst ex
 obtain rfl:ov=Value.ref a:=rx
 refine Vv I1 ea c n l fun u s2 I2 ru=>thn (hv pins s2 σ H1 _ I2 q) fun w3 s3 ⟨y,H2,I3,ry,q3⟩=>thn (hop pins s3 σ H2 v y u w3 _ I3 ru ry q3) fun w4 s4 ⟨z,H3,I4,rz,dx',fs',ea',l',q4⟩=>?_
 exact V7 I4 ea' c n l' rz fun s5 I5=>⟨σ,_,I5,q4⟩
def Qia:V->V->Hp->VK->Prop:=fun x y H Q=>∃ i j,x=.int i/\y=.int j/\Q (.int (i+j)) H
theorem Qfu:QgJ X .Add Qia:=by
 rintro pins s σ H x y u v Q I rx ry ⟨i,j,rfl,rfl,q⟩
 obtain ⟨t,rfl⟩:=(show ∃ t,u=Value.int i t from rx)
 obtain ⟨t',rfl⟩:=(show ∃ t',v=Value.int j t' from ry)
 exact PyProof.Rows.iadd_int ⟨.int (i+j),H,I.tok _,⟨_,rfl⟩,q⟩
theorem QeX {pl:Sem Bool} {m:Str} {apos:Pos} {args:List Expr} {pins:List (Addr×Obj)} {s:Shared} {σ:St} {H:Hp} {Q:Value->Shared->Prop} {te:TE} (he:PE X e te) (I:Inv X pins σ H s)
  (h:te σ H fun x H1=>∃ a C dx fs g,x=.ref a/\H1 a=some (.ins C dx fs)/\Cls X.K C/\ud X.K C m g/\fs.lookup m=none /\
   ∀ s1,Inv X pins σ H1 s1->wpAny (model X.prog X.w) X.A (callWith pos (.ref g) [.ref a] (backTo pos (starEach args X.env)) (backToKw pos (keywordEach [] X.env))) Q X.xe s1)
  (ht:eval (.Call (.Attribute e m apos) args [] pos) X.env=(do
   let ov <- eval e X.env
   standAt apos.atName
   let (f,first) <- holding [ov] (getMethod ov m pl)
   callWith pos f first (backTo pos (starEach args X.env)) (backToKw pos (keywordEach [] X.env)))) :
  wpAny (model X.prog X.w) X.A (eval (.Call (.Attribute e m apos) args [] pos) X.env) Q X.xe s:=by
 refine PySem.W.methodCall_KW (pl:=pl) (thn (he pins s σ H _ I h) fun u s1 ⟨x,H1,I1,rx,a,C,dx,fs,g,ex,ea,c,k,l,q⟩=>?_) ht
 subst ex
 obtain rfl:u=Value.ref a:=rx
 exact jt I1 ea c k l (q s1 I1)
end
section
variable {X:Cx} {pins:List (Addr×Obj)} {σ:St} {H:Hp} {s:Shared} {A:Around} {E:Value->Shared->Prop} {Q:Value->Shared->Prop} {c:Value} {b:Bool}
end
end L2
namespace L2
open PySem PySem.Spec PyProof.Rows
structure Room (k:Nat) (A:Around):Prop where
 hd:A.handled=none
 dp:A.depth+3 * k+5 < recursionLimit
 un:A.units+16 * k+200 < cLine
theorem Room.mono {j k:Nat} {A:Around} (r:Room k A) (h:j<=k):Room j A:=⟨r.hd,by have:=r.dp;omega,by have:=r.un;omega⟩
theorem Room.deeper {k:Nat} {A:Around} (r:Room (k+1) A) (env:Env):Room k (A.deeper env) :=
 ⟨r.hd,by have:=r.dp;show A.depth+1+3 * k+5 < _;omega,by have:=r.un;show A.units+3+16 * k+200 < _;omega⟩
theorem uK {A:Around} {C:Addr} {us:List Value} {kw:List (Str×Value)}:(A.under (.builtin "type.__call__" ⟨.ref C::us,kw⟩)).depth=A.depth+1:=by
 first | rfl | simp [Around.under,Code.weight,Code.isCreation,Code.isGuard,Code.isCaller,Code.frames,Code.isFrame,guardIds]
theorem uL {A:Around} {C:Addr} {us:List Value} {kw:List (Str×Value)}:(A.under (.builtin "type.__call__" ⟨.ref C::us,kw⟩)).units=A.units+1:=by
 first | rfl | simp [Around.under,Code.cUnits,Code.frames,Code.isFrame]
theorem Room.make {k:Nat} {A:Around} (r:Room (k+1) A) (C:Addr) (us:List Value) (kw:List (Str×Value)):Room k (A.under (.builtin "type.__call__" ⟨.ref C::us,kw⟩)) :=
 ⟨r.hd,by have:=r.dp;rw [uK];omega,by have:=r.un;rw [uL];omega⟩
theorem Room.depth {k:Nat} {A:Around} (r:Room k A):A.depth < recursionLimit:=by have:=r.dp;omega
theorem Room.units {k:Nat} {A:Around} (r:Room k A):A.units+64 < cLine:=by have:=r.un;omega
def QhG:TA:=fun _ H Q=>Q [] H
def QhD (ta:TE) (tr:TA):TA:=fun σ H Q=>ta σ H fun x H1=>tr σ H1 fun xs H2=>Q (x::xs) H2
section
variable {X:Cx} {e:Expr} {es:List Expr} {te:TE} {t:TA} {pos:Pos}
theorem pa_nil:PA X [] QhG:=fun _ _ _ _ H Q I h=>Calls.spliced_nil ⟨[],H,I,.nil,h⟩
theorem X9 (ha:PE X e te) (hr:PA X es t) (hs:starEach (e::es) X.env=(false,eval e X.env)::starEach es X.env:=by rfl):PA X (e::es) (QhD te t):=by
 intro pos pins s σ H Q I h
 rw [hs]
 show wpAny _ _ (spliced ((false,eval e X.env)::backTo pos (starEach es X.env))) _ _ s
 refine Calls.spliced_cons (thn (ha pins s σ H _ I h) fun u s1 ⟨x,H1,I1,r1,q1⟩=>?_)
 exact thn (hr pos pins s1 σ H1 _ I1 q1) fun us s2 ⟨xs,H2,I2,r2,q2⟩=>⟨x::xs,H2,I2,.cons r1 r2,q2⟩
def Qio (t:TA):TE:=fun σ H Q=>t σ H fun xs H1=>xs.length<=sizeLine/\∀ p,H1 p=none->Q (.ref p) (upd H1 p (.tup xs))
def Qil (t:TA):TE:=fun σ H Q=>t σ H fun xs H1=>xs.length<=sizeLine/\∀ p,H1 p=none->Q (.ref p) (upd H1 p (.lst xs))
theorem Qf2 {x1} (h:PA X es t):PE X (.Tuple es x1 pos) (Qio t):=by
 intro pins s σ H Q I hq
 refine wpAny_Tuple_spliced (thn (h pos pins s σ H _ I hq) fun us s1 ⟨xs,H1,I1,r,z,q⟩=>⟨by rw [<- r.length];exact z,?_⟩)
 have hf:H1 s1.heap.objs.size=none:=I1.hok.fresh (Nat.le_refl _)
 refine ⟨.ref s1.heap.objs.size,upd H1 s1.heap.objs.size (.tup xs),I1.laid (t':=s1.toks) (fun b u e=>Heap.get?_push_of_some _ e) (Nat.le_refl _) ?_,rfl,q _ hf⟩
 exact ⟨z,us,r,⟨_,Heap.get?_push_size _ rfl,rfl,_,rfl⟩⟩
theorem Qcp (h:PA X es t):PE X (.List es pos) (Qil t):=by
 intro pins s σ H Q I hq
 refine wpAny_List_spliced (thn (h pos pins s σ H _ I hq) fun us s1 ⟨xs,H1,I1,r,z,q⟩=>⟨by rw [<- r.length];exact z,?_⟩)
 have hf:H1 s1.heap.objs.size=none:=I1.hok.fresh (Nat.le_refl _)
 refine ⟨.ref s1.heap.objs.size,upd H1 s1.heap.objs.size (.lst xs),I1.laid (t':=s1.toks) (fun b u e=>Heap.get?_push_of_some _ e) (Nat.le_refl _) ?_,rfl,q _ hf⟩
 exact ⟨z,us,0,r,Heap.get?_push_size _ rfl⟩
end
abbrev Sp:=List V->Hp->VK->XK->Prop
abbrev CXT:=List Env->Hp->Shared->XK->Value->Shared->Prop
structure Env0 (P:Program) (w:World) (K:PySem.W.Frag) (mg:Str->Option Value) (base:Heap) (A:Around) (outer:List Env) (s:Shared) (H:Hp):Prop where
 frames:A.frames=some outer
 mod:Mod K mg base
 bs:∀ b o,base.get? b=some o->s.heap.get? b=some o/\H b=none
 bsz:base.objs.size<=s.heap.objs.size
 funs:s.heap.FunFrames base outer
 frf:∀ b∈frs outer,H b=none
 hok:HOk P w H s.heap
 bare:AllBare s.gens
def CE (outer:List Env) (P:Program) (w:World) (H:Hp) (s:Shared) (Q:VK) (u:Value) (s':Shared):Prop :=
 ∃ v H',s'.os=s.os/\AllBare s'.gens/\Un (frs outer) [] H H' s.heap s'.heap/\HOk P w H' s'.heap/\RelV v u/\Q v H'
def CR (CX:CXT) (outer:List Env) (P:Program) (w:World) (H:Hp) (s:Shared) (Q:VK) (E:XK) (r:Result) (s':Shared):Prop :=
 match r with
 | .ok (.ret u)=>CE outer P w H s Q u s'
 | .ok _=>False
 | .error e=>CX outer H s E e s'
structure q8 (P:Program) (w:World) (K:PySem.W.Frag) (mg:Str->Option Value) (base:Heap) (CX:CXT) (k:Nat) (f:Addr) (fd:FuncData) (ps:List Str) (sp:Sp):Prop where
 len:∀ vs H Q E,sp vs H Q E->vs.length=ps.length
 run:∀ (A:Around) (outer:List Env) (s:Shared) (H:Hp) (args:Args) (us:List Value) (vs:List V) (Q:VK) (E:XK),Room k A->Env0 P w K mg base A outer s H->BindsTo s fd args (ps.zip us)->Vals vs us->sp vs H Q E ->
  codeAny (model P w) A (.call (.ref f) args) (CR CX outer P w H s Q E) s
theorem Env0.make {P:Program} {w:World} {K:PySem.W.Frag} {mg:Str->Option Value} {base:Heap} {A:Around} {outer:List Env} {s:Shared} {H:Hp} (e:Env0 P w K mg base A outer s H) (C:Addr) (us:List Value) (kw:List (Str×Value)) :
  Env0 P w K mg base (A.under (.builtin "type.__call__" ⟨.ref C::us,kw⟩)) outer s H:=⟨by first | exact e.frames | (simpa [Around.under,Code.envs,Code.isFrame,pushEnvs] using e.frames),e.mod,e.bs,e.bsz,e.funs,e.frf,e.hok,e.bare⟩
section
variable {X:Cx} {pins:List (Addr×Obj)} {σ:St} {H:Hp} {s s':Shared}
theorem Inv.env0 (I:Inv X pins σ H s):Env0 X.prog X.w X.K X.mg X.base X.A X.stack s H :=
 ⟨I.ok.frames,I.ok.mod,I.bs,Nat.le_trans I.ok.bsz I.sz,I.stack,I.stkFree,I.hok,I.bare⟩
theorem Inv.after {Q:VK} {u:Value} (I:Inv X pins σ H s) (h:CE X.stack X.prog X.w H s Q u s'):EP X pins σ Q u s':=by
 obtain ⟨v,H',os,bare,un,hok,r,q⟩:=h
 obtain ⟨hh,g,d,t,os'⟩:=s'
 obtain rfl:os'=s.os:=os
 exact ⟨v,H',I.call (h':=hh) (g':=g) (d':=d) (t':=t) (ch:=[]) un hok bare (fun b z=>absurd z (by simp)),r,q⟩
end
def QhC (sp:Sp) (dvs:List V) (E:XK) (t:TA):TE:=fun σ H Q=>t σ H fun vs H1=>sp (vs++dvs) H1 Q E
def QcW (C:Addr) (m:Str) (sp:Sp) (dvs:List V) (E:XK) (ta:TE) (t:TA):TE:=fun σ H Q=>ta σ H fun x H1=>∃ a dx fs,x=.ref a/\H1 a=some (.ins C dx fs)/\fs.lookup m=none /\
 t σ H1 fun vs H2=>sp (x::(vs++dvs)) H2 Q E
def Binds (K:PySem.W.Frag) (fd:FuncData) (ps:List Str) (ds:List Value):Prop :=
 ∀ (s:Shared) (us:List Value),K.In s.heap->(us++ds).length=ps.length->BindsTo s fd ⟨us,[]⟩ (ps.zip (us++ds))
theorem Binds.all {K:PySem.W.Frag} {fd:FuncData} {ps:List Str} (h:∀ us:List Value,us.length=ps.length->bindArgs fd ⟨us,[]⟩=pure (ps.zip us)):Binds K fd ps []:=fun s us _ hl=>by
 rw [List.append_nil] at hl ⊢
 exact .of_eq (h us hl)
def YM (CX:CXT) (X:Cx) (E:XK):Prop:=∀ (pins:List (Addr×Obj)) (σ:St) (H:Hp) (s:Shared) (e:Value) (s':Shared),Inv X pins σ H s->CX X.stack H s E e s'->X.xe e s'
section
variable {X:Cx} {CX:CXT} {k:Nat} {f C:Addr} {fd:FuncData} {ps:List Str} {sp:Sp} {dvs:List V} {ds:List Value} {E:XK} {x m:Str} {p pos apos:Pos} {e o:Expr} {es:List Expr} {ta:TE} {t:TA}
theorem uY {pins:List (Addr×Obj)} {σ:St} {H:Hp} {s:Shared} {Q:VK} {us:List Value} {vs:List V} (F:q8 X.prog X.w X.K X.mg X.base CX k f fd ps sp) (hr:Room k X.A) (hb:Binds X.K fd ps ds) (hd:Vals dvs ds) (hx:YM CX X E)
    (I:Inv X pins σ H s) (r:Vals vs us) (h:sp (vs++dvs) H Q E):wpAny (model X.prog X.w) X.A (call (.ref f) us) (EP X pins σ Q) X.xe s:=by
  have r2:Vals (vs++dvs) (us++ds):=r.append hd
  have hl:(us++ds).length=ps.length:=by rw [<- r2.length];exact F.len _ _ _ _ h
  refine wpAny_call (codeAny_mono (F.run X.A X.stack s H ⟨us,[]⟩ (us++ds) (vs++dvs) Q E hr I.env0 (hb s us I.kIn hl) r2 h) fun r s' hq=>?_)
  cases r with
  | error e=>exact hx pins σ H s e s' I hq
  | ok fl =>
    cases fl with
    | ret u=>exact I.after hq
    | next=>exact False.elim hq
    | brk=>exact False.elim hq
    | cont=>exact False.elim hq
theorem QdX (F:q8 X.prog X.w X.K X.mg X.base CX k f fd ps sp) (hr:Room k X.A) (hg:Gl X x) (hm:X.mg x=some (.ref f)) (hk:PySem.W.keepIn X.K (.ref f)=true) (hb:Binds X.K fd ps ds) (hd:Vals dvs ds) (hx:YM CX X E)
  (ha:PA X (e::es) t) (hdb:(x==("__debug__" : Str))=false:=by decide) (he:starEach (e::es) X.env=(false,eval e X.env)::starEach es X.env:=by rfl) (hpl:(backTo pos (starEach es X.env)).any (·.1)=false:=by rfl) :
  PE X (.Call (.Name x p) (e::es) [] pos) (QhC sp dvs E t):=by
 intro pins s σ H Q I h
 refine wpAny_Call_Name_kw (Gp I hg hm ?_ hdb)
 refine PySem.W.callWith_K (h₀:=X.base) I.ok.mod.kin hk (thn (ha pos pins s σ H _ I h) fun us s1 ⟨vs,H1,I1,r,q⟩=>⟨I1.kIn,?_⟩) he hpl
 exact uY F hr hb hd hx I1 r q
theorem Qd0 {pl:Sem Bool} (he:PE X o ta) (c:Cls X.K C) (hm:ud X.K C m f) (F:q8 X.prog X.w X.K X.mg X.base CX k f fd ps sp) (hr:Room k X.A) (hb:Binds X.K fd ps ds) (hd:Vals dvs ds) (hx:YM CX X E) (ha:PA X (e::es) t)
  (hst:starEach (e::es) X.env=(false,eval e X.env)::starEach es X.env:=by rfl) (hpl:(backTo pos (starEach es X.env)).any (·.1)=false:=by rfl)
  (ht:eval (.Call (.Attribute o m apos) (e::es) [] pos) X.env=(do
   let ov <- eval o X.env
   standAt apos.atName
   let (f,first) <- holding [ov] (getMethod ov m pl)
   callWith pos f first (backTo pos (starEach (e::es) X.env)) (backToKw pos (keywordEach [] X.env))):=by rfl) :
  PE X (.Call (.Attribute o m apos) (e::es) [] pos) (QcW C m sp dvs E ta t):=by
 intro pins s σ H Q I h
 refine PySem.W.methodCall_KW (pl:=pl) (thn (he pins s σ H _ I h) fun u s1 ⟨x,H1,I1,rx,a,dx,fs,ex,ea,l,q⟩=>?_) ht
 subst ex
 obtain rfl:u=Value.ref a:=rx
 refine jt I1 ea c hm l ?_
 refine PySem.W.callWith_K (first:=[.ref a]) (h₀:=X.base) I.ok.mod.kin hm.kp (thn (ha pos pins s1 σ H1 _ I1 q) fun us s2 ⟨vs,H2,I2,r,q2⟩=>⟨I2.kIn,?_⟩) hst hpl
 exact uY (us:=.ref a::us) (vs:=.ref a::vs) F hr hb hd hx I2 (.cons rfl r) q2
theorem Qcq {pl:Sem Bool} (he:PE X o ta) (c:Cls X.K C) (hm:ud X.K C m f) (F:q8 X.prog X.w X.K X.mg X.base CX k f fd ps sp) (hr:Room k X.A) (hb:Binds X.K fd ps ds) (hd:Vals dvs ds) (hx:YM CX X E)
  (ht:eval (.Call (.Attribute o m apos) [] [] pos) X.env=(do
   let ov <- eval o X.env
   standAt apos.atName
   let (f,first) <- holding [ov] (getMethod ov m pl)
   callWith pos f first (backTo pos (starEach [] X.env)) (backToKw pos (keywordEach [] X.env))):=by rfl) :
  PE X (.Call (.Attribute o m apos) [] [] pos) (QcW C m sp dvs E ta QhG):=by
 intro pins s σ H Q I h
 refine PySem.W.methodCall_KW (pl:=pl) (thn (he pins s σ H _ I h) fun u s1 ⟨x,H1,I1,rx,a,dx,fs,ex,ea,l,q⟩=>?_) ht
 subst ex
 obtain rfl:u=Value.ref a:=rx
 refine jt I1 ea c hm l ?_
 exact PySem.W.callWith_K0 (first:=[.ref a]) I1.kIn hm.kp (uY (us:=[.ref a]) (vs:=[.ref a]) F hr hb hd hx I1 (.cons rfl .nil) q)
structure Mk (K:PySem.W.Frag) (C f:Addr):Prop where
 makes:PySem.W.makesIn K C=true
 init:PySem.W.findIn K (.ref C) "__init__" = some (some (.ref f))
 fn:PySem.W.isFn K (.ref f)=true
 kp:PySem.W.keepIn K (.ref C)=true
end
section
variable {X:Cx} {CX:CXT} {k:Nat} {f C:Addr} {fd:FuncData} {ps ks:List Str} {sp:Sp} {E:XK} {x m:Str} {p pos apos kpos:Pos} {e o:Expr} {es:List Expr} {kws:List Keyword} {te ta:TE} {t tk:TA} {nm:Option Str}
variable {g:List Value->List Value->List Value} {gV:List V->List V->List V}
end
structure Qs (N P:List Str) (sc:Scope):Prop where
 kind:sc.kind=.function
 co:sc.isCoroutine=false
 gen:sc.isGenerator=false
 nd:N.Nodup
 pre:N.take P.length=P
 par:∀ x∈P,sc.names.lookup x=some .local∨sc.names.lookup x=some .cell
 nofree:∀ y∈sc.names,y.2≠.free
theorem UY {kindOf:Str->Option NameKind} {x:Str}:∀ {binds:List (Str×Value)} {m:Str->Option Value},(∀ v,(x,v)∉binds)->bindL kindOf binds m x=m x
  | [],_,_=>rfl
  | (n,v)::r,m,h=>by
    unfold bindL
    rw [UY fun w hw=>h w (List.mem_cons_of_mem _ hw)]
    split
    . have:x≠n:=by rintro rfl;exact h v List.mem_cons_self
      simp [this]
    . rfl
theorem UW {kindOf:Str->Option NameKind} {x:Str}:∀ {binds:List (Str×Value)} {m:Str->Option Value},(∀ v,(x,v)∉binds)->bindC kindOf binds m x=m x
  | [],_,_=>rfl
  | (n,v)::r,m,h=>by
    unfold bindC
    rw [UW fun w hw=>h w (List.mem_cons_of_mem _ hw)]
    split
    . rfl
    . have:x≠n:=by rintro rfl;exact h v List.mem_cons_self
      simp [this]
theorem UX {kindOf:Str->Option NameKind} {x:Str} {v:Value}:∀ {P:List Str} {vs:List Value} {i:Nat} {m:Str->Option Value},P.Nodup->P[i]?=some x->vs[i]?=some v->kindOf x=some .local ->
    bindL kindOf (P.zip vs) m x=some v
  | [],_,_,_,_,h,_,_=>by simp at h
  | _::_,[],_,_,_,_,h,_=>by simp at h
  | p::P,w::vs,0,m,nd,h1,h2,hk=>by
    simp at h1 h2;subst h1;subst h2
    show bindL kindOf ((p,w)::P.zip vs) m p=_
    unfold bindL
    rw [UY fun v hv=>(List.nodup_cons.mp nd).1 (List.of_mem_zip hv).1,if_pos hk]
    simp
  | p::P,w::vs,i+1,m,nd,h1,h2,hk=>by
    show bindL kindOf ((p,w)::P.zip vs) m x=_
    unfold bindL
    exact UX (i:=i) (List.nodup_cons.mp nd).2 (by simpa using h1) (by simpa using h2) hk
theorem UV {kindOf:Str->Option NameKind} {x:Str} {v:Value}:∀ {P:List Str} {vs:List Value} {i:Nat} {m:Str->Option Value},P.Nodup->P[i]?=some x->vs[i]?=some v->kindOf x≠some .local ->
    bindC kindOf (P.zip vs) m x=some v
  | [],_,_,_,_,h,_,_=>by simp at h
  | _::_,[],_,_,_,_,h,_=>by simp at h
  | p::P,w::vs,0,m,nd,h1,h2,hk=>by
    simp at h1 h2;subst h1;subst h2
    show bindC kindOf ((p,w)::P.zip vs) m p=_
    unfold bindC
    rw [UW fun v hv=>(List.nodup_cons.mp nd).1 (List.of_mem_zip hv).1,if_neg hk]
    simp
  | p::P,w::vs,i+1,m,nd,h1,h2,hk=>by
    show bindC kindOf ((p,w)::P.zip vs) m x=_
    unfold bindC
    exact UV (i:=i) (List.nodup_cons.mp nd).2 (by simpa using h1) (by simpa using h2) hk
def start (N:List Str) (vs:List V):St:=vs.map some++List.replicate (N.length - vs.length) none
def yR (CX:CXT) (P:Program) (w:World) (K:PySem.W.Frag) (mg:Str->Option Value) (base:Heap) (N:List Str) (qual:Str) (scope:Scope) (f:Addr) (cd:Value) (A:Around) (outer:List Env) (s:Shared) (H:Hp) (E:XK):Cx where
 prog:=P
 w:=w
 K:=K
 mg:=mg
 base:=base
 A:=A.deeper (envOfC qual scope s.heap.objs.size f cd)
 N:=N
 s₀:=s
 H₀:=H
 env:=envOfC qual scope s.heap.objs.size f cd
 outer:=outer
 stack:=envOfC qual scope s.heap.objs.size f cd::outer
 ex:=[]
 calm:=true
 fn:=fun _=>true
 pn:=[]
 xe:=fun e s'=>wpAny (model P w) (A.deeper (envOfC qual scope s.heap.objs.size f cd)) (leaving (envOfC qual scope s.heap.objs.size f cd) e) (fun _ s''=>CX outer H s E e s'') (fun e' s''=>CX outer H s E e' s'') s'
theorem GZ {sc:Scope} {n:Nat} {x:Str} (h:sc.names.lookup x=some .cell):∃ c,(cellsFrom n sc.names []).lookup x=some c:=by
 have q:=PySem.W.cellsFrom_some sc.names n [] (.inl h)
 exact Option.isSome_iff_exists.mp q
theorem QaA {CX:CXT} {P:Program} {w:World} {K:PySem.W.Frag} {mg:Str->Option Value} {base:Heap} {N ps:List Str} {qual:Str} {scope:Scope} {f:Addr} {cd:Value} {A:Around} {outer:List Env} {s s1:Shared} {H:Hp} {E:XK} {us:List Value} {vs:List V}
  (S:Qs N ps scope) (hd:A.handled=none) (e0:Env0 P w K mg base A outer s H) (hl:vs.length=ps.length) (r:Vals vs us)
  (x:InCallC s s.heap.objs.size (bindL (envOfC qual scope s.heap.objs.size f cd).kindOf (ps.zip us) fun _=>none) (cellsFrom (s.heap.objs.size+1) scope.names []) (bindC (envOfC qual scope s.heap.objs.size f cd).kindOf (ps.zip us) fun _=>none) s1) :
  Inv (yR CX P w K mg base N qual scope f cd A outer s H E) [] (start N vs) H s1:=by
 have hpl:ps.length<=N.length:=by have:=congrArg List.length S.pre;rw [List.length_take] at this;omega
 obtain ⟨h1,tk,rfl,hk⟩:=x.done
 have noA:∀ b:Addr,b∉(yR CX P w K mg base N qual scope f cd A outer s H E).ex:=fun b z=>absurd (show b∈([]:List Addr) from z) (by simp)
 refine ⟨⟨e0.mod,S.kind,rfl,rfl,Nat.le_refl _,fun y z c h1 h2=>?_,fun y hy=>?_,fun y c _ h=>?_,fun _=>hd,Around.frames_deeper e0.frames,.inr ⟨rfl,rfl⟩,fun b z=>absurd z (noA b),e0.bs,e0.bsz,fun b _ _=>noA b,fun b z=>absurd z (noA b),e0.funs,e0.frf⟩,
  rfl,e0.bare,Un.kept hk,⟨_,x.toInCall.ns,fun i y v h1 h2 h3=>?_⟩,fun y c h=>⟨_,x.cell y c h⟩,e0.hok.fresh (Nat.le_refl _),fun y c h=>?_,fun p hp=>absurd (show p∈([]:List (Addr×Obj)) from hp) (by simp),e0.hok.kept hk,?_⟩
 ·exact name_of_addr x.apart (PySem.mem_of_lookup h1) (PySem.mem_of_lookup h2)
 ·have hy:scope.names.lookup y=some .cell∨scope.names.lookup y=some .free:=hy
  rcases hy with hy | hy
  ·exact GZ hy
  ·exact absurd rfl (S.nofree _ (PySem.mem_of_lookup hy))
 ·exact Nat.le_of_lt (x.above y c (PySem.mem_of_lookup h))
 ·have hi:i < vs.length:=by
   unfold start at h2
   by_cases hi:i < vs.length
   ·exact hi
   ·rw [List.getElem?_append_right (by simpa using hi)] at h2
    rw [List.getElem?_replicate] at h2
    split at h2<;>cases h2
  have ha:vs[i]?=some v:=by
   unfold start at h2
   rw [List.getElem?_append_left (by simpa using hi),List.getElem?_map] at h2
   cases e:vs[i]? with
   | none=>rw [e] at h2;cases h2
   | some a=>rw [e] at h2;cases h2;rfl
  obtain ⟨u,hu,rv⟩:=r.get ha
  have hp:ps[i]?=some y:=by
   rw [<- S.pre,List.getElem?_take_of_lt (by omega)];exact h1
  have ndP:ps.Nodup:=by rw [<- S.pre];exact S.nd.sublist (List.take_sublist _ _)
  refine ⟨u,rv,?_⟩
  rcases S.par y (List.mem_of_getElem? hp) with k | k
  ·exact .inl ⟨k,UX ndP hp hu k⟩
  ·obtain ⟨c,e⟩:=GZ (n:=s.heap.objs.size+1) k
   refine .inr ⟨.inl k,c,e,?_⟩
   have q:=x.cell y c e
   rw [UV ndP hp hu (by show scope.names.lookup y≠_;rw [k];decide)] at q
   exact q
 ·exact e0.hok.fresh (Nat.le_of_lt (x.above y c (PySem.mem_of_lookup h)))
 ·unfold start
  show _=N.length
  rw [List.length_append,List.length_map,List.length_replicate]
  omega
theorem QgZ {CX:CXT} {P:Program} {w:World} {K:PySem.W.Frag} {mg:Str->Option Value} {base:Heap} {k:Nat} {f:Addr} {name qual:Str} {params:Arguments} {body:List Stmt} {scope:Scope} {dV kV doc pm cdv ct oc:Value} {an od:Option Addr}
    {osl:Array (Option Value)} {N ps:List Str} {sp:Sp} (lk:K.lookup f=some ⟨oc,od,.func (PySem.W.fnOf name qual params body scope dV kV doc pm an cdv ct),osl⟩) (hcd:PySem.W.codeIn K cdv qual=true) (S:Qs N ps scope)
    (len:∀ vs H Q E,sp vs H Q E->vs.length=ps.length)
    (hbody:∀ (A:Around) (outer:List Env) (s:Shared) (H:Hp) (vs:List V) (Q:VK) (E:XK),Room k (A.deeper (envOfC qual scope s.heap.objs.size f cdv))->sp vs H Q E ->
      ∃ t,PSs (yR CX P w K mg base N qual scope f cdv A outer s H E) body t/\t { nx:=fun _ H'=>Q .non H',rt:=Q } (start N vs) H) :
    q8 P w K mg base CX (k+1) f (PySem.W.fnOf name qual params body scope dV kV doc pm an cdv ct) ps sp:=by
  refine ⟨len,fun A outer s H args us vs Q E hr e0 hb r hsp=>?_⟩
  have hl:=len _ _ _ _ hsp
  have KX:K.In s.heap:=e0.mod.kin.keeps fun b o e=>(e0.bs b o e).1
  have lim:s.heap.NoLimit:=e0.mod.nolimit.keeps fun b o e=>(e0.bs b o e).1
  have hkind:∀ y∈ps.zip us,scope.names.lookup y.1=some .local∨(scope.names.lookup y.1=some .cell/\((cellsFrom (s.heap.objs.size+1) scope.names []).lookup y.1).isSome=true):=fun ⟨n,v⟩ hy=>by
    rcases S.par n (List.of_mem_zip hy).1 with q | q
    . exact .inl q
    . exact .inr ⟨q,PySem.W.cellsFrom_some _ _ _ (.inl q)⟩
  refine codeAny_call_function hr.depth (KX _ _ lk) rfl S.co S.gen rfl (PySem.W.codeRec_of KX hcd) (hb _ _ _ _ ?_)
  refine wpAny_newFunctionEnv_cells S.kind hkind fun env he s1 x=>?_
  subst he
  refine ⟨lim.keeps x.toInCall.keep,codeAny_func ?_⟩
  obtain ⟨t,ht,hq⟩:=hbody A outer s H vs Q E (hr.deeper _) hsp
  have I:Inv (yR CX P w K mg base N qual scope f cdv A outer s H E) [] (start N vs) H s1:=QaA S hr.hd e0 hl r x
  refine wpAny_mono (ht [] s1 (start N vs) H _ I hq) (fun fl s' hs=>?_) fun e s' hs=>hs
  have fin:∀ {σ':St} {H':Hp} {v:V} {u:Value},Inv (yR CX P w K mg base N qual scope f cdv A outer s H E) [] σ' H' s'->RelV v u->Q v H'->CE outer P w H s Q u s' :=
    fun {σ' H' v u} J rv q=>⟨v,H',J.os,J.bare,J.base,J.hok,rv,q⟩
  cases fl with
  | ret u =>
    obtain ⟨v,σ',H',J,rv,q⟩:=hs
    exact fin J rv q
  | next =>
    obtain ⟨σ',H',J,q⟩:=hs
    exact fin (v:=V.non) (u:=Value.none) J rfl q
  | brk =>
    obtain ⟨_,_,_,q⟩:=hs
    exact False.elim q
  | cont =>
    obtain ⟨_,_,_,q⟩:=hs
    exact False.elim q
end L2
namespace L2
open PySem PySem.Spec PyProof.Rows
section
variable {X:Cx} {x:Str} {p pos:Pos} {e:Expr} {es:List Expr} {t:TA} {id T:String} {r:List V->Hp->VK->Prop}
def tCB (r:List V->Hp->VK->Prop) (t:TA):TE:=fun σ H Q=>t σ H fun vs H1=>r vs H1 Q
theorem VM (hc:CallR X (.builtin id) r) (hg:Gl X x) (hm:X.mg x=none) (hv:bootBuiltins x=some (.builtin id)) (ha:PA X (e::es) t) (hn:x ≠ "__name__" := by decide) (hdb:(x==("__debug__" : Str))=false:=by decide)
  (he:starEach (e::es) X.env=(false,eval e X.env)::starEach es X.env:=by rfl) (hpl:(backTo pos (starEach es X.env)).any (·.1)=false:=by rfl):PE X (.Call (.Name x p) (e::es) [] pos) (tCB r t):=by
 intro pins s σ H Q I h
 refine wpAny_Call_Name_kw (yb I hg hm hv ?_ hn hdb)
 exact PyProof.Rows.callWith_builtin1 (thn (ha pos pins s σ H _ I h) fun us s1 ⟨vs,H1,I1,r1,q1⟩=>hc pins s1 σ H1 vs us Q I1 r1 q1) he hpl
theorem QaS (hc:CallR X (.type T) r) (hg:Gl X x) (hm:X.mg x=none) (hv:bootBuiltins x=some (.type T)) (ha:PA X (e::es) t) (hn:x ≠ "__name__" := by decide) (hdb:(x==("__debug__" : Str))=false:=by decide)
  (he:starEach (e::es) X.env=(false,eval e X.env)::starEach es X.env:=by rfl) (hpl:(backTo pos (starEach es X.env)).any (·.1)=false:=by rfl):PE X (.Call (.Name x p) (e::es) [] pos) (tCB r t):=by
 intro pins s σ H Q I h
 refine wpAny_Call_Name_kw (yb I hg hm hv ?_ hn hdb)
 exact PyProof.Rows.callWith_type1 (thn (ha pos pins s σ H _ I h) fun us s1 ⟨vs,H1,I1,r1,q1⟩=>hc pins s1 σ H1 vs us Q I1 r1 q1) he hpl
end
end L2
namespace HT
open PySem PyProof.Rows
section
open PySem.SeqAt
open PySem.AutoSeq1 (wpAny_loadPart')
open PySem.MeetsSeq PySem.MeetsSeq2 PySem.MeetsSeq3
end
section
variable {prog:Program} {w:World} {A:Around} {E:Value->Shared->Prop} {s:Shared}
theorem cat_tup {t b:Addr} {vs ws:List Value} {Q:Value->Shared->Prop} (ht:IsTup s.heap t vs.toArray) (hb:IsTup s.heap b ws.toArray) (hv:vs≠[])
  (h1:ws=[]->Q (.ref t) s) (h2:ws≠[]->Q (.ref s.heap.objs.size) { s with heap:=s.heap.push { cls:=.type "tuple", data:=.seq (vs++ws).toArray } })
  (hsz:vs.length+ws.length<=sizeLine):wpAny (model prog w) A (binaryOp .Add (.ref t) (.ref b)) Q E s:=by
 obtain ⟨⟨cls,dd,data,sl⟩,ho,hc,n,hd⟩:=id ht
 obtain ⟨⟨cls2,dd2,data2,sl2⟩,ho2,hc2,n2,hd2⟩:=id hb
 simp only at hc hd hc2 hd2
 subst hc hd hc2 hd2
 have e:vs.toArray++ws.toArray=(vs++ws).toArray:=by simp
 by_cases hw:ws=[]
 ·exact concat_meets ⟨_,ho,rfl⟩ ⟨_,ho2,rfl⟩ noFill_tuple_add seq_tuple_add PySem.F.slot_tuple_add PySem.F.entry_tuple_add (PySem.F.args_tuple_add_2 _ _)
   (tuple_addW1 t b vs.toArray ws.toArray n n2 dd dd2 sl sl2 (by simpa using hv) (by simp [hw])) ⟨ho,ho2,h1 hw⟩
 ·refine concat_meets ⟨_,ho,rfl⟩ ⟨_,ho2,rfl⟩ noFill_tuple_add seq_tuple_add PySem.F.slot_tuple_add PySem.F.entry_tuple_add (PySem.F.args_tuple_add_2 _ _)
   (tuple_addW2 t b vs.toArray ws.toArray n n2 dd dd2 sl sl2 (by simpa using hv) (by simpa using hw) (by rw [List.size_toArray,List.size_toArray];exact hsz)) ⟨ho,ho2,?_⟩
  rw [e]
  exact h2 hw
def sIx (n d:Nat):Option Int->Nat
 | none=>d
 | some v=>if v < 0 then (v+(n:Int)).toNat else min v.toNat n
theorem sIx_nat (n d k:Nat):sIx n d (some (k:Int))=min k n:=by
 show (if (k:Int) < 0 then ((k:Int)+(n:Int)).toNat else min (k:Int).toNat n)=min k n
 rw [if_neg (by omega),Int.toNat_natCast]
theorem Qgm (n d:Nat) (hd:d<=n) (o:Option Int):sIx n d o<=n:=by
  cases o with
  | none=>exact hd
  | some v =>
    show (if v < 0 then (v+(n:Int)).toNat else min v.toNat n)<=n
    by_cases hv:v < 0
    . rw [if_pos hv];omega
    . rw [if_neg hv];exact Nat.min_le_right _ _
theorem gG (v:Int) (n d:Nat):(if v < 0 then max (v+(n:Int)) 0 else min v (n:Int))=((sIx n d (some v):Nat):Int):=by
 show (if v < 0 then max (v+(n:Int)) 0 else min v (n:Int))=(((if v < 0 then (v+(n:Int)).toNat else min v.toNat n):Nat):Int)
 by_cases hv:v < 0
 ·simp only [if_pos hv];omega
 ·simp only [if_neg hv];omega
theorem ue (lo hi:Option Int) (n:Nat):Builtin.Slice.sliceAdjust lo hi 1 (n:Int)=(((sIx n 0 lo:Nat):Int),((sIx n n hi:Nat):Int)):=by
 have h1:¬ ((1:Int) < 0):=by omega
 unfold Builtin.Slice.sliceAdjust
 simp only [h1,if_false]
 refine Prod.ext ?_ ?_
 ·cases lo with
  | none=>rfl
  | some v=>exact gG v n 0
 ·cases hi with
  | none=>rfl
  | some v=>exact gG v n n
theorem uU (i j:Nat):Builtin.Slice.slicePlaces (i:Int) (j:Int) 1=j - i:=by
 unfold Builtin.Slice.slicePlaces
 have h1:(1:Int) > 0:=by omega
 simp only [h1,if_true,Int.ediv_one]
 split<;>omega
theorem Ua {v:Value} {o:Option Int} {Q:Option Int->Shared->Prop} (p:IsPart v o) (h:Q o s):wpAny (model prog w) A (Builtin.Slice.slicePartIndex v) Q E s:=by
 cases p with
 | none=>exact slicePart_none h
 | int i t=>exact slicePart_int h
theorem sliceApplied_gen {sl:Addr} {vl vu:Value} {lo hi:Option Int} {n:Nat} {Q:Int×Int×Nat->Shared->Prop} (hs:s.heap.IsSliceOf sl vl vu .none) (pl:IsPart vl lo) (pu:IsPart vu hi)
  (h:Q (((sIx n 0 lo:Nat):Int),1,sIx n n hi - sIx n 0 lo) s):wpAny (model prog w) A (Builtin.Slice.sliceApplied (.ref sl) (pure (n:Int))) Q E s:=by
 obtain ⟨os,hos,hcs,hds⟩:=id hs
 unfold Builtin.Slice.sliceApplied Builtin.Slice.sliceFields
 refine wpAny_bind (wpAny_bind (wpAny_field hos hds (x:=vl) rfl (wpAny_bind (wpAny_field hos hds (x:=vu) rfl (wpAny_bind (wpAny_field hos hds (x:=.none) rfl (wpAny_pure ?_)))))))
 refine wpAny_bind (slicePart_none ?_)
 show wpAny _ _ (if ((1:Int)==0)=true then _ else _) _ _ s
 rw [if_neg (by decide)]
 refine wpAny_bind (Ua pl (wpAny_bind (Ua pu (wpAny_bind (wpAny_pure ?_)))))
 show wpAny _ _ (match Builtin.Slice.sliceAdjust lo hi 1 (n:Int) with | (lo,hi)=>pure (lo,(1:Int),Builtin.Slice.slicePlaces lo hi 1)) _ _ s
 rw [ue lo hi n]
 show wpAny _ _ (pure (((sIx n 0 lo:Nat):Int),(1:Int),Builtin.Slice.slicePlaces ((sIx n 0 lo:Nat):Int) ((sIx n n hi:Nat):Int) 1)) _ _ s
 rw [uU]
 exact wpAny_pure h
theorem Qcw (xs:Array Value) (i k:Nat):((List.range k).filterMap fun (m:Nat)=>xs[((i:Int)+(m:Int) * 1).toNat]?).toArray=((xs.toList.drop i).take k).toArray:=by
 have e:(fun (m:Nat)=>xs[((i:Int)+(m:Int) * 1).toNat]?)=fun m=>xs[i+m]?:=by
  funext m
  have:((i:Int)+(m:Int) * 1).toNat=i+m:=by omega
  rw [this]
 rw [e]
 have:=pick_run xs i k
 rw [List.filterMap_map] at this
 have e2:((fun x=>xs[x]?)∘fun x=>i+x)=fun m=>xs[i+m]?:=rfl
 rw [e2] at this
 rw [this]
theorem getItem_tuple_cut {t sl:Addr} {items:Array Value} {vl vu:Value} {lo hi:Option Int} {Q:Value->Shared->Prop} (ht:IsTup s.heap t items) (hs:s.heap.IsSliceOf sl vl vu .none) (pl:IsPart vl lo) (pu:IsPart vu hi)
  (hw:¬ (sIx items.size 0 lo=0/\sIx items.size items.size hi=items.size))
  (h:Q (.ref s.heap.objs.size) { s with heap:=s.heap.push { cls:=.type "tuple", data:=.seq ((items.toList.drop (sIx items.size 0 lo)).take (sIx items.size items.size hi - sIx items.size 0 lo)).toArray } })
  (hsz:items.size<=sizeLine):wpAny (model prog w) A (getItem (.ref t) (.ref sl)) Q E s:=by
 have htake:sizeOk (.seq ((items.toList.drop (sIx items.size 0 lo)).take (sIx items.size items.size hi - sIx items.size 0 lo)).toArray):=by
  show ((items.toList.drop (sIx items.size 0 lo)).take (sIx items.size items.size hi - sIx items.size 0 lo)).toArray.size<=sizeLine
  rw [List.size_toArray,List.length_take,List.length_drop,Array.length_toList]
  omega
 have hj:sIx items.size items.size hi<=items.size:=Qgm _ _ (Nat.le_refl _) hi
 obtain ⟨os,hos,hcs,hds⟩:=id hs
 have hTs:s.TypeIs (.ref sl) "slice" := ⟨os,hos,hcs⟩
 unfold getItem
 try with_reducible refine wpAny_holding ?_
 first | refine wpAny_bind (wpAny_pure ?_) | skip
 refine wpAny_bind (wpAny_sequenceKey ht.typeIs (by decide) ?_)
 refine wpAny_bind (wpAny_callSpecial?_slot (name:=Str.ofString "__getitem__") ht.typeIs PyProof.Rows.slot_tuple_getitem
  (wpAny_call_entry PyProof.Rows.slot_tuple_getitem ht.typeIs entry_tuple_getitem ?_ (args_tuple_getitem _ _)))
 show wpAny _ _ (Builtin.Tuple.tupleItemsOf (.ref t) >>= _) _ _ s
 refine wpAny_bind (tupleItemsOf_ ht ?_)
 refine wpAny_bind (wpAny_typeOf hTs ?_)
 rw [if_pos (by decide)]
 refine wpAny_bind (sliceApplied_gen hs pl pu ?_)
 have hno:¬ ((((sIx items.size 0 lo:Nat):Int)==0&&(1:Int)==1&&(sIx items.size items.size hi - sIx items.size 0 lo)==items.size)=true):=by
  intro q
  rw [Bool.and_eq_true,Bool.and_eq_true] at q
  have q1:((sIx items.size 0 lo:Nat):Int)=0:=eq_of_beq q.1.1
  have q2:sIx items.size items.size hi - sIx items.size 0 lo=items.size:=eq_of_beq q.2
  exact hw ⟨by omega,by omega⟩
 show wpAny _ _ (if (((sIx items.size 0 lo:Nat):Int)==0&&(1:Int)==1&&(sIx items.size items.size hi - sIx items.size 0 lo)==items.size)=true then _ else _) _ _ s
 rw [if_neg hno,Qcw]
 first
  | exact wpAny_bind (m:=Builtin.Tuple.tupleExact _) (wpAny_newObj_type (wpAny_pure ⟨_,rfl,wpAny_pure h⟩) htake)
  | exact wpAny_bind (m:=Builtin.Tuple.tupleExact _) (wpAny_newObj_type (wpAny_bind (wpAny_pure (wpAny_pure ⟨_,rfl,wpAny_pure h⟩))) htake)
  | exact wpAny_bind (wpAny_bind (m:=Builtin.Tuple.tupleExact _) (wpAny_newObj_type (wpAny_pure (wpAny_pure ⟨_,rfl,wpAny_pure h⟩)) htake))
  | exact wpAny_bind (wpAny_bind (m:=Builtin.Tuple.tupleExact _) (wpAny_newObj_type (wpAny_pure ⟨_,rfl,wpAny_pure h⟩) htake))
end
end HT
namespace L2
open PySem PySem.Spec PyProof.Rows
abbrev TO:=St->Hp->(Option Int->Hp->Prop)->Prop
def PO (X:Cx) (e:Option Expr) (t:TO):Prop :=
  ∀ (pins : List (Addr × Obj)) (s : Shared) (σ : St) (H : Hp) (Q : Option Int -> Hp -> Prop), Inv X pins σ H s -> t σ H Q ->
    wpAny (model X.prog X.w) X.A (evalPart e X.env) (fun u s'=>∃ o H',Inv X pins σ H' s'/\IsPart u o/\Q o H') X.xe s
def QeC:TO:=fun _ H Q=>Q none H
def QhI (t:TE):TO:=fun σ H Q=>t σ H fun x H1=>∃ i,x=.int i/\Q (some i) H1
section
variable {X:Cx} {e:Expr} {te:TE} {lo hi:Option Expr} {tl th:TO} {pos p2:Pos}
theorem Qd9:PO X none QeC:=by
 intro pins s σ H Q I h
 rw [evalPart_none]
 exact wpAny_pure ⟨none,H,I,.none,h⟩
theorem Qea (h:PE X e te):PO X (some e) (QhI te):=by
 intro pins s σ H Q I hw
 rw [evalPart_some]
 refine thn (h pins s σ H _ I hw) fun u s1 ⟨x,H1,I1,r1,q1⟩=>?_
 obtain ⟨i,rfl,q⟩:=q1
 obtain ⟨t,rfl⟩:=r1
 exact ⟨some i,H1,I1,.int i t,q⟩
def SlR (X:Cx) (r:V->Option Int->Option Int->Hp->VK->Prop):Prop :=
  ∀ (pins : List (Addr × Obj)) (s : Shared) (σ : St) (H : Hp) (x : V) (v vl vu : Value) (lo hi : Option Int) (sl : Addr) (Q : VK), Inv X pins σ H s -> RelV x v -> s.heap.IsSliceOf sl vl vu .none -> IsPart vl lo -> IsPart vu hi -> r x lo hi H Q ->
    ∃ T id,typeLookup (.type T) "__getitem__" = pure (some (.builtin id))/\s.TypeIs v T/\wpAny (model X.prog X.w) X.A (getItem v (.ref sl)) (EP X pins σ Q) X.xe s
def tSl (r:V->Option Int->Option Int->Hp->VK->Prop) (te:TE) (tl th:TO):TE:=fun σ H Q=>te σ H fun x H1=>tl σ H1 fun l H2=>th σ H2 fun u H3=>r x l u H3 Q
theorem Qcr {r:V->Option Int->Option Int->Hp->VK->Prop} (hr:SlR X r) (he:PE X e te) (hl:PO X lo tl) (hu:PO X hi th):PE X (.Subscript e (.Slice lo hi none p2) pos) (tSl r te tl th):=by
 intro pins s σ H Q I h
 refine Subscript_ (thn (he pins s σ H _ I h) fun v s1 ⟨x,H1,I1,r1,q1⟩=>?_)
 refine wpAny_Slice (thn (hl pins s1 σ H1 _ I1 q1) fun vl s2 ⟨l,H2,I2,pl,q2⟩=>thn (hu pins s2 σ H2 _ I2 q2) fun vu s3 ⟨u,H3,I3,pu,q3⟩=>?_)
 rw [evalPart_none]
 refine wpAny_pure ?_
 have I4:Inv X pins σ H3 { s3 with heap:=s3.heap.push { cls:=.type "slice", data:=.fields #[vl,vu,.none] } }:=I3.kept (t':=s3.toks) fun b ob q=>Heap.get?_push_of_some _ q
 obtain ⟨T,id,hT,ht,hg⟩:=hr pins { s3 with heap:=s3.heap.push { cls:=.type "slice", data:=.fields #[vl,vu,.none] } } σ H3 x v vl vu l u s3.heap.objs.size Q I4 r1 (Heap.IsSliceOf.new ..) pl pu q3
 show wpAny (model X.prog X.w) X.A (subscriptTail e (.Slice lo hi none p2) v (.ref s3.heap.objs.size)) (EP X pins σ Q) X.xe { s3 with heap:=s3.heap.push { cls:=.type "slice", data:=.fields #[vl,vu,.none] } }
 exact tail_any (ops:=[.ref s3.heap.objs.size,v]) ht hT hg (by with_unfolding_all rfl)
def G3 (xs:List V) (lo hi:Option Int):List V:=(xs.drop (HT.sIx xs.length 0 lo)).take (HT.sIx xs.length xs.length hi - HT.sIx xs.length 0 lo)
theorem yp (xs:List V) (lo hi:Option Int):(G3 xs lo hi).length<=xs.length:=by
 unfold G3
 rw [List.length_take,List.length_drop]
 omega
def Qif (K:PySem.W.Frag):V->Option Int->Option Int->Hp->VK->Prop:=fun x lo hi H Q=>∃ a xs,x=.ref a/\SqT K H a xs /\
 ¬ (HT.sIx xs.length 0 lo=0/\HT.sIx xs.length xs.length hi=xs.length)/\∀ p,H p=none->Q (.ref p) (upd H p (.tup (G3 xs lo hi)))
theorem Qgn:SlR X (Qif X.K):=by
 intro pins s σ H x v vl vu lo hi sl Q I rx hs pl pu h
 obtain ⟨a,xs,rfl,hx,hw,q⟩:=h
 cases rx
 obtain ⟨its,r,ht,hz⟩:=I.tuple hx
 have hlen:its.toArray.size=xs.length:=by rw [List.size_toArray];exact r.length.symm
 refine ⟨"tuple", _,PyProof.Rows.slot_tuple_getitem.lookup,ht.typeIs,?_⟩
 refine HT.getItem_tuple_cut ht hs pl pu (by rw [hlen];exact hw) ?_ (by rw [hlen];exact hz)
 rw [hlen]
 refine ⟨.ref s.heap.objs.size,_,I.laid (t':=s.toks) (o:=.tup (G3 xs lo hi)) (fun b ob q=>Heap.get?_push_of_some _ q) (Nat.le_refl _) ?_,rfl,q _ (I.hok.fresh (Nat.le_refl _))⟩
 exact ⟨Nat.le_trans (yp xs lo hi) hz,_,(r.drop (HT.sIx xs.length 0 lo)).take (HT.sIx xs.length xs.length hi - HT.sIx xs.length 0 lo),IsTup.new _ _⟩
def Qht (K:PySem.W.Frag):R2:=fun x y H Q=>∃ a b xs ys,x=.ref a/\y=.ref b/\SqT K H a xs/\SqT K H b ys/\xs≠[]/\xs.length+ys.length<=sizeLine /\
 (ys=[]->Q (.ref a) H)/\(ys≠[]->∀ p,H p=none->Q (.ref p) (upd H p (.tup (xs++ys))))
theorem Vals.nil_iff {xs:List V} {us:List Value} (r:Vals xs us):us=[]↔xs=[]:=by
 cases r with
 | nil=>simp
 | cons _ _=>simp
theorem QdQ:OpR X (binaryOp .Add) (Qht X.K):=by
 intro pins s σ H x y v u Q I rx ry h
 obtain ⟨a,b,xs,ys,rfl,rfl,ha,hb,hx,hz,q1,q2⟩:=h
 cases rx
 cases ry
 obtain ⟨its,r1,p1,_⟩:=I.tuple ha
 obtain ⟨its2,r2,p2,_⟩:=I.tuple hb
 refine HT.cat_tup p1 p2 (fun z=>hx (r1.nil_iff.mp z)) (fun z=>⟨.ref a,H,I,rfl,q1 (r2.nil_iff.mp z)⟩) (fun z=>?_) (by rw [<- r1.length,<- r2.length];exact hz)
 refine ⟨.ref s.heap.objs.size,_,I.laid (t':=s.toks) (o:=.tup (xs++ys)) (fun b ob q=>Heap.get?_push_of_some _ q) (Nat.le_refl _) ?_,rfl,q2 (fun w=>z (r2.nil_iff.mpr w)) _ (I.hok.fresh (Nat.le_refl _))⟩
 exact ⟨by rw [List.length_append];exact hz,_,r1.append r2,IsTup.new _ _⟩
end
end L2
namespace L2
open PySem PySem.Spec PyProof.Rows
def ixN (n:Nat) (i:Int):Option Nat:=if 0<=i then (if i < n then some i.toNat else none) else if -(n:Int)<=i then some (i+n).toNat else none
def atI {α:Type} (xs:List α) (i:Int):Option α:=(ixN xs.length i).bind fun j=>xs[j]?
theorem km {n:Nat} {i:Int} {j:Nat} (h:ixN n i=some j):seqIndex? i n=some j/\j < n /\ -(n:Int)<=i/\i < n:=by
 unfold ixN at h
 by_cases h0:0<=i
 ·rw [if_pos h0] at h
  by_cases h1:i < n
  ·rw [if_pos h1] at h
   have e:i.toNat=j:=Option.some.inj h
   exact ⟨by rw [seqIndex_of h0 h1,e],by omega,by omega,h1⟩
  ·rw [if_neg h1] at h;cases h
 ·rw [if_neg h0] at h
  by_cases h1:-(n:Int)<=i
  ·rw [if_pos h1] at h
   have e:(i+n).toNat=j:=Option.some.inj h
   exact ⟨by rw [seqIndex_neg (by omega) h1,e],by omega,h1,by omega⟩
  ·rw [if_neg h1] at h;cases h
theorem gC {α:Type} {xs:List α} {i:Int} {v:α} (h:atI xs i=some v):∃ j,seqIndex? i xs.length=some j/\xs[j]?=some v/\j < xs.length /\ -(xs.length:Int)<=i/\i < xs.length:=by
  unfold atI at h
  cases e:ixN xs.length i with
  | none=>rw [e] at h;cases h
  | some j =>
    rw [e] at h
    obtain ⟨h1,h2,h3,h4⟩:=km e
    exact ⟨j,h1,h,h2,h3,h4⟩
theorem qv {α:Type} {xs:List α} {j:Nat} {v:α} (h:xs[j]?=some v):atI xs (j:Int)=some v:=by
 have hj:j < xs.length:=(List.getElem?_eq_some_iff.mp h).1
 have e:ixN xs.length (j:Int)=some j:=by
  unfold ixN
  rw [if_pos (by omega),if_pos (by omega)];simp
 unfold atI;rw [e];exact h
theorem Qbf {α:Type} (xs:List α) (v:α):atI (xs++[v]) (-1)=some v:=by
 have hl:(xs++[v]).length=xs.length+1:=by simp
 have e:ixN (xs++[v]).length (-1)=some xs.length:=by
  unfold ixN
  rw [hl,if_neg (by decide),if_pos (by omega)]
  congr 1
  omega
 unfold atI
 rw [e]
 show (xs++[v])[xs.length]?=some v
 simp
def KJ (b:Expr):Prop:=∀ o i,subscripted b false o i=operate [o,i] (getItem o i)
def IxR (X:Cx) (r:R2):Prop :=
  ∀ (value slice : Expr) (pins : List (Addr × Obj)) (s : Shared) (σ : St) (H : Hp) (x y : V) (v u : Value) (Q : VK), Inv X pins σ H s -> RelV x v -> RelV y u -> r x y H Q ->
    subscripted slice false v u=operate [v,u] (getItem v u)->wpAny (model X.prog X.w) X.A (subscriptTail value slice v u) (EP X pins σ Q) X.xe s
def MtR (X:Cx) (id:String) (r:V->List V->Hp->VK->Prop):Prop :=
  ∀ (pins : List (Addr × Obj)) (s : Shared) (σ : St) (H : Hp) (x : V) (xs : List V) (v : Value) (us : List Value) (Q : VK), Inv X pins σ H s -> RelV x v -> Vals xs us -> r x xs H Q ->
    wpAny (model X.prog X.w) X.A (call (.builtin id) (v::us)) (EP X pins σ Q) X.xe s
section
variable {X:Cx} {a b:Expr} {ta tb:TE} {pos:Pos}
theorem Qe0 {r:R2} (hr:IxR X r) (ha:PE X a ta) (hb:PE X b tb) (hs:KJ b):PE X (.Subscript a b pos) (tOp r ta tb):=by
 intro pins s σ H Q I h
 exact Subscript_ (Qfa ha hb I h fun v u s2 x y H2 I2 rx ry q=>hr a b pins s2 σ H2 x y v u Q I2 rx ry q (hs _ _))
def Qic (K:PySem.W.Frag):R2:=fun x y H Q=>∃ p xs i v,x=.ref p/\y=.int i/\SqL K H p xs/\atI xs i=some v/\Q v H
def Qid (K:PySem.W.Frag):R2:=fun x y H Q=>∃ p xs i v,x=.ref p/\y=.int i/\SqT K H p xs/\atI xs i=some v/\Q v H
theorem kn:IxR X (Qic X.K):=by
 intro value slice pins s σ H x y v u Q I rx ry h hs
 obtain ⟨p,xs,i,z,rfl,rfl,hq,he,q⟩:=h
 cases rx
 obtain ⟨t,rfl⟩:=ry
 obtain ⟨its,r,pl,hz⟩:=I.list hq
 obtain ⟨j,h1,h2,h3,h4,h5⟩:=gC he
 obtain ⟨w,ew,rw'⟩:=r.get h2
 have hl:=r.length
 have hn:=Gu
 have fin:EP X pins σ Q w s:=⟨z,H,I,rw',q⟩
 by_cases h0:0<=i
 ·have hj:i.toNat=j:=by
   rw [seqIndex_of h0 h5] at h1
   exact Option.some.inj h1
  exact item_listR pl.isList h0 (by omega) (by rw [hj];simpa using ew) fin hs
 ·have hj:(i+(its.toArray.size:Int)).toNat=j:=by
   rw [seqIndex_neg (by omega) h4] at h1
   rw [List.size_toArray,<- hl]
   exact Option.some.inj h1
  exact subscriptTail_builtinR (x:=w) pl.isList.typeIs slot_list_getitem.lookup
   (wpAny_getItem_list_neg (Q:=fun r s'=>r=w/\EP X pins σ Q r s') pl.isList (by omega) (by rw [List.size_toArray]<;>omega) (by omega) (by rw [hj];simpa using ew) ⟨rfl,fin⟩) hs
theorem Qfw:IxR X (Qid X.K):=by
 intro value slice pins s σ H x y v u Q I rx ry h hs
 obtain ⟨p,xs,i,z,rfl,rfl,hq,he,q⟩:=h
 cases rx
 obtain ⟨t,rfl⟩:=ry
 obtain ⟨its,r,pl,hz⟩:=I.tuple hq
 obtain ⟨j,h1,h2,h3,h4,h5⟩:=gC he
 obtain ⟨w,ew,rw'⟩:=r.get h2
 have hl:=r.length
 have hn:=Gu
 have fin:EP X pins σ Q w s:=⟨z,H,I,rw',q⟩
 exact subscriptTail_builtinR (x:=w) pl.typeIs slot_tuple_getitem.lookup
  (getItem_tuple (j:=j) (Q:=fun r s'=>r=w/\EP X pins σ Q r s') pl (by omega) (by omega) (by rw [List.size_toArray,<- hl];exact h1) (by simpa using ew) ⟨rfl,fin⟩) hs
theorem uM (its:List Value) (n j:Nat) (u:Value):Obj.mapSeq (·.setIfInBounds j u) { cls:=.type "list", data:=.seq its.toArray n }={ cls:=.type "list", data:=.seq (its.set j u).toArray n }:=by
 simp [Obj.mapSeq]
theorem Inv.lst {pins:List (Addr×Obj)} {σ:St} {H:Hp} {s:Shared} {p:Addr} {xs:List V} (I:Inv X pins σ H s) (h:H p=some (.lst xs)) :
  ∃ (its:List Value) (n:Nat),Vals xs its/\s.heap.get? p=some { cls:=.type "list", data:=.seq its.toArray n }/\xs.length<=sizeLine:=by
 obtain ⟨z,its,n,r,e⟩:=I.hok p _ h
 exact ⟨its,n,r,e,z⟩
theorem Inv.lstUpd {pins:List (Addr×Obj)} {σ:St} {H:Hp} {s:Shared} {p:Addr} {xs ys:List V} {its its':List Value} {n n':Nat} {f:Obj->Obj} (I:Inv X pins σ H s) (h:H p=some (.lst xs))
  (ho:s.heap.get? p=some { cls:=.type "list", data:=.seq its.toArray n }) (hf:f { cls:=.type "list", data:=.seq its.toArray n }={ cls:=.type "list", data:=.seq its'.toArray n' }) (r:Vals ys its') (hz:ys.length<=sizeLine) (t:Nat) :
  Inv X pins σ (upd H p (.lst ys)) { s with heap:=s.heap.update p f,toks:=t }:=by
 have e:(s.heap.update p f).get? p=some { cls:=.type "list", data:=.seq its'.toArray n' }:=by
  rw [Heap.get?_update_self f ho (by rw [hf]<;>rfl),hf]
 refine I.write (x:=p) (e:=p) (by rw [h];trivial) (.inl rfl) (fun b u hb q=>(Heap.get?_update_other _ _ (Ne.symm hb)).trans q) ⟨_,e⟩ ?_
 exact ⟨hz,its',n',r,e⟩
def Qhw:V->V->V->Hp->(Hp->Prop)->Prop:=fun o i v H Q=>∃ p xs k j,o=.ref p/\i=.int k/\H p=some (.lst xs)/\ixN xs.length k=some j/\Q (upd H p (.lst (xs.set j v)))
theorem QcN:Qde X Qhw:=by
 intro pins s σ H o i v ov iv u Q I ro ri rv h
 obtain ⟨p,xs,k,j,rfl,rfl,hp,hj,q⟩:=h
 cases ro
 obtain ⟨t,rfl⟩:=ri
 obtain ⟨its,n,r,ho,hz⟩:=I.lst hp
 obtain ⟨h1,h2,h3,h4⟩:=km hj
 have hl:=r.length
 have hn:=Gu
 have I':Inv X pins σ (upd H p (.lst (xs.set j v))) { s with heap:=s.heap.update p (Obj.mapSeq (·.setIfInBounds j u)) } :=
  I.lstUpd hp ho (uM its n j u) (r.set rv j) (by rw [List.length_set];exact hz) s.toks
 by_cases h0:0<=k
 ·have hk:k.toNat=j:=by
   rw [seqIndex_of h0 h4] at h1
   exact Option.some.inj h1
  exact PySem.W.ki_setAt ho h0 (by omega) (by rw [List.size_toArray,<- hl];exact h4) (by rw [hk];exact ⟨_,I',q⟩)
 ·have hk:(k+(its.toArray.size:Int)).toNat=j:=by
   rw [seqIndex_neg (by omega) h3] at h1
   rw [List.size_toArray,<- hl]
   exact Option.some.inj h1
  exact PySem.W.ki_setBack ho (by omega) (by rw [List.size_toArray,<- hl];exact h3) (by omega) (by rw [hk];exact ⟨_,I',q⟩)
theorem GH (lo hi:Option Int) (n:Nat):(sliceBounds lo hi none n).1=((HT.sIx n 0 lo:Nat):Int)/\(sliceBounds lo hi none n).2.1=((HT.sIx n n hi:Nat):Int)/\(sliceBounds lo hi none n).2.2=1:=by
  refine ⟨?_,?_,rfl⟩
  . cases lo with
    | none=>simp [sliceBounds,HT.sIx]
    | some i =>
      simp only [sliceBounds,HT.sIx,Option.getD_none,show (1:Int) > 0 by decide,if_true]
      by_cases h:i < 0
      . simp only [h,if_true]<;>omega
      . simp only [h,if_false]<;>omega
  . cases hi with
    | none=>simp [sliceBounds,HT.sIx]
    | some i =>
      simp only [sliceBounds,HT.sIx,Option.getD_none,show (1:Int) > 0 by decide,if_true]
      by_cases h:i < 0
      . simp only [h,if_true]<;>omega
      . simp only [h,if_false]<;>omega
theorem UQ (its:List Value) (lo hi:Option Int):slicePick its.toArray lo hi none=((its.drop (HT.sIx its.length 0 lo)).take (HT.sIx its.length its.length hi - HT.sIx its.length 0 lo)).toArray:=by
 obtain ⟨h1,h2,h3⟩:=GH lo hi its.toArray.size
 unfold slicePick
 rw [h1,h2,h3]
 simp only [sliceRange_one,pick_run,List.size_toArray]<;>rfl
def Qie (K:PySem.W.Frag):V->Option Int->Option Int->Hp->VK->Prop:=fun x lo hi H Q=>∃ a xs,x=.ref a/\SqL K H a xs/\∀ p,H p=none->Q (.ref p) (upd H p (.lst (G3 xs lo hi)))
theorem Qex:SlR X (Qie X.K):=by
 intro pins s σ H x v vl vu lo hi sl Q I rx hs pl pu h
 obtain ⟨a,xs,rfl,hx,q⟩:=h
 cases rx
 obtain ⟨its,r,ht,hz⟩:=I.list hx
 have hlen:=r.length
 refine ⟨"list", _,slot_list_getitem.lookup,ht.isList.typeIs,?_⟩
 refine wpAny_getItem_list_slice ht.isList hs pl pu .none (by simp) ?_ (by rw [List.size_toArray]<;>omega)
 rw [UQ,<- hlen]
 refine ⟨.ref s.heap.objs.size,_,I.laid (t':=s.toks) (o:=.lst (G3 xs lo hi)) (fun b ob q=>Heap.get?_push_of_some _ q) (Nat.le_refl _) ?_,rfl,q _ (I.hok.fresh (Nat.le_refl _))⟩
 exact ⟨Nat.le_trans (yp xs lo hi) hz,_,0,(r.drop (HT.sIx xs.length 0 lo)).take (HT.sIx xs.length xs.length hi - HT.sIx xs.length 0 lo),Heap.get?_push_size _ rfl⟩
def Yz:V->Bool
 | .non=>true
 | .bl _=>true
 | .int _=>true
 | .str _=>true
 | _=>false
def eqV:V->V->Bool
 | .non,.non=>true
 | .bl a,.bl b=>a==b
 | .bl a,.int b=>(if a then 1 else 0)==b
 | .int a,.bl b=>a==(if b then 1 else 0)
 | .int a,.int b=>a==b
 | .str a,.str b=>a==b
 | _,_=>false
theorem Qfq {A:Around} {s:Shared} {y x:V} {u v:Value} (ry:RelV y u) (rx:RelV x v) (fy:Yz y=true) (fx:Yz x=true):SeqAt.EqAt A s u v (eqV y x):=by
  cases y with
  | non =>
    cases ry
    cases x with
    | non=>cases rx;exact SeqAt.EqAt.same _
    | bl b=>cases rx;exact SeqAt.EqAt.none_bool b
    | int b=>obtain ⟨t,rfl⟩:=rx;exact SeqAt.EqAt.none_int b t
    | str b=>obtain ⟨t,rfl⟩:=rx;exact SeqAt.EqAt.none_str b t
    | _=>exact absurd (show false=true from fx) Bool.false_ne_true
  | bl a =>
    cases ry
    cases x with
    | non=>cases rx;exact SeqAt.EqAt.bool_none a
    | bl b=>cases rx;exact SeqAt.EqAt.bool_bool a b
    | int b=>obtain ⟨t,rfl⟩:=rx;exact SeqAt.EqAt.bool_int a b t
    | str b=>obtain ⟨t,rfl⟩:=rx;exact SeqAt.EqAt.bool_str a b t
    | _=>exact absurd (show false=true from fx) Bool.false_ne_true
  | int a =>
    obtain ⟨t',rfl⟩:=ry
    cases x with
    | non=>cases rx;exact SeqAt.EqAt.int_none a t'
    | bl b=>cases rx;exact SeqAt.EqAt.int_bool a t' b
    | int b=>obtain ⟨t,rfl⟩:=rx;exact SeqAt.EqAt.int_int a t' b t
    | str b=>obtain ⟨t,rfl⟩:=rx;exact SeqAt.EqAt.int_str a t' b t
    | _=>exact absurd (show false=true from fx) Bool.false_ne_true
  | str a =>
    obtain ⟨t',rfl⟩:=ry
    cases x with
    | non=>cases rx;exact SeqAt.EqAt.str_none a t'
    | bl b=>cases rx;exact SeqAt.EqAt.str_bool a t' b
    | int b=>obtain ⟨t,rfl⟩:=rx;exact SeqAt.EqAt.str_int a t' b t
    | str b=>obtain ⟨t,rfl⟩:=rx;exact SeqAt.EqAt.str_str a t' b t
    | _=>exact absurd (show false=true from fx) Bool.false_ne_true
  | _=>exact absurd (show false=true from fy) Bool.false_ne_true
def eqU (x:V) (u:Value):Bool:=match u with
 | .none=>eqV .non x
 | .bool b=>eqV (.bl b) x
 | .int i _=>eqV (.int i) x
 | .str z _=>eqV (.str z) x
 | _=>false
theorem QbC {x y:V} {u:Value} (r:RelV y u) (f:Yz y=true):eqU x u=eqV y x:=by
 cases y with
 | non=>cases r;rfl
 | bl b=>cases r;rfl
 | int i=>obtain ⟨t,rfl⟩:=r;rfl
 | str z=>obtain ⟨t,rfl⟩:=r;rfl
 | _=>exact absurd (show false=true from f) Bool.false_ne_true
theorem KO {x:V}:∀ {xs:List V} {us:List Value},Vals xs us->xs.all Yz=true->us.any (eqU x)=xs.any fun y=>eqV y x
  | _,_,.nil,_=>rfl
  | y::xs,u::us,.cons r t,f=>by
    rw [List.all_cons,Bool.and_eq_true] at f
    rw [List.any_cons,List.any_cons,QbC r f.1,KO t f.2]
theorem VF {A:Around} {s:Shared} {x:V} {v:Value} (rx:RelV x v) (fx:Yz x=true):∀ {xs:List V} {us:List Value},Vals xs us->xs.all Yz=true->∀ u∈us,SeqAt.EqAt A s u v (eqU x u)
  | _,_,.nil,_=>fun u hu=>by cases hu
  | y::xs,u::us,.cons r t,f=>fun u' hu=>by
    rw [List.all_cons,Bool.and_eq_true] at f
    rcases List.mem_cons.mp hu with rfl | hu
    . rw [QbC r f.1];exact Qfq r rx f.1 fx
    . exact VF rx fx t f.2 u' hu
def inV (x:V) (xs:List V):Bool:=xs.any fun y=>eqV y x
def rIn (K:PySem.W.Frag) (neg:Bool):R2:=fun x y H Q=>∃ p xs,y=.ref p/\(SqL K H p xs∨SqT K H p xs)/\Yz x=true/\xs.all Yz=true/\Q (.bl (if neg then !inV x xs else inV x xs)) H
theorem QaP:OpR X (compareOp .In) (rIn X.K false):=by
 intro pins s σ H x y v u Q I rx ry h
 obtain ⟨p,xs,rfl,hq,fx,fs,q⟩:=h
 cases ry
 rcases hq with hq | hq
 ·obtain ⟨its,r,pl,hz⟩:=I.list hq
  refine SeqAt.in_listAt (eqU x) pl.isList (fun w hw=>VF rx fx r fs w (by simpa using hw)) ⟨.bl _,H,I,rfl,?_⟩
  rw [show its.toArray.any (eqU x)=its.any (eqU x) by simp,KO r fs]
  exact q
 ·obtain ⟨its,r,pl,hz⟩:=I.tuple hq
  refine SeqAt.in_tupleAt (eqU x) pl (fun w hw=>VF rx fx r fs w (by simpa using hw)) ⟨.bl _,H,I,rfl,?_⟩
  rw [show its.toArray.any (eqU x)=its.any (eqU x) by simp,KO r fs]
  exact q
theorem qy:CallR X (.builtin "len") (fun xs H Q=>∃ p ys,xs=[.ref p]/\(SqL X.K H p ys∨SqT X.K H p ys)/\Q (.int ys.length) H):=by
 intro pins s σ H xs us Q I r h
 obtain ⟨p,ys,rfl,hq,q⟩:=h
 obtain ⟨u,rfl,rx⟩:=Ui r
 cases rx
 have hn:=Gu
 rcases hq with hq | hq
 ·obtain ⟨its,r',pl,hz⟩:=I.list hq
  have hlen:=r'.length
  exact Calls.call_len_list pl.isList (by simp only [List.size_toArray]<;>omega) ⟨.int ys.length,H,I.tok _,⟨s.toks+1,by rw [List.size_toArray,hlen]⟩,q⟩
 ·obtain ⟨its,r',pl,hz⟩:=I.tuple hq
  have hlen:=r'.length
  exact len_tuple pl (by simp only [List.size_toArray]<;>omega) ⟨.int ys.length,H,I.tok _,⟨s.toks+1,by rw [List.size_toArray,hlen]⟩,q⟩
theorem call_list_of:CallR X (.type "list") (fun xs H Q=>∃ p ys,xs=[.ref p]/\(SqL X.K H p ys∨SqT X.K H p ys)/\∀ l,H l=none->Q (.ref l) (upd H l (.lst ys))):=by
 intro pins s σ H xs us Q I r h
 obtain ⟨p,ys,rfl,hq,q⟩:=h
 obtain ⟨u,rfl,rx⟩:=Ui r
 cases rx
 have fin:∀ (its:List Value),Vals ys its->ys.length<=sizeLine->∀ (h':Heap) (c':Nat),(∀ b o',s.heap.get? b=some o'->h'.get? b=some o') ->
   h'.get? s.heap.objs.size=some { cls:=.type "list", dict:=none,data:=.seq its.toArray c',slots:=#[] }->EP X pins σ Q (.ref s.heap.objs.size) { s with heap:=h' }:=fun its r' hz h' c' kp e =>
  ⟨.ref s.heap.objs.size,_,I.laid (t':=s.toks) kp (Nat.le_refl _) (show ObjOk X.prog X.w _ h' _ (.lst ys) from ⟨hz,its,c',r',e⟩),rfl,q _ (I.hok.fresh (Nat.le_refl _))⟩
 rcases hq with hq | hq
 ·obtain ⟨its,r',pl,hz⟩:=I.list hq
  have hlen:=r'.length
  obtain ⟨o,ho,hc,n,hd⟩:=pl.isList
  exact call_list_seq p (.inl rfl) ho hc hd (fun h' c' kp e=>fin its r' hz h' c' kp e) (by simp only [List.size_toArray]<;>omega)
 ·obtain ⟨its,r',pl,hz⟩:=I.tuple hq
  have hlen:=r'.length
  obtain ⟨o,ho,hc,n,hd⟩:=pl
  exact call_list_seq p (.inr rfl) ho hc hd (fun h' c' kp e=>fin its r' hz h' c' kp e) (by simp only [List.size_toArray]<;>omega)
theorem YO:CallR X (.type "tuple") (fun xs H Q=>∃ p ys,xs=[.ref p]/\((SqL X.K H p ys/\∀ l,H l=none->Q (.ref l) (upd H l (.tup ys)))∨(SqT X.K H p ys/\Q (.ref p) H))):=by
 intro pins s σ H xs us Q I r h
 obtain ⟨p,ys,rfl,h⟩:=h
 obtain ⟨u,rfl,rx⟩:=Ui r
 cases rx
 rcases h with ⟨hq,q⟩ | ⟨hq,q⟩
 ·obtain ⟨its,r',pl,hz⟩:=I.list hq
  have hlen:=r'.length
  refine call_tuple_list pl.isList (fun h' kp=>?_) (by simp only [List.size_toArray]<;>omega)
  have I1:Inv X pins σ H { s with heap:=h' }:=I.kept (t':=s.toks) kp
  have I2:Inv X pins σ (upd H h'.objs.size (.tup ys)) { s with heap:=h'.push { cls:=.type "tuple", data:=.seq its.toArray } } :=
   I1.laid (t':=s.toks) (fun b o e=>Heap.get?_push_of_some _ e) (Nat.le_refl _) (show ObjOk X.prog X.w _ _ _ (.tup ys) from ⟨hz,its,r',IsTup.new _ _⟩)
  exact ⟨.ref h'.objs.size,_,I2,rfl,q _ (I1.hok.fresh (Nat.le_refl _))⟩
 ·obtain ⟨its,r',pl,hz⟩:=I.tuple hq
  exact call_tuple_same pl ⟨.ref p,H,I,rfl,q⟩
def tyV (K:PySem.W.Frag) (T:String) (x:V) (H:Hp):Prop:=match x with
 | .str _=>T = "str"
 | .int _=>T = "int"
 | .ref p=>(T = "list" /\ ∃ xs,SqL K H p xs)∨(T = "tuple" /\ ∃ o,K.lookup p=some o/\o.cls=.type "tuple" /\ o.dict=none) ∨
   (T = "dict" /\ ((∃ kvs,H p=some (.dK kvs))∨∃ kvs,H p=some (.dT kvs)))∨(T = "set" /\ ∃ S n,H p=some (.set S n))
 | _=>False
theorem Qgx {pins:List (Addr×Obj)} {σ:St} {H:Hp} {s:Shared} {T:String} {x:V} {v:Value} (I:Inv X pins σ H s) (r:RelV x v) (ty:tyV X.K T x H) :
    s.TypeIs v T/\∀ a,v=.ref a->∃ ob,s.heap.get? a=some ob/\ob.dict=none:=by
  cases x with
  | str z =>
    obtain ⟨t,rfl⟩:=r
    cases (show T = "str" from ty)
    exact ⟨typeIs_str s z t,fun _ e=>nomatch e⟩
  | int i =>
    obtain ⟨t,rfl⟩:=r
    cases (show T = "int" from ty)
    exact ⟨typeIs_int s i t,fun _ e=>nomatch e⟩
  | ref p =>
    cases r
    rcases ty with ⟨rfl,xs,hq⟩ | ⟨rfl,o,hk,hc,hd⟩ | ⟨rfl,hk⟩ | ⟨rfl,S,n,hk⟩
    . obtain ⟨its,_,pl,_⟩:=I.list hq
      refine ⟨pl.isList.typeIs,fun a e=>?_⟩
      cases e
      obtain ⟨o,n,e,c,hd,_⟩:=pl
      exact ⟨o,e,hd⟩
    . refine ⟨⟨o,I.kIn p o hk,hc⟩,fun a e=>?_⟩
      cases e
      exact ⟨o,I.kIn _ o hk,hd⟩
    . have z:∃ o,s.heap.get? p=some o/\o.ExactDict:=by
        rcases hk with ⟨kvs,hk⟩ | ⟨kvs,hk⟩
        . obtain ⟨_,_,_,_,o,_,_,e,ex,_⟩:=I.hok p _ hk
          exact ⟨o,e,ex⟩
        . obtain ⟨_,_,_,_,o,_,_,e,ex,_⟩:=I.hok p _ hk
          exact ⟨o,e,ex⟩
      obtain ⟨o,e,ex⟩:=z
      refine ⟨⟨o,e,ex.1⟩,fun a e2=>?_⟩
      cases e2
      exact ⟨o,e,ex.2.1⟩
    . obtain ⟨o,_,_,_,e,ex,_⟩:=I.hok p _ hk
      refine ⟨⟨o,e,ex.1⟩,fun a e2=>?_⟩
      cases e2
      exact ⟨o,e,ex.2.1⟩
  | _=>exact False.elim ty
def tBM (K:PySem.W.Frag) (T:String) (r:V->List V->Hp->VK->Prop) (to:TE) (t:TA):TE:=fun σ H Q=>to σ H fun x H1=>tyV K T x H1/\t σ H1 fun xs H2=>r x xs H2 Q
variable {o e:Expr} {es:List Expr} {to:TE} {t:TA} {name:Str} {apos cpos:Pos} {T id:String} {r:V->List V->Hp->VK->Prop}
theorem Qho (pa:PlainAttrs T) (slot:Slot T name id) (hty:typeOf (.builtin id)=pure (.type "method_descriptor")) (hm:MtR X id r) (ho:PE X o to) (ha:PA X (e::es) t)
  (hbase:attributeBase o name X.env (eval o X.env)=eval o X.env:=by rfl)
  (hfew:((backTo cpos (starEach (e::es) X.env)).all (fun x=>!x.1)&&(backToKw cpos (keywordEach [] X.env)).all (fun x=>x.1.isSome)
   && decide ((e::es).length+([]:List Keyword).length+(if ([]:List Keyword).isEmpty then 0 else 1) < 30))=true:=by rfl)
  (hline:(apos.endLine==cpos.line)=true:=by rfl) (hs:starEach (e::es) X.env=(false,eval e X.env)::starEach es X.env:=by rfl) (hplain:(backTo cpos (starEach es X.env)).any (·.1)=false:=by rfl) :
  PE X (.Call (.Attribute o name apos) (e::es) [] cpos) (tBM X.K T r to t):=by
 intro pins s σ H Q I h
 refine wpAny_Call_method_late hbase hfew hline rfl (thn (ho pins s σ H _ I h) fun v s1 ⟨x,H1,I1,r1,ty,q1⟩=>?_)
 obtain ⟨h1,h2⟩:=Qgx I1 r1 ty
 refine ⟨T,id,pa,slot,hty,h1,h2,?_⟩
 have hA:=ha cpos pins s1 σ H1 _ I1 q1
 rw [hs] at hA ⊢
 refine Calls.callWith_builtin (by show (false||(backTo cpos (starEach es X.env)).any (·.1))=false;rw [hplain]<;>rfl) (Calls.evalArgs_plain ?_)
 exact thn hA fun us s2 ⟨vs,H2,I2,r2,q2⟩=>hm pins s2 σ H2 x vs v us Q I2 r1 r2 q2
/- xs.append(e),list.index on a module's tuple .. are MtR facts of 06m -/
end
end L2
namespace L2
open PySem PySem.Spec PyProof.Rows
def MtM (X:Cx) (id:String) (r:V->List V->Hp->VK->Prop):Prop :=
  ∀ (pins : List (Addr × Obj)) (s : Shared) (σ : St) (H : Hp) (x : V) (xs : List V) (v : Value) (us : List Value) (Q : VK), Inv X pins σ H s -> RelV x v -> Vals xs us -> r x xs H Q ->
    wpAny (model X.prog X.w) X.A (call (.builtin id) (v::us)) (EP X pins σ Q) X.xe s
theorem Vals.one:∀ {x:V} {us:List Value},Vals [x] us->∃ u,us=[u]/\RelV x u
 | _,_,.cons r .nil=>⟨_,rfl,r⟩
section
variable {X:Cx} {pins:List (Addr×Obj)} {σ:St} {H:Hp} {s:Shared} {l b:Addr} {xs ys zs:List V}
theorem Inv.lset {its its':List Value} {n:Nat} {f:Array Value->Array Value} {t':Nat} (I:Inv X pins σ H s) (hH:H l=some (.lst xs))
  (e:s.heap.get? l=some { cls:=.type "list", data:=.seq its.toArray n }) (hf:f its.toArray=its'.toArray) (hv:Vals ys its') (hz:ys.length<=sizeLine) :
  Inv X pins σ (upd H l (.lst ys)) { s with heap:=s.heap.update l (Obj.mapSeq f),toks:=t' }:=by
 have q:=PySem.IsL.update e f
 rw [hf] at q
 refine I.write (x:=l) (e:=l) (by rw [hH];exact trivial) (.inl rfl) (fun b' u hb hu=>(Heap.get?_update_other s.heap (Obj.mapSeq f) (Ne.symm hb)).trans hu) ⟨_,q⟩ ?_
 exact ⟨hz,its',_,hv,q⟩
theorem Inv.lnew {its:List Value} {t':Nat} (I:Inv X pins σ H s) (hv:Vals ys its) (hz:ys.length<=sizeLine) :
  Inv X pins σ (upd H s.heap.objs.size (.lst ys)) { s with heap:=s.heap.push { cls:=.type "list", data:=.seq its.toArray },toks:=t' } :=
 I.laid (fun _ _ q=>Heap.get?_push_of_some _ q) (Nat.le_refl _) ⟨hz,its,0,hv,Heap.get?_push_size _ rfl⟩
theorem Inv.fresh (I:Inv X pins σ H s):H s.heap.objs.size=none:=I.hok.fresh (Nat.le_refl _)
theorem Inv.lstM (I:Inv X pins σ H s) (hH:H l=some (.lst xs)):xs.length<=sizeLine/\∃ (its:List Value) (n:Nat),Vals xs its/\xs.length=its.length/\s.heap.get? l=some { cls:=.type "list", data:=.seq its.toArray n }:=by
 obtain ⟨z,its,n,r,e⟩:=I.hok l _ hH
 exact ⟨z,its,n,r,r.length,e⟩
theorem Qcg {n:Nat} (h:n<=sizeLine):Builtin.List.listTooLong n=false:=by
 unfold Builtin.List.listTooLong
 exact decide_eq_false (by omega)
end
section
variable {X:Cx}
def Qel:V->List V->Hp->VK->Prop:=fun x vs H Q=>∃ l xs y,x=.ref l/\vs=[y]/\H l=some (.lst xs)/\xs.length < sizeLine/\Q .non (upd H l (.lst (xs++[y])))
theorem Kg:MtM X "list.append" Qel:=by
 intro pins s σ H x vs v us Q I rx rv h
 obtain ⟨l,xs,y,rfl,rfl,hH,hz,q⟩:=h
 cases rx
 obtain ⟨u,rfl,ru⟩:=rv.one
 obtain ⟨z,its,n,r,hl,e⟩:=I.lstM hH
 refine call_meets F.slot_list_append ⟨_,e,rfl⟩ F.entry_list_append (F.args_list_append_2 _ _) (PySem.list_append l its.toArray n u (by rw [List.size_toArray];omega)) ⟨e,?_⟩
 refine ⟨.non,_,I.lset (its':=its++[u]) hH e (by simp) (r.append (.cons ru .nil)) ?_,rfl,q⟩
 rw [List.length_append,List.length_singleton]
 omega
def Qem:V->List V->Hp->VK->Prop:=fun x vs H Q=>∃ l b xs zs,x=.ref l/\vs=[.ref b]/\H l=some (.lst xs)/\H b=some (.lst zs)/\xs.length+zs.length<=sizeLine/\Q .non (upd H l (.lst (xs++zs)))
theorem QaJ:MtM X "list.extend" Qem:=by
 intro pins s σ H x vs v us Q I rx rv h
 obtain ⟨l,b,xs,zs,rfl,rfl,hH,hB,hz,q⟩:=h
 cases rx
 obtain ⟨u,rfl,ru⟩:=rv.one
 cases ru
 obtain ⟨z,its,n,r,hl,e⟩:=I.lstM hH
 obtain ⟨z2,its2,n2,r2,hl2,e2⟩:=I.lstM hB
 have hsz:its.toArray.size+its2.toArray.size<=sizeLine:=by rw [List.size_toArray,List.size_toArray];omega
 have hlong:¬ (!its.toArray.isEmpty&&Builtin.List.listTooLong (its.toArray.size+its2.toArray.size))=true:=by
  rw [Qcg hsz,Bool.and_false]
  exact Bool.false_ne_true
 refine call_meets F.slot_list_extend ⟨_,e,rfl⟩ F.entry_list_extend (F.args_list_extend_2 _ _)
  (AutoSeq1.list_extend_list_list_0 l its.toArray n b its2.toArray n2 hlong (by rw [List.size_toArray];omega) (by omega)) ⟨e,e2,?_⟩
 refine ⟨.non,_,I.lset (its':=its++its2) hH e (by simp) (r.append r2) ?_,rfl,q⟩
 rw [List.length_append]
 omega
end
section
variable {prog:Program} {w:World} {A:Around} {E:Value->Shared->Prop} {s:Shared}
end
section
variable {X:Cx}
end
end L2
namespace Att
open PySem PySem.W PySem.Calls PyProof.Rows
theorem yX {P:Params} {h:Heap}:∀ (ns:List Int) (vs:List Value),WellAll P h vs (ns.map WData.int)->IntsAre vs ns:=by
  intro ns
  induction ns with
  | nil =>
    intro vs w
    rw [List.map_nil] at w
    cases w
    exact .nil
  | cons n ns ih =>
    intro vs w
    rw [List.map_cons] at w
    cases w with
    | cons a b =>
      cases a
      exact .cons _ _ (ih _ b)
theorem script_of {l:OpenLaw} {n:Nat} (hn:l.most=some n) {P:Params} {h:Heap} {args:List WData} {vals:List Value}
    (hpre:l.row.toRowW.claim.pre args=true) (hwl:WellAll P h vals args) :
    ∃ a vs ns,vals=[Value.ref a]/\args=[WData.list (ns.map WData.int)]/\h.get? a=some { cls:=.type "list", data:=.seq vs.toArray }/\IntsAre vs ns/\ns.length<=n:=by
  have hsh:WShape.hasAll [] args [.list .int]=true:=(pre_splitW hpre).1
  have hc:l.pre.holds [] { args:=args }=true:=(pre_splitW hpre).2
  obtain ⟨d,r,rfl,h1,h2⟩:=hasAllW_cons hsh
  obtain rfl:=hasAllW_nil h2
  obtain ⟨xs,rfl,h3⟩:=hasW_list h1
  obtain ⟨ns,rfl⟩:=items_int h3
  have hlen:ns.length<=n:=by
    unfold OpenLaw.pre at hc
    have h4:(WTm.not (.lt (.lit (.int (n:Int))) (.len (.arg 0)))).holds [] { args:=[.list (ns.map .int)] }=true:=by
      have h4:=(holds_andW hc).1
      rw [hn] at h4
      exact h4
    have h5:=condW_of h4 (w_not (w_lt w_lit (w_len_list (w_arg rfl))))
    rw [List.length_map] at h5
    refine Nat.le_of_not_lt fun q=>?_
    have q':(n:Int) < ((ns.length:Nat):Int):=by omega
    first
      | (rw [decide_eq_true q'] at h5;exact absurd h5 (by decide))
      | (simp at h5;omega)
  cases hwl with
  | cons w1 w2 =>
    cases w2
    cases w1 with
    | list ho hall=>exact ⟨_,_,ns,rfl,rfl,ho,yX ns _ hall,hlen⟩
theorem post_true (l:OpenLaw) (args:List WData):l.row.toRowW.claim.post args (.bool true) args=true :=
 postW_of (r:=l.row.toRowW) (X:=(true==true))
  (show WShape.has [] (.bool true) .bool=true by first | rfl | decide | simp [WShape.has,WShape.arms,WShape.armsAll])
  (show (WTm.eq .res (.lit (.bool true))).value [] { args:=args,res:=some (.bool true),after:=args }=some (.bool (true==true)) from w_eq_bool (w_res rfl) w_lit) rfl
section
variable {prog:Program} {w:World} {A:Around} {E:Value->Shared->Prop} {s:Shared} {K:Frag}
def Qh6 (h:Heap) (L d:Addr):List (Addr×Obj):=(List.range h.objs.size).filterMap fun a=>if a=L∨a=d then none else (h.get? a).map fun o=>(a,o)
end
end Att
namespace L2
open PySem PySem.Spec PyProof.Rows
theorem qk:∀ {vs:List Value} {ns:List Int},IntsAre vs ns->Vals (ns.map V.int) vs
 | _,_,.nil=>.nil
 | _,_,.cons n t h=>.cons ⟨t,rfl⟩ (qk h)
def Qe7 (H:Hp):Prop:=∀ b,H b=none∨∃ o xs,H b=some (.frz o (.lst xs))
theorem QbY {P:Program} {w:World} {K:PySem.W.Frag} {mg mb:Str->Option Value} {CX:CXT} {k:Nat} {fa a:Addr} {fd:FuncData} {x:Str} {sp:Sp} {s₁:Shared} {vs:List Value} {ns:List Int}
    (KX:K.In s₁.heap) (hns:s₁.heap.Ns mainGlobals mg) (hb:s₁.heap.Ns builtinsNs mb) (hbb:∀ x:Str,x ≠ "__name__" -> mb x=bootBuiltins x) (hlim:s₁.heap.NoLimit) (hg:s₁.gens = #[])
    (ha:s₁.heap.get? a=some { cls:=.type "list", data:=.seq vs.toArray }) (hi:IntsAre vs ns) (hl:ns.length<=sizeLine) (hr:Room k callerA)
    (F:∀ base:Heap,K.In base->base.Ns mainGlobals mg->q8 P w K mg base CX k fa fd [x] sp) (hbind:∀ (s:Shared) (u:Value),BindsTo s fd ⟨[u],[]⟩ [(x,u)])
    (hsp:∀ H:Hp,Qe7 H->SqL K H a (ns.map V.int)->sp [.ref a] H (fun v _=>v=.bl true) fun _ _ _=>False)
    (hCX:∀ H e s',CX [] H s₁ (fun _ _ _=>False) e s'->False) :
    codeAny (model P w) callerA (.call (.ref fa) ⟨[.ref a],[]⟩) (fun r s'=>r=.ok (.ret (.bool true))/\OldK s₁.heap s'.heap/\s'.os=s₁.os/\AllBare s'.gens) s₁:=by
  have rv:=qk hi
  have lenV:=hi.length
  have core:∀ H:Hp,Qe7 H->SqL K H a (ns.map V.int)->HOk P w H s₁.heap->(∀ b,H b≠none->b=a)->(H a≠none->K.lookup a=none) ->
      codeAny (model P w) callerA (.call (.ref fa) ⟨[.ref a],[]⟩) (fun r s'=>r=.ok (.ret (.bool true))/\OldK s₁.heap s'.heap/\s'.os=s₁.os/\AllBare s'.gens) s₁:=by
    intro H hO hS hok hA hK
    have base_of:∀ {b:Addr} {o:Obj},s₁.heap.get? b=some o->H b=none->(Gd s₁.heap H).get? b=some o:=fun e n=>QbO e n
    have noA:∀ {b:Addr} {o:Obj} {es:Array DictEntry} {ep:Nat},s₁.heap.get? b=some o->o.data=.dict es ep->H b=none:=fun {b o es ep} e d=>by
      cases q:H b with
      | none=>rfl
      | some u =>
        have e':b=a:=hA b (by rw [q];simp)
        subst e'
        rw [ha] at e;cases e
        have d':Data.seq vs.toArray _=Data.dict es ep:=d
        cases d'
    have nsK:∀ {b:Addr} {m:Str->Option Value},s₁.heap.Ns b m->(Gd s₁.heap H).Ns b m:=fun {b m} ⟨o,es,ep,e,d,r⟩=>⟨o,es,ep,base_of e (noA e d),d,r⟩
    have hKb:K.In (Gd s₁.heap H):=fun b o e=>base_of (KX b o e) (by
      cases q:H b with
      | none=>rfl
      | some u =>
        have e':b=a:=hA b (by rw [q];simp)
        subst e'
        rw [hK (by rw [q];simp)] at e;cases e)
    have hM:Mod K mg (Gd s₁.heap H):=⟨hKb,nsK hns,⟨mb,nsK hb,hbb⟩,let ⟨mc,h1,h2⟩:=hlim;⟨mc,nsK h1,h2⟩⟩
    have e0:Env0 P w K mg (Gd s₁.heap H) callerA [] s₁ H:=⟨rfl,hM,fun b o e=>QdO e,Nat.le_of_eq (Qay _ _),trivial,fun b hb=>absurd (show b∈([]:List Addr) from hb) (by simp),hok,.of_eq hg⟩
    refine codeAny_mono ((F _ hKb (nsK hns)).run callerA [] s₁ H ⟨[.ref a],[]⟩ [.ref a] [.ref a] _ _ hr e0 (hbind s₁ (.ref a)) (.cons rfl .nil) (hsp H hO hS)) fun r s' h=>?_
    cases r with
    | error e=>exact (hCX H e s' h).elim
    | ok fl =>
      cases fl with
      | next=>exact False.elim h
      | brk=>exact False.elim h
      | cont=>exact False.elim h
      | ret u =>
        obtain ⟨v,H',os,bare,un,hok',r',q⟩:=h
        have q':v=.bl true:=q
        subst q'
        obtain rfl:u=Value.bool true:=r'
        refine ⟨rfl,OldK.of_keep fun b o e=>?_,os,bare⟩
        cases q:H b with
        | none=>exact un.keep b o e q (by intro z;exact absurd (show b∈([]:List Addr) from z) (by simp)) (by simp)
        | some u =>
          rcases hO b with z | ⟨ob,xs,z⟩
          . rw [q] at z;cases z
          . have z2:=un.frzs b ob _ z
            obtain ⟨e1,_⟩:=hok b _ z
            obtain ⟨e2,_⟩:=hok' b _ z2
            rw [e] at e1;cases e1
            exact e2
  cases hk:K.lookup a with
  | some o =>
    have e:=KX a o hk
    rw [ha] at e
    cases e
    refine core (fun _=>none) (fun _=>.inl rfl) (.inr ⟨_,vs.toArray,_,hk,rfl,rfl,rfl,by rw [List.size_toArray,lenV];exact hl,by simpa using rv⟩) (fun b u z=>by have z':(none:Option HO)=some u:=z;cases z') (fun b z=>absurd rfl z) fun z=>absurd rfl z
  | none =>
    refine core (fun b=>if b=a then some (.frz { cls:=.type "list", data:=.seq vs.toArray } (.lst (ns.map V.int))) else none) (fun b=>?_) (.inl (.inr ⟨{ cls:=.type "list", data:=.seq vs.toArray },if_pos rfl⟩)) (fun b u z=>?_) (fun b z=>?_) fun _=>hk
    . by_cases hb:b=a
      . exact .inr ⟨_,_,if_pos hb⟩
      . exact .inl (if_neg hb)
    . by_cases hb:b=a
      . have z':=(if_pos hb).symm.trans z
        cases z'
        subst hb
        exact ⟨ha,by rw [List.length_map];exact hl,vs,_,rv,ha⟩
      . have z':=(if_neg hb).symm.trans z
        cases z'
    . by_cases hb:b=a
      . exact hb
      . exact absurd (if_neg hb) z
end L2
namespace L2
open PySem PySem.Spec PyProof.Rows
end L2
/- THE LAST THEOREM (shape; LID, My.* are yours):
   My.Adr: a structure of the addresses that your layer names (classes,functions);My.Txt K t: a structure (Prop) of the equations over K;
   My.txt_mk:{K} {implicit addresses ..} (e1:nsIn K mainGlobals "law" = some (some (.ref f))) (e2:K.lookup f=some ⟨oc,od,.func (fnOf "law" "law" params body scope dV kV doc pm an cdv ct),sl⟩) (e3:codeIn K cdv "law" = true) ..:∃ t,My.Txt K t
set_option maxRecDepth 100000 in
set_option maxHeartbeats 0 in
theorem PySem.Challenge.cw_LID_holds : PySem.Challenge.rw_LID.Holds := by
 w_on;o_law;k_head;(case hw=>w_witness2)
 k_fill
 refine L2.walk_of (l:=PySem.Challenge.rw_LID) (n:=63) (k:=40) (x := "script") (CX:=fun w=>..) (sp:=fun _=>My.sp_law) rfl (by decide) rfl ⟨rfl,by decide,by decide⟩ (fun w h Y=>PySem.W.kIn_of Y) ?F ?S ?C
 case F =>
  intro w mg fa h KX G hmg
  have T:∃ t,My.Txt (L2.KOf KX) t:=by
   dsimp only [L2.KOf]                          -- K must stand as «<heap const> w.params» for k_is
   refine' My.txt_mk ?e1 ?e2 ?e3 ..
   (case e1=>PySem.W.k_is)                    -- in the order: a name->its address->its object->its parts
   (case e2=>PySem.W.k_is)
   ..
  obtain ⟨t,T⟩:=T
  have e0:=hmg.symm.trans (PySem.W.mg_of KX G T.law)
  cases e0                                       -- fa is the law's own address
  exact ⟨_,fun s u=>.of_eq rfl,fun base kb nb=>My.law_fn T kb nb⟩     -- if «.of_eq rfl» comes too early: refine' ⟨_,?b,fun base kb nb=>My.law_fn T kb nb⟩;exact fun s u=>.of_eq rfl
 case S=>exact fun w H a ns hl hO hS=>..
 case C=>exact ..
(the tactic k_is has no namespace: write k_is) -/
namespace L2
open PySem PySem.Spec PyProof.Rows
def Zc (s:Stmt) (j:Nat):Stmt:=match s with
 | .ClassDef _ _ _ body _ _ _ _ _ _ _=>body.getD j (.Pass ⟨0,0,0,0⟩)
 | _=>.Pass ⟨0,0,0,0⟩
def Jy (s:Stmt):Arguments:=match s with
 | .FunctionDef _ a _ _ _ _ _ _ _ _=>a
 | _=>{ posonlyargs:=[],args:=[],vararg:=none,kwonlyargs:=[],kw_defaults:=[],kwarg:=none,defaults:=[] }
def ZF (s:Stmt):List Stmt:=match s with
 | .FunctionDef _ _ b _ _ _ _ _ _ _=>b
 | _=>[]
def Qo (s:Stmt):Scope:=match s with
 | .FunctionDef _ _ _ _ _ _ sc _ _ _=>sc
 | _=>{ kind:=.function,names:=[],isGenerator:=false,isCoroutine:=false }
abbrev CX0:CXT:=fun _ _ _ _ _ _=>False
abbrev E0:XK:=fun _ _ _=>False
theorem QE {X:Cx}:YM CX0 X E0:=fun _ _ _ _ _ _ _ h=>h.elim
structure Fun (K:PySem.W.Frag) (x qual:Str) (st:Stmt) (f:Addr) (fd:FuncData):Prop where
 ex:∃ (oc:Value) (od:Option Addr) (kV doc pm:Value) (an:Option Addr) (cdv ct:Value) (osl:Array (Option Value)),
  fd=PySem.W.fnOf x qual (Jy st) (ZF st) (Qo st) .none kV doc pm an cdv ct/\K.lookup f=some ⟨oc,od,.func fd,osl⟩/\PySem.W.codeIn K cdv qual=true
 kp:PySem.W.keepIn K (.ref f)=true
section
variable {P:Program} {w:World} {K:PySem.W.Frag} {mg:Str->Option Value} {base:Heap}
theorem Fun.ok {x qual:Str} {st:Stmt} {f:Addr} {fd:FuncData} {N ps:List Str} {k:Nat} {sp:Sp} (F:Fun K x qual st f fd) (S:Qs N ps (Qo st)) (len:∀ vs H Q E,sp vs H Q E->vs.length=ps.length)
  (hbody:∀ (cdv:Value) (A:Around) (outer:List Env) (s:Shared) (H:Hp) (vs:List V) (Q:VK) (E:XK),Room k (A.deeper (envOfC qual (Qo st) s.heap.objs.size f cdv))->sp vs H Q E ->
   ∃ t,PSs (yR CX0 P w K mg base N qual (Qo st) f cdv A outer s H E).nox (ZF st) t/\t { nx:=fun _ H'=>Q .non H',rt:=Q } (start N vs) H):q8 P w K mg base CX0 (k+1) f fd ps sp:=by
 obtain ⟨oc,od,kV,doc,pm,an,cdv,ct,osl,rfl,lk,hcd⟩:=F.ex
 refine QgZ lk hcd S len fun A outer s H vs Q E hr hsp=>?_
 obtain ⟨t,h,q⟩:=hbody cdv A outer s H vs Q E hr hsp
 exact ⟨t,h.nox,q⟩
theorem Fun.binds {x qual:Str} {st:Stmt} {f:Addr} {fd:FuncData} {ps:List Str} (F:Fun K x qual st f fd)
  (h:∀ (kV doc pm:Value) (an:Option Addr) (cdv ct:Value) (us:List Value),us.length=ps.length->bindArgs (PySem.W.fnOf x qual (Jy st) (ZF st) (Qo st) .none kV doc pm an cdv ct) ⟨us,[]⟩=pure (ps.zip us)):Binds K fd ps []:=by
 obtain ⟨oc,od,kV,doc,pm,an,cdv,ct,osl,rfl,lk,hcd⟩:=F.ex
 exact .all (h kV doc pm an cdv ct)
theorem Ga {x qual:Str} {st:Stmt} {f:Addr} {oc:Value} {od an:Option Addr} {osl:Array (Option Value)} {kV doc pm cdv ct:Value} (l:K.lookup f=some ⟨oc,od,.func (PySem.W.fnOf x qual (Jy st) (ZF st) (Qo st) .none kV doc pm an cdv ct),osl⟩)
  (c:PySem.W.codeIn K cdv qual=true) (k:PySem.W.keepIn K (.ref f)=true):Fun K x qual st f (PySem.W.fnOf x qual (Jy st) (ZF st) (Qo st) .none kV doc pm an cdv ct):=⟨⟨oc,od,kV,doc,pm,an,cdv,ct,osl,rfl,l,c⟩,k⟩
end
theorem QS {A:Around} {k:Nat} (hr:Room k A):A.units+1 < cLine:=Nat.lt_of_le_of_lt (Nat.add_le_add_left (by decide:1<=64) _) hr.units
section
variable {X:Cx}
end
theorem vn {A B:Prop} (h:B):if false=true then A else B:=by
 rw [if_neg Bool.false_ne_true]
 exact h
theorem vo {A B:Prop} (h:A):if true=true then A else B:=by
 rw [if_pos rfl]
 exact h
end L2
set_option maxHeartbeats 4000000
namespace L2
open PySem PySem.Spec PyProof.Rows
section
variable {κ:Type} [DecidableEq κ]
def qj (kvs:List (κ×V)) (k:κ):Option V:=(kvs.find? fun kv=>decide (kv.1=k)).map (·.2)
def zA (kvs:List (κ×V)) (k:κ) (v:V):List (κ×V) :=
 if (kvs.any fun kv=>decide (kv.1=k))=true then kvs.map (fun kv=>if kv.1=k then (kv.1,v) else kv) else kvs++[(k,v)]
theorem Uh {p:κ×V} {r:List (κ×V)} {k:κ} (e:p.1=k):qj (p::r) k=some p.2:=by simp [qj,List.find?_cons,e]
theorem Ug {p:κ×V} {r:List (κ×V)} {k:κ} (e:¬ p.1=k):qj (p::r) k=qj r k:=by simp [qj,List.find?_cons,e]
theorem v7 (k:κ):∀ kvs:List (κ×V),(kvs.any fun kv=>decide (kv.1=k))=(qj kvs k).isSome
  | []=>rfl
  | p::r=>by
    rw [List.any_cons]
    by_cases e:p.1=k
    . simp only [Uh e,decide_eq_true e,Bool.true_or,Option.isSome_some]
    . rw [Ug e,decide_eq_false e,Bool.false_or];exact v7 k r
theorem yu (kvs:List (κ×V)) (k:κ) (v:V):(zA kvs k v).length<=kvs.length+1:=by
 unfold zA
 split
 ·rw [List.length_map];omega
 ·rw [List.length_append,List.length_cons,List.length_nil];omega
theorem RelO.isSome_eq {o:Option V} {u:Option Value} (r:RelO o u):o.isSome=u.isSome:=by
  cases o with
  | none=>cases u with
    | none=>rfl
    | some _=>exact (show False from r).elim
  | some _=>cases u with
    | none=>exact (show False from r).elim
    | some _=>rfl
theorem RelO.getD {o:Option V} {u:Option Value} {d:V} {d':Value} (r:RelO o u) (rd:RelV d d'):RelV (o.getD d) (u.getD d'):=by
  cases o with
  | none=>cases u with
    | none=>exact rd
    | some _=>exact (show False from r).elim
  | some _=>cases u with
    | none=>exact (show False from r).elim
    | some _=>exact r
theorem KV.val {kvs:List (κ×V)} {vs:List (κ×Value)} (r:KV kvs vs) (k:κ):RelO (qj kvs k) (valueAt vs k):=by
  unfold KV at r
  induction r with
  | nil=>exact True.intro
  | @cons p q ps qs h t ih =>
    obtain ⟨h1,h2⟩:=h
    by_cases e:p.1=k
    . have e':q.1=k:=h1.symm.trans e
      have b:valueAt (q::qs) k=some q.2:=by simp [valueAt,List.find?_cons,e']
      rw [Uh e,b];exact h2
    . have e':¬ q.1=k:=fun z=>e (h1.trans z)
      have b:valueAt (q::qs) k=valueAt qs k:=by simp [valueAt,List.find?_cons,e']
      rw [Ug e,b];exact ih
theorem KV.any {kvs:List (κ×V)} {vs:List (κ×Value)} (r:KV kvs vs) (k:κ):(kvs.any fun kv=>decide (kv.1=k))=vs.any fun kv=>decide (kv.1=k):=by
 unfold KV at r
 induction r with
 | nil=>rfl
 | cons h t ih=>rw [List.any_cons,List.any_cons,ih,h.1]
theorem KV.repl {kvs:List (κ×V)} {vs:List (κ×Value)} (r:KV kvs vs) (k:κ) {y:V} {u:Value} (ry:RelV y u) :
    KV (kvs.map fun kv=>if kv.1=k then (kv.1,y) else kv) (vs.map fun kv=>if kv.1=k then (kv.1,u) else kv):=by
  unfold KV at r ⊢
  induction r with
  | nil=>exact .nil
  | @cons p q ps qs h t ih =>
    rw [List.map_cons,List.map_cons]
    refine .cons ?_ ih
    obtain ⟨h1,h2⟩:=h
    by_cases e:p.1=k
    . rw [if_pos e,if_pos (h1.symm.trans e)];exact ⟨h1,ry⟩
    . rw [if_neg e,if_neg (fun z=>e (h1.trans z))];exact ⟨h1,h2⟩
theorem KV.put {kvs:List (κ×V)} {vs:List (κ×Value)} (r:KV kvs vs) (k:κ) {y:V} {u:Value} (ry:RelV y u):KV (zA kvs k y) (stored vs k u):=by
 unfold zA stored
 rw [r.any k]
 by_cases e:(vs.any fun kv=>decide (kv.1=k))=true
 ·rw [if_pos e,if_pos e];exact r.repl k ry
 ·rw [if_neg e,if_neg e];exact Paired.snoc r ⟨rfl,ry⟩
theorem KV.length {kvs:List (κ×V)} {vs:List (κ×Value)} (r:KV kvs vs):kvs.length=vs.length:=Paired.length r
end
theorem Kc {P:Program} {w:World} {k:Key} {u:Value} (r:RelV (kV k) u):(Z0 P w).is k u=true:=by
 cases k with
 | inl i=>obtain ⟨t,e⟩:=(show ∃ t,u=Value.int i t from r);subst e;exact vw P w i t
 | inr x=>obtain ⟨t,e⟩:=(show ∃ t,u=Value.str x t from r);subst e;exact vz P w x t
theorem Kb {P:Program} {w:World}:∀ {ks:List Key} {us:List Value},Vals (ks.map kV) us->ItemsAre (Z0 P w) ks us
  | [],_,r=>by rw [List.map_nil] at r;cases r;exact .nil
  | k::ks,_,r=>by
    rw [List.map_cons] at r
    cases r with
    | cons h t=>exact .cons (Kc h) (Kb t)
abbrev KT (H:Hp):List (List Key×V)->List (List Key×Addr×Value)->Prop:=Paired fun p q=>p.1=q.1/\H q.2.1=some (.tup (p.1.map kV))/\RelV p.2 q.2.2
theorem KT.val {H:Hp} {kvs:List (List Key×V)} {xs:List (List Key×Addr×Value)} (r:KT H kvs xs) (k:List Key):RelO (qj kvs k) ((atKey xs k).map (·.2)):=by
  induction r with
  | nil=>exact True.intro
  | @cons p q ps qs h t ih =>
    obtain ⟨h1,_,h2⟩:=h
    by_cases e:p.1=k
    . have e':q.1=k:=h1.symm.trans e
      have b:atKey (q::qs) k=some q.2:=by simp [atKey,List.find?_cons,e']
      rw [Uh e,b];exact h2
    . have e':¬ q.1=k:=fun z=>e (h1.trans z)
      have b:atKey (q::qs) k=atKey qs k:=by simp [atKey,List.find?_cons,e']
      rw [Ug e,b];exact ih
theorem KT.repl {H:Hp} {kvs:List (List Key×V)} {xs:List (List Key×Addr×Value)} (r:KT H kvs xs) (k:List Key) {y:V} {u:Value} (ry:RelV y u) :
    KT H (kvs.map fun kv=>if kv.1=k then (kv.1,y) else kv) (xs.map (putAt k u)):=by
  induction r with
  | nil=>exact .nil
  | @cons p q ps qs h t ih =>
    rw [List.map_cons,List.map_cons]
    refine .cons ?_ ih
    obtain ⟨h1,h2,h3⟩:=h
    unfold putAt
    by_cases e:p.1=k
    . rw [if_pos e,if_pos (h1.symm.trans e)];exact ⟨h1,h2,ry⟩
    . rw [if_neg e,if_neg (fun z=>e (h1.trans z))];exact ⟨h1,h2,h3⟩
theorem KT.put {H:Hp} {kvs:List (List Key×V)} {xs:List (List Key×Addr×Value)} (r:KT H kvs xs) (k:List Key) {b:Addr} {y:V} {u:Value} (hb:H b=some (.tup (k.map kV))) (ry:RelV y u) :
  KT H (zA kvs k y) (storedH xs k b u):=by
 have e:(kvs.any fun kv=>decide (kv.1=k))=(atKey xs k).isSome:=by
  rw [v7,(r.val k).isSome_eq,Option.isSome_map]
 unfold zA storedH
 rw [e]
 by_cases q:(atKey xs k).isSome=true
 ·rw [if_pos q,if_pos q];exact r.repl k ry
 ·rw [if_neg q,if_neg q];exact Paired.snoc r ⟨rfl,hb,ry⟩
theorem KT.keeps {H H':Hp} {kvs:List (List Key×V)} {xs:List (List Key×Addr×Value)} (r:KT H kvs xs) (ht:∀ b ys,H b=some (.tup ys)->H' b=some (.tup ys)):KT H' kvs xs :=
 Paired.mapP r fun _ _ z=>⟨z.1,ht _ _ z.2.1,z.2.2⟩
section
variable {P:Program} {w:World} {H:Hp} {h:Heap} {a:Addr}
theorem Qe1 {u:HO} (ok:HOk P w H h) (e:Rd H a u):ObjOk P w H h a u:=e.ok ok
theorem Vo {kvs:List (Key×V)} (ok:HOk P w H h) (e:Rd H a (.dK kvs)):kvs.length<=sizeLine/\(a==sysModules)=false/\∃ vs,KV kvs vs/\h.DictOf (Z0 P w) a vs :=
 show ObjOk P w H h a (.dK kvs) from Qe1 ok e
theorem Qbv {kvs:List (Key×V)} (ok:HOk P w H h) (e:H a=some (.dK kvs)):kvs.length<=sizeLine/\(a==sysModules)=false/\∃ vs,KV kvs vs/\h.DictOf (Z0 P w) a vs:=Vo ok (.inl e)
theorem x4 {ks:List Key} (ok:HOk P w H h) (e:H a=some (.tup (ks.map kV))):(tupleKind (Z0 P w)).is h ks a:=by
 obtain ⟨_,its,r,o,h1,h2,n,h3⟩:=(show ObjOk P w H h a (.tup (ks.map kV)) from ok a _ e)
 exact ⟨o,its.toArray,n,h1,h2,h3,by simpa using Kb r⟩
theorem U4 {kvs:List (List Key×V)} (ok:HOk P w H h) (e:Rd H a (.dT kvs)):kvs.length<=sizeLine/\(a==sysModules)=false /\
    ∃ xs,KT H kvs xs/\h.DictOfH (tupleKind (Z0 P w)) a xs:=by
  obtain ⟨z,y,xs,r,o,es,ep,h1,h2,h3,h4,h5⟩:=(show ObjOk P w H h a (.dT kvs) from Qe1 ok e)
  refine ⟨z,y,xs,r,o,es,ep,h1,h2,h3,h4,fun x hx=>?_,h5⟩
  have all:∀ {l:List (List Key×V)} {m:List (List Key×Addr×Value)},KT H l m->∀ x∈m,(tupleKind (Z0 P w)).is h x.1 x.2.1:=by
    intro l m q
    induction q with
    | nil=>intro x hx;exact nomatch hx
    | @cons p q ps qs hq t ih =>
      intro x hx
      rcases List.mem_cons.mp hx with e | hx
      . subst e
        exact x4 ok (by rw [<- hq.1];exact hq.2.1)
      . exact ih x hx
  exact all r x hx
theorem XZ {kvs:List (List Key×V)} (ok:HOk P w H h) (e:H a=some (.dT kvs)):kvs.length<=sizeLine/\(a==sysModules)=false /\
  ∃ xs,KT H kvs xs/\h.DictOfH (tupleKind (Z0 P w)) a xs:=U4 ok (.inl e)
end
def DGet (H:Hp) (a:Addr) (y:V) (r:Option V):Prop :=
 (∃ kvs k,Rd H a (.dK kvs)/\y=kV k/\r=qj kvs k)∨∃ kvs k b,Rd H a (.dT kvs)/\y=.ref b/\H b=some (.tup (k.map kV))/\r=qj kvs k
def DPut (H:Hp) (a:Addr) (y v:V) (H':Hp):Prop :=
 (∃ kvs k,H a=some (.dK kvs)/\y=kV k/\kvs.length < sizeLine/\H'=upd H a (.dK (zA kvs k v))) ∨
 ∃ kvs k b,H a=some (.dT kvs)/\y=.ref b/\H b=some (.tup (k.map kV))/\kvs.length < sizeLine/\H'=upd H a (.dT (zA kvs k v))
theorem DGet.k {H:Hp} {a:Addr} {kvs:List (Key×V)} {k:Key} (e:H a=some (.dK kvs)):DGet H a (kV k) (qj kvs k):=.inl ⟨kvs,k,.inl e,rfl,rfl⟩
theorem DPut.k {H:Hp} {a:Addr} {kvs:List (Key×V)} {k:Key} {v:V} (e:H a=some (.dK kvs)) (hl:kvs.length < sizeLine):DPut H a (kV k) v (upd H a (.dK (zA kvs k v))):=.inl ⟨kvs,k,e,rfl,hl,rfl⟩
section
variable {X:Cx} {pins:List (Addr×Obj)} {σ:St} {H:Hp} {s:Shared} {a:Addr} {y v:V} {u r:Value} {o:Option V} {A:Around} {E:Value->Shared->Prop}
theorem Inv.big (I:Inv X pins σ H s):sysModules < s.heap.objs.size:=by
 have h:mainGlobals < s.heap.objs.size:=(I.mod.glob.keeps I.bk).lt
 exact Nat.lt_trans (by decide) h
theorem Qar {Q:Value->Shared->Prop} (hu:A.units+1 < cLine) (I:Inv X pins σ H s) (g:DGet H a y (some v)) (ry:RelV y u) (h:∀ w' s',Inv X pins σ H s'->RelV v w'->Q w' s') :
  wpAny (model X.prog X.w) A (getItem (.ref a) u) Q E s:=by
 rcases g with ⟨kvs,k,e,ey,l⟩ | ⟨kvs,k,b,e,ey,eb,l⟩
 ·subst ey
  obtain ⟨z,hd,vs,rel,dd⟩:=Vo I.hok e
  obtain ⟨w',hw,rw'⟩:=RelO.some_of (v:=v) (o:=valueAt vs k) (by rw [l];exact rel.val k)
  exact wpAny_getItem_of (Kc ry) dd.mapOf hw (h w' _ (I.tok _) rw')
 ·subst ey
  cases (show u=Value.ref b from ry)
  obtain ⟨z,hd,xs,rel,dd⟩:=U4 I.hok e
  obtain ⟨w',hw,rw'⟩:=RelO.some_of (v:=v) (o:=(atKey xs k).map (·.2)) (by rw [l];exact rel.val k)
  obtain ⟨p,hp,hp2⟩:=Option.map_eq_some_iff.mp hw
  refine wpAny_getItem_heap (tupleKind_room_in1 hu) (x4 I.hok eb) dd hp ?_
  rw [hp2]
  exact h w' _ (I.tok _) rw'
theorem QhY {Q:Value->Shared->Prop} (hu:A.units+1 < cLine) (I:Inv X pins σ H s) (g:DGet H a y o) (ry:RelV y u) (h:∀ s',Inv X pins σ H s'->Q (.bool o.isSome) s') :
  wpAny (model X.prog X.w) A (compareOp .In u (.ref a)) Q E s:=by
 rcases g with ⟨kvs,k,e,ey,l⟩ | ⟨kvs,k,b,e,ey,eb,l⟩
 ·subst ey
  obtain ⟨z,hd,vs,rel,dd⟩:=Vo I.hok e
  refine wpAny_in_of (Kc ry) hd dd.mapOf ?_
  rw [<- (rel.val k).isSome_eq,<- l]
  exact h _ (I.tok _)
 ·subst ey
  cases (show u=Value.ref b from ry)
  obtain ⟨z,hd,xs,rel,dd⟩:=U4 I.hok e
  refine wpAny_in_heap (tupleKind_room_in1 hu) (x4 I.hok eb) hd dd ?_
  have q:=(rel.val k).isSome_eq
  rw [Option.isSome_map] at q
  rw [<- q,<- l]
  exact h _ (I.tok _)
theorem gH {h':Heap} {t':Nat} {ob:HO} (I:Inv X pins σ H s) (mu:Mut (H a)) (hs:Heap.SameBut a s.heap h') (he:∃ q,h'.get? a=some q) (new:ObjOk X.prog X.w (upd H a ob) h' a ob) :
  Inv X pins σ (upd H a ob) { s with heap:=h',toks:=t' } :=
 I.write (x:=a) (e:=a) mu (.inl rfl) (fun b q hb z=>(hs.2 b hb).trans z) he new
theorem Qfk {P:Program} {w:World} {H':Hp} {h':Heap} {kvs:List (Key×V)} {vs:List (Key×Value)} (z:kvs.length<=sizeLine) (hd:(a==sysModules)=false) (rel:KV kvs vs) (dd:h'.DictOf (Z0 P w) a vs) :
  ObjOk P w H' h' a (.dK kvs):=⟨z,hd,vs,rel,dd⟩
theorem Qas {H':Hp} {Q:Unit->Shared->Prop} (hu:A.units+1 < cLine) (I:Inv X pins σ H s) (g:DPut H a y v H') (ry:RelV y u) (rv:RelV v r) (h:∀ s',Inv X pins σ H' s'->Q () s') :
  wpAny (model X.prog X.w) A (setItem (.ref a) u r) Q E s:=by
 rcases g with ⟨kvs,k,e,ey,l,eH⟩ | ⟨kvs,k,b,e,ey,eb,l,eH⟩
 ·subst ey eH
  obtain ⟨z,hd,vs,rel,dd⟩:=Qbv I.hok e
  have hz:vs.length<=sizeLine:=by rw [<- rel.length];exact z
  have hl:(zA kvs k v).length<=sizeLine:=by have:=yu kvs k v;omega
  refine wpAny_setItem_pairs (hsz:=hz) (Kc ry) dd fun h' dd' hs=>h _ ?_
  have he:∃ q,h'.get? a=some q:=let ⟨q,_,_,hq,_⟩:=dd';⟨q,hq⟩
  exact gH I (by rw [e];exact True.intro) hs he (Qfk hl hd (rel.put k rv) dd')
 ·subst ey eH
  cases (show u=Value.ref b from ry)
  obtain ⟨z,hd,xs,rel,dd⟩:=XZ I.hok e
  have hz:xs.length<=sizeLine:=by rw [<- Paired.length rel];exact z
  have hl:(zA kvs k v).length<=sizeLine:=by have:=yu kvs k v;omega
  refine wpAny_setItem_heap (hsz:=hz) (tupleKind_room_in1 hu) (x4 I.hok eb) dd fun h' dd' hs=>h _ ?_
  obtain ⟨q,es,ep,hq,h2,h3,h4,_,h5⟩:=dd'
  refine gH I (by rw [e];exact True.intro) hs ⟨q,hq⟩ ⟨hl,hd,_,(rel.put k eb rv).keeps fun c ys ec=>?_,q,es,ep,hq,h2,h3,h4,h5⟩
  rw [Q4 (Qhc ec e (fun z=>nomatch z))]
  exact ec
end
section
variable {X:Cx} {pins:List (Addr×Obj)} {σ:St} {H:Hp} {s:Shared} {a:Addr} {kvs:List (Key×V)} {k:Key} {u:Value} {A:Around} {E:Value->Shared->Prop}
theorem QgU {Q:Value->Shared->Prop} (I:Inv X pins σ H s) (e:Rd H a (.dK kvs)) (h:∀ t s',Inv X pins σ H s'->Q (.int kvs.length t) s'):wpAny (model X.prog X.w) A (call (.builtin "len") [.ref a]) Q E s:=by
 obtain ⟨z,hd,vs,rel,dd⟩:=Vo I.hok e
 refine call_len_dict hd dd (by rw [<- rel.length];rw [sizeLine_eq] at z;omega) ?_
 rw [<- rel.length]
 exact h _ _ (I.tok _)
end
theorem G8 {X:Cx} {pins:List (Addr×Obj)} {σ:St} {H:Hp} {s:Shared} {a:Addr} {y:V} {o:Option V} (I:Inv X pins σ H s) (g:DGet H a y o):s.TypeIs (.ref a) "dict" := by
 rcases g with ⟨kvs,k,e,_,_⟩ | ⟨kvs,k,b,e,_,_,_⟩
 ·obtain ⟨_,_,vs,_,dd⟩:=Vo I.hok e
  exact dd.typeIs
 ·obtain ⟨_,_,xs,_,dd⟩:=U4 I.hok e
  exact dd.typeIs
section
variable {X:Cx} {o i e value:Expr} {pos pos' tpos:Pos} {td ty tv:TE}
end
theorem Qbu {P:Program} {w:World} {H:Hp} (h:Heap) (hb:sysModules < h.objs.size):ObjOk P w H (h.push { cls:=.type "dict", data:=.dict #[] }) h.objs.size (.dK []) :=
 ⟨Nat.zero_le _,beq_eq_false_iff_ne.mpr (Ne.symm (Nat.ne_of_lt hb)),[],.nil,Heap.DictOf.new h⟩
section
variable {X:Cx} {pos:Pos}
end
structure M1 (X:Cx) (o:Expr) (m:Str) (apos:Pos) (e:Expr) (cpos:Pos):Prop where
 base:attributeBase o m X.env (eval o X.env)=eval o X.env
 few:((backTo cpos (starEach [e] X.env)).all (fun x=>!x.1)&&(backToKw cpos (keywordEach [] X.env)).all (fun x=>x.1.isSome)
  && decide (([e]:List Expr).length+([]:List Keyword).length+(if ([]:List Keyword).isEmpty then 0 else 1) < 30))=true
 line:(apos.endLine==cpos.line)=true
 trees:backTo cpos (starEach [e] X.env)=[(false,eval e X.env)]
section
variable {X:Cx} {pins:List (Addr×Obj)} {σ:St} {H:Hp} {s:Shared} {a:Addr} {y d:V} {u r:Value} {o:Option V} {A:Around} {E:Value->Shared->Prop}
theorem Qfg {Q:Value->Shared->Prop} (hu:A.units+1 < cLine) (I:Inv X pins σ H s) (g:DGet H a y o) (ry:RelV y u) (h:∀ w' s',Inv X pins σ H s'->RelV (o.getD .non) w'->Q w' s') :
  wpAny (model X.prog X.w) A (call (.builtin "dict.get") [.ref a,u]) Q E s:=by
 rcases g with ⟨kvs,k,e,ey,l⟩ | ⟨kvs,k,b,e,ey,eb,l⟩
 ·subst ey
  obtain ⟨z,hd,vs,rel,dd⟩:=Vo I.hok e
  refine call_meetsIn PySem.F.slot_dict_get dd.typeIs PySem.F.entry_dict_get (PySem.F.args_dict_get_2 _ _) (meets_dict_get (Z0 X.prog X.w) a (Kc ry) hd) ⟨_,dd.mapOf,h _ _ (I.tok _) ?_⟩
  rw [l]
  exact (rel.val k).getD rfl
 ·subst ey
  cases (show u=Value.ref b from ry)
  obtain ⟨z,hd,xs,rel,dd⟩:=U4 I.hok e
  refine call_meetsIn PySem.F.slot_dict_get dd.typeIs PySem.F.entry_dict_get (PySem.F.args_dict_get_2 _ _) (meetsH_dict_get (tupleKind (Z0 X.prog X.w)) a b hd) ⟨tupleKind_room_in1 hu,k,xs,x4 I.hok eb,dd,h _ _ (I.tok _) ?_⟩
  rw [l]
  exact (rel.val k).getD rfl
theorem Qfh {Q:Value->Shared->Prop} (hu:A.units+1 < cLine) (I:Inv X pins σ H s) (g:DGet H a y o) (ry:RelV y u) (rd:RelV d r) (h:∀ w' s',Inv X pins σ H s'->RelV (o.getD d) w'->Q w' s') :
  wpAny (model X.prog X.w) A (call (.builtin "dict.get") [.ref a,u,r]) Q E s:=by
 rcases g with ⟨kvs,k,e,ey,l⟩ | ⟨kvs,k,b,e,ey,eb,l⟩
 ·subst ey
  obtain ⟨z,hd,vs,rel,dd⟩:=Vo I.hok e
  refine call_meetsIn PySem.F.slot_dict_get dd.typeIs PySem.F.entry_dict_get (PySem.F.args_dict_get_3 _ _ _) (meets_dict_get_default (Z0 X.prog X.w) a (Kc ry) hd r) ⟨_,dd.mapOf,h _ _ (I.tok _) ?_⟩
  rw [l]
  exact (rel.val k).getD rd
 ·subst ey
  cases (show u=Value.ref b from ry)
  obtain ⟨z,hd,xs,rel,dd⟩:=U4 I.hok e
  refine call_meetsIn PySem.F.slot_dict_get dd.typeIs PySem.F.entry_dict_get (PySem.F.args_dict_get_3 _ _ _) (meetsH_dict_get_default (tupleKind (Z0 X.prog X.w)) a b hd r) ⟨tupleKind_room_in1 hu,k,xs,x4 I.hok eb,dd,h _ _ (I.tok _) ?_⟩
  rw [l]
  exact (rel.val k).getD rd
end
section
variable {X:Cx} {o e f:Expr} {apos cpos:Pos} {td ty tx:TE}
end
section
variable {X:Cx} {pins:List (Addr×Obj)} {σ:St} {H:Hp} {s:Shared} {a:Addr} {kvs:List (Key×V)} {A:Around} {E:Value->Shared->Prop}
end
section
variable {X:Cx} {pins:List (Addr×Obj)} {σ:St} {H:Hp} {s:Shared} {a:Addr} {y:V} {u:Value} {A:Around} {E:Value->Shared->Prop}
end
section
variable {X:Cx}
theorem Qam:CallR X (.builtin "len") (fun xs H Q=>∃ a kvs,xs=[V.ref a]/\H a=some (.dK kvs)/\Q (.int kvs.length) H):=by
 intro pins s σ H xs us Q I r h
 obtain ⟨a,kvs,rfl,ha,q⟩:=h
 obtain ⟨u,rfl,ru⟩:=Ui r
 cases ru
 exact QgU I (.inl ha) fun t s' I'=>⟨.int kvs.length,H,I',⟨t,rfl⟩,q⟩
end
section
variable {κ:Type} [DecidableEq κ]
end
end L2
namespace D
open PySem PySem.Spec PyProof.Rows L2
abbrev St:=L2.St
inductive DV where
 | non | bl (b:Bool) | int (i:Int) | str (x:Str) | tup (xs:List DV) | lst (xs:List DV) | ref (i:Nat)
inductive OV where
 | lst (xs:List DV)
 | dic (kvs:List (Key×DV))
 | ins (c:Str) (fs:List (Str×DV))
abbrev Hs:=List OV
abbrev M:=StateT Hs Option
mutual
def RepV (K:PySem.W.Frag) (ρ:List Addr) (B:Addr->Prop) (H:Hp):DV->V->Prop
 | .non,v=>v=.non
 | .bl b,v=>v=.bl b
 | .int i,v=>v=.int i
 | .str x,v=>v=.str x
 | .tup ds,v=>∃ a xs,v=.ref a/\¬ B a/\SqT K H a xs/\RepL K ρ B H ds xs
 | .lst ds,v=>∃ a xs,v=.ref a/\¬ B a/\SqL K H a xs/\RepL K ρ B H ds xs
 | .ref i,v=>∃ a,v=.ref a/\ρ[i]?=some a
def RepL (K:PySem.W.Frag) (ρ:List Addr) (B:Addr->Prop) (H:Hp):List DV->List V->Prop
 | [],xs=>xs=[]
 | d::ds,xs=>∃ x r,xs=x::r/\RepV K ρ B H d x/\RepL K ρ B H ds r
end
def ORep (K:PySem.W.Frag) (ρ:List Addr) (B:Addr->Prop) (H:Hp) (a:Addr):OV->Prop
 | .lst ds=>∃ xs,H a=some (.lst xs)/\RepL K ρ B H ds xs
 | .dic kvs=>∃ xs:List (Key×V),H a=some (.dK xs)/\xs.map (·.1)=kvs.map (·.1)/\RepL K ρ B H (kvs.map (·.2)) (xs.map (·.2))
 | .ins c fs=>∃ (C dx:Addr) (xs:List (Str×V)),PySem.W.nsIn K mainGlobals c=some (some (.ref C))/\H a=some (.ins C dx xs)/\xs.map (·.1)=fs.map (·.1)/\RepL K ρ B H (fs.map (·.2)) (xs.map (·.2))
structure Gr (K:PySem.W.Frag) (ρ:List Addr) (B:Addr->Prop) (H:Hp) (ρ':List Addr) (B':Addr->Prop) (H':Hp):Prop where
 pre:ρ <+: ρ'
 ban:∀ a,B a->B' a
 new:∀ a,B' a->B a∨(H a=none/\K.lookup a=none)
 rnew:∀ a∈ρ',a∈ρ∨H a=none
 keep:∀ a o,a∉ρ->H a=some o->H' a=some o
 trk:∀ a,H' a=none->H a=none
structure WOk (K:PySem.W.Frag) (ρ:List Addr) (B:Addr->Prop) (hp:Hs) (H:Hp):Prop where
 len:ρ.length=hp.length
 nd:ρ.Nodup
 obj:∀ (i:Nat) (a:Addr) (o:OV),ρ[i]?=some a->hp[i]?=some o->ORep K ρ B H a o
 rb:∀ a∈ρ,B a
 bt:∀ a,B a->H a≠none
 bk:∀ a,B a->K.lookup a=none
section
variable {K:PySem.W.Frag} {ρ ρ' ρ'':List Addr} {B B' B'':Addr->Prop} {H H' H'':Hp}
theorem Gr.refl:Gr K ρ B H ρ B H:=⟨List.prefix_rfl,fun _ h=>h,fun _ h=>.inl h,fun _ h=>.inl h,fun _ _ _ h=>h,fun _ h=>h⟩
theorem Gr.trans (a:Gr K ρ B H ρ' B' H') (b:Gr K ρ' B' H' ρ'' B'' H''):Gr K ρ B H ρ'' B'' H'' where
 pre:=a.pre.trans b.pre
 ban:=fun x h=>b.ban x (a.ban x h)
 new:=fun x h=>(b.new x h).elim (a.new x) fun z=>.inr ⟨a.trk x z.1,z.2⟩
 rnew:=fun x h=>(b.rnew x h).elim (a.rnew x) fun z=>.inr (a.trk x z)
 keep:=fun x o hn h=>b.keep x o (fun z=>(a.rnew x z).elim hn (fun z=>by rw [h] at z;cases z)) (a.keep x o hn h)
 trk:=fun x h=>a.trk x (b.trk x h)
structure Gs (K:PySem.W.Frag) (ρ:List Addr) (B:Addr->Prop) (H:Hp) (ρ':List Addr) (B':Addr->Prop) (H':Hp):Prop where
 pre:ρ <+: ρ'
 new:∀ a,B' a->B a∨(H a=none/\K.lookup a=none)
 keep:∀ a o,¬ B a->H a=some o->H' a=some o
 trk:∀ a,H' a=none->H a=none
theorem Gr.gs (rb:∀ a∈ρ,B a) (g:Gr K ρ B H ρ' B' H'):Gs K ρ B H ρ' B' H':=⟨g.pre,g.new,fun a o nb h=>g.keep a o (fun z=>nb (rb a z)) h,g.trk⟩
theorem Gs.refl:Gs K ρ B H ρ B H:=⟨List.prefix_rfl,fun _ h=>.inl h,fun _ _ _ h=>h,fun _ h=>h⟩
theorem Gs.trans (a:Gs K ρ B H ρ' B' H') (b:Gs K ρ' B' H' ρ'' B'' H''):Gs K ρ B H ρ'' B'' H'' where
 pre:=a.pre.trans b.pre
 new:=fun x h=>(b.new x h).elim (a.new x) fun z=>.inr ⟨a.trk x z.1,z.2⟩
 keep:=fun x o nb h=>b.keep x o (fun z=>(a.new x z).elim nb fun q=>by rw [h] at q;cases q.1) (a.keep x o nb h)
 trk:=fun x h=>a.trk x (b.trk x h)
theorem SqT.trk {a:Addr} {xs:List V} (h:SqT K H a xs):H a≠none∨∃ o,K.lookup a=some o:=by
 rcases h with (h | ⟨o,h⟩) | ⟨o,_,_,h,_⟩
 ·exact .inl (by rw [h];simp)
 ·exact .inl (by rw [h];simp)
 ·exact .inr ⟨o,h⟩
theorem SqL.trk {a:Addr} {xs:List V} (h:SqL K H a xs):H a≠none∨∃ o,K.lookup a=some o:=by
 rcases h with (h | ⟨o,h⟩) | ⟨o,_,_,h,_⟩
 ·exact .inl (by rw [h];simp)
 ·exact .inl (by rw [h];simp)
 ·exact .inr ⟨o,h⟩
theorem Gs.ok {a:Addr} (g:Gs K ρ B H ρ' B' H') (hb:¬ B a) (t:H a≠none∨∃ o,K.lookup a=some o):¬ B' a:=fun z =>
 (g.new a z).elim hb fun ⟨n,k⟩=>t.elim (fun q=>q n) fun ⟨o,q⟩=>by rw [k] at q;cases q
theorem Gs.sqT {a:Addr} {xs:List V} (g:Gs K ρ B H ρ' B' H') (hr:¬ B a) (h:SqT K H a xs):SqT K H' a xs:=by
 rcases h with (h | ⟨o,h⟩) | h
 ·exact .inl (.inl (g.keep _ _ hr h))
 ·exact .inl (.inr ⟨o,g.keep _ _ hr h⟩)
 ·exact .inr h
theorem Gs.sqL {a:Addr} {xs:List V} (g:Gs K ρ B H ρ' B' H') (hr:¬ B a) (h:SqL K H a xs):SqL K H' a xs:=by
 rcases h with (h | ⟨o,h⟩) | h
 ·exact .inl (.inl (g.keep _ _ hr h))
 ·exact .inl (.inr ⟨o,g.keep _ _ hr h⟩)
 ·exact .inr h
theorem kI {i:Nat} {a:Addr} (p:ρ <+: ρ') (h:ρ[i]?=some a):ρ'[i]?=some a:=by
 obtain ⟨t,rfl⟩:=p
 rw [List.getElem?_append_left (List.getElem?_eq_some_iff.mp h).1];exact h
mutual
theorem RepV.gs (g:Gs K ρ B H ρ' B' H'):∀ (d:DV) (v:V),RepV K ρ B H d v->RepV K ρ' B' H' d v
  | .non,_,h=>by unfold RepV at h ⊢;exact h
  | .bl _,_,h=>by unfold RepV at h ⊢;exact h
  | .int _,_,h=>by unfold RepV at h ⊢;exact h
  | .str _,_,h=>by unfold RepV at h ⊢;exact h
  | .ref _,_,h=>by
    unfold RepV at h ⊢
    obtain ⟨a,e,h⟩:=h
    exact ⟨a,e,kI g.pre h⟩
  | .tup ds,_,h=>by
    unfold RepV at h ⊢
    obtain ⟨a,xs,e,nb,sq,rl⟩:=h
    exact ⟨a,xs,e,g.ok nb (SqT.trk sq),g.sqT nb sq,RepL.gs g ds xs rl⟩
  | .lst ds,_,h=>by
    unfold RepV at h ⊢
    obtain ⟨a,xs,e,nb,sq,rl⟩:=h
    exact ⟨a,xs,e,g.ok nb (SqL.trk sq),g.sqL nb sq,RepL.gs g ds xs rl⟩
theorem RepL.gs (g:Gs K ρ B H ρ' B' H'):∀ (ds:List DV) (xs:List V),RepL K ρ B H ds xs->RepL K ρ' B' H' ds xs
  | [],_,h=>by unfold RepL at h ⊢;exact h
  | d::ds,_,h=>by
    unfold RepL at h ⊢
    obtain ⟨x,r,e,h1,h2⟩:=h
    exact ⟨x,r,e,RepV.gs g d x h1,RepL.gs g ds r h2⟩
end
theorem RepV.grow (rb:∀ a∈ρ,B a) (g:Gr K ρ B H ρ' B' H') (d:DV) (v:V) (h:RepV K ρ B H d v):RepV K ρ' B' H' d v:=RepV.gs (g.gs rb) d v h
theorem RepL.grow (rb:∀ a∈ρ,B a) (g:Gr K ρ B H ρ' B' H') (ds:List DV) (xs:List V) (h:RepL K ρ B H ds xs):RepL K ρ' B' H' ds xs:=RepL.gs (g.gs rb) ds xs h
theorem RepL.length:∀ {ds:List DV} {xs:List V},RepL K ρ B H ds xs->ds.length=xs.length
  | [],_,h=>by unfold RepL at h;subst h;rfl
  | d::ds,_,h=>by
    unfold RepL at h
    obtain ⟨x,r,rfl,_,h2⟩:=h
    simp [RepL.length h2]
theorem RepL.get:∀ {ds:List DV} {xs:List V} {i:Nat} {d:DV},RepL K ρ B H ds xs->ds[i]?=some d->∃ x,xs[i]?=some x/\RepV K ρ B H d x
  | [],_,_,_,_,e=>by simp at e
  | d::ds,_,0,_,h,e=>by
    unfold RepL at h
    obtain ⟨x,r,rfl,h1,_⟩:=h
    simp at e;subst e
    exact ⟨x,rfl,h1⟩
  | d::ds,_,i+1,_,h,e=>by
    unfold RepL at h
    obtain ⟨x,r,rfl,_,h2⟩:=h
    obtain ⟨y,h3,h4⟩:=RepL.get h2 (by simpa using e)
    exact ⟨y,by simpa using h3,h4⟩
theorem RepL.nil:RepL K ρ B H [] []:=by unfold RepL;rfl
theorem RepL.cons {d:DV} {x:V} {ds:List DV} {xs:List V} (h:RepV K ρ B H d x) (t:RepL K ρ B H ds xs):RepL K ρ B H (d::ds) (x::xs):=by
 unfold RepL;exact ⟨x,xs,rfl,h,t⟩
theorem RepL.append:∀ {ds es:List DV} {xs ys:List V},RepL K ρ B H ds xs->RepL K ρ B H es ys->RepL K ρ B H (ds++es) (xs++ys)
  | [],_,_,_,h,t=>by unfold RepL at h;subst h;exact t
  | d::ds,_,_,_,h,t=>by
    unfold RepL at h
    obtain ⟨x,r,rfl,h1,h2⟩:=h
    exact RepL.cons h1 (RepL.append h2 t)
theorem RepL.one {d:DV} {x:V} (h:RepV K ρ B H d x):RepL K ρ B H [d] [x]:=RepL.cons h RepL.nil
theorem RepL.take:∀ (n:Nat) {ds:List DV} {xs:List V},RepL K ρ B H ds xs->RepL K ρ B H (ds.take n) (xs.take n)
  | 0,_,_,_=>by simp;exact RepL.nil
  | _+1,[],_,h=>by unfold RepL at h;subst h;simp;exact RepL.nil
  | n+1,d::ds,_,h=>by
    unfold RepL at h
    obtain ⟨x,r,rfl,h1,h2⟩:=h
    exact RepL.cons h1 (RepL.take n h2)
theorem RepL.drop:∀ (n:Nat) {ds:List DV} {xs:List V},RepL K ρ B H ds xs->RepL K ρ B H (ds.drop n) (xs.drop n)
  | 0,_,_,h=>h
  | _+1,[],_,h=>by unfold RepL at h;subst h;simp;exact RepL.nil
  | n+1,d::ds,_,h=>by
    unfold RepL at h
    obtain ⟨x,r,rfl,h1,h2⟩:=h
    exact RepL.drop n h2
theorem Gr.laid {p:Addr} {o:HO} (h:H p=none):Gr K ρ B H ρ B (upd H p o) where
 pre:=List.prefix_rfl
 ban:=fun _ h=>h
 new:=fun _ h=>.inl h
 rnew:=fun _ h=>.inl h
 keep:=fun a u _ q=>by rw [Q4 (ZD q h)];exact q
 trk:=fun a q=>by
  by_cases e:a=p
  ·subst e;rw [Zm] at q;cases q
  ·rw [Q4 e] at q;exact q
theorem ORep.gs {a:Addr} {o:OV} (g:Gs K ρ B H ρ' B' H') (hk:H' a=H a) (h:ORep K ρ B H a o):ORep K ρ' B' H' a o:=by
  cases o with
  | lst ds =>
    obtain ⟨xs,e,rl⟩:=h
    exact ⟨xs,hk.trans e,RepL.gs g _ _ rl⟩
  | dic kvs =>
    obtain ⟨xs,e,ek,rl⟩:=h
    exact ⟨xs,hk.trans e,ek,RepL.gs g _ _ rl⟩
  | ins c fs =>
    obtain ⟨C,dx,xs,nc,e,ek,rl⟩:=h
    exact ⟨C,dx,xs,nc,hk.trans e,ek,RepL.gs g _ _ rl⟩
theorem WOk.laid {hp:Hs} {p:Addr} {o:HO} (W:WOk K ρ B hp H) (h:H p=none):WOk K ρ B hp (upd H p o) where
 len:=W.len
 nd:=W.nd
 obj:=fun i a u e q=>ORep.gs ((Gr.laid h).gs W.rb) (by
  have hb:=W.bt a (W.rb a (List.mem_of_getElem? e))
  exact Q4 (fun z=>hb (z▸h))) (W.obj i a u e q)
 rb:=W.rb
 bt:=fun a z q=>W.bt a z ((Gr.laid (K:=K) (ρ:=ρ) (B:=B) h).trk a q)
 bk:=W.bk
end
inductive Sl where
 | un | val (d:DV) | acc (ds:List DV)
abbrev En:=List Sl
structure Ent where
 ρ:List Addr
 B:Addr->Prop
 H:Hp
structure SOk (K:PySem.W.Frag) (Z:Ent) (env:En) (σ:St) (ρ:List Addr) (B:Addr->Prop) (hp:Hs) (H:Hp):Prop where
 gr:Gr K Z.ρ Z.B Z.H ρ B H
 zb:∀ a,Z.B a->Z.H a≠none
 wo:WOk K ρ B hp H
 slot:∀ (i:Nat) (d:DV),env[i]?=some (.val d)->∃ v,σ[i]?=some (some v)/\RepV K ρ B H d v
 accs:∀ (i:Nat) (ds:List DV),env[i]?=some (.acc ds)->∃ a xs,σ[i]?=some (some (.ref a))/\H a=some (.lst xs)/\Z.H a=none/\B a/\a∉ρ/\RepL K ρ B H ds xs
 adis:∀ (i j:Nat) (ds es:List DV) (a:Addr),env[i]?=some (.acc ds)->env[j]?=some (.acc es)->σ[i]?=some (some (.ref a))->σ[j]?=some (some (.ref a))->i=j
 len:σ.length=env.length
theorem SOk.grow {K:PySem.W.Frag} {Z:Ent} {env:En} {σ:St} {ρ ρ':List Addr} {B B':Addr->Prop} {hp hp':Hs} {H H':Hp} (S:SOk K Z env σ ρ B hp H) (g:Gr K ρ B H ρ' B' H') (W:WOk K ρ' B' hp' H'):SOk K Z env σ ρ' B' hp' H' where
 gr:=S.gr.trans g
 zb:=S.zb
 wo:=W
 slot:=fun i d e=>let ⟨v,h1,h2⟩:=S.slot i d e;⟨v,h1,RepV.grow S.wo.rb g d v h2⟩
 accs:=fun i ds e=>by
  obtain ⟨a,xs,h1,h2,h3,h4,h5,h6⟩:=S.accs i ds e
  refine ⟨a,xs,h1,g.keep a _ h5 h2,h3,g.ban a h4,fun z=>?_,RepL.grow S.wo.rb g ds xs h6⟩
  rcases g.rnew a z with q | q
  ·exact h5 q
  ·rw [h2] at q;cases q
 adis:=S.adis
 len:=S.len
abbrev DEx:=En->M DV
abbrev DTx:=En->M Bool
abbrev DAx:=En->M (List DV)
inductive Fl where
 | nx | rt (d:DV) | bk | ct
abbrev DSx:=En->M (Fl×En)
def Fol (K:PySem.W.Frag) (ρ:List Addr) (B:Addr->Prop) (H:Hp) (d:DV) (hp':Hs) (Q:VK):Prop :=
 ∀ v ρ' B' H',Gr K ρ B H ρ' B' H'->WOk K ρ' B' hp' H'->RepV K ρ' B' H' d v->Q v H'
def QgI (K:PySem.W.Frag) (ρ:List Addr) (B:Addr->Prop) (H:Hp) (hp':Hs) (Q:Hp->Prop):Prop :=
 ∀ ρ' B' H',Gr K ρ B H ρ' B' H'->WOk K ρ' B' hp' H'->Q H'
def QhU (K:PySem.W.Frag) (ρ:List Addr) (B:Addr->Prop) (H:Hp) (ds:List DV) (hp':Hs) (Q:List V->Hp->Prop):Prop :=
 ∀ vs ρ' B' H',Gr K ρ B H ρ' B' H'->WOk K ρ' B' hp' H'->RepL K ρ' B' H' ds vs->Q vs H'
def tD (K:PySem.W.Frag) (f:DEx):TE:=fun σ H Q=>∃ Z env ρ B hp d hp',SOk K Z env σ ρ B hp H/\f env hp=some (d,hp')/\Fol K ρ B H d hp' Q
def tDT (K:PySem.W.Frag) (f:DTx):TT:=fun σ H Q=>∃ Z env ρ B hp d hp',SOk K Z env σ ρ B hp H/\f env hp=some (d,hp')/\QgI K ρ B H hp' (Q d)
def tDA (K:PySem.W.Frag) (f:DAx):TA:=fun σ H Q=>∃ Z env ρ B hp ds hp',SOk K Z env σ ρ B hp H/\f env hp=some (ds,hp')/\QhU K ρ B H ds hp' Q
def DE (X:Cx) (e:Expr) (f:DEx):Prop:=PE X e (tD X.K f)
def DT (X:Cx) (e:Expr) (f:DTx):Prop:=PT X e (tDT X.K f)
def DW (X:Cx) (e:Expr) (f:DTx):Prop:=PW X e (tDT X.K f)
def DA (X:Cx) (es:List Expr) (f:DAx):Prop:=PA X es (tDA X.K f)
def FolS (K:PySem.W.Frag) (Z:Ent) (ρ:List Addr) (B:Addr->Prop) (H:Hp) (fl:Fl) (env':En) (hp':Hs) (D:KF):Prop :=
  ∀ σ' ρ' B' H', Gs K ρ B H ρ' B' H' -> SOk K Z env' σ' ρ' B' hp' H' -> match fl with
    | .nx=>D.nx σ' H'
    | .bk=>D.bk σ' H'
    | .ct=>D.ct σ' H'
    | .rt d=>∀ v,RepV K ρ' B' H' d v->D.rt v H'
def tDS (K:PySem.W.Frag) (f:DSx):TS:=fun D σ H=>∃ Z env ρ B hp fl env' hp',SOk K Z env σ ρ B hp H/\f env hp=some ((fl,env'),hp')/\FolS K Z ρ B H fl env' hp' D
def DS (X:Cx) (st:Stmt) (f:DSx):Prop:=PS X st (tDS X.K f)
def DSs (X:Cx) (st:List Stmt) (f:DSx):Prop:=PSs X st (tDS X.K f)
section
variable {X:Cx}
theorem _root_.L2.PE.imp {e:Expr} {t t':TE} (h:PE X e t) (i:∀ σ H Q,t' σ H Q->t σ H Q):PE X e t':=fun pins s σ H Q I q=>h pins s σ H Q I (i σ H Q q)
theorem _root_.L2.PT.imp {e:Expr} {t t':TT} (h:PT X e t) (i:∀ σ H Q,t' σ H Q->t σ H Q):PT X e t':=fun pins s σ H Q I q=>h pins s σ H Q I (i σ H Q q)
theorem _root_.L2.PW.imp {e:Expr} {t t':TT} (h:PW X e t) (i:∀ σ H Q,t' σ H Q->t σ H Q):PW X e t':=fun wh pins s σ H Q I q=>h wh pins s σ H Q I (i σ H Q q)
theorem _root_.L2.PA.imp {es:List Expr} {t t':TA} (h:PA X es t) (i:∀ σ H Q,t' σ H Q->t σ H Q):PA X es t':=fun pos pins s σ H Q I q=>h pos pins s σ H Q I (i σ H Q q)
theorem _root_.L2.PS.imp {st:Stmt} {t t':TS} (h:PS X st t) (i:∀ Dn σ H,t' Dn σ H->t Dn σ H):PS X st t':=fun pins s σ H Dn I q=>h pins s σ H Dn I (i Dn σ H q)
theorem _root_.L2.PSs.imp {st:List Stmt} {t t':TS} (h:PSs X st t) (i:∀ Dn σ H,t' Dn σ H->t Dn σ H):PSs X st t':=fun pins s σ H Dn I q=>h pins s σ H Dn I (i Dn σ H q)
def GQ (K:PySem.W.Frag) (H:Hp):Prop:=∀ a o,H a=some o->K.lookup a=none
theorem Inv.kfree {pins:List (Addr×Obj)} {σ:St} {H:Hp} {s:Shared} (I:Inv X pins σ H s):GQ X.K H:=fun a o e=>by
  cases q:X.K.lookup a with
  | none=>rfl
  | some ob =>
    have:=(I.bs a ob (I.ok.mod.kin a ob q)).2
    rw [e] at this;cases this
theorem _root_.L2.PE.kf {e:Expr} {t:TE} (h:PE X e t):PE X e (fun σ H Q=>t σ H fun v H'=>GQ X.K H'->Q v H'):=fun pins s σ H Q I q =>
 thn (h pins s σ H _ I q) fun u s' ⟨v,H',I',r,z⟩=>⟨v,H',I',r,z (Inv.kfree I')⟩
theorem Qf {α β:Type} {f:M α} {g:α->M β} {hp hp':Hs} {y:β} (h:(f >>= g) hp=some (y,hp')):∃ x hp1,f hp=some (x,hp1)/\g x hp1=some (y,hp'):=by
 change (f hp).bind (fun p=>g p.1 p.2)=some (y,hp') at h
 cases q:f hp with
 | none=>rw [q] at h;cases h
 | some p=>rw [q] at h;exact ⟨p.1,p.2,rfl,h⟩
theorem Qi {α:Type} {x y:α} {hp hp':Hs} (h:(pure x:M α) hp=some (y,hp')):x=y/\hp=hp':=by
 change some (x,hp)=some (y,hp') at h
 cases h;exact ⟨rfl,rfl⟩
theorem tD.run {K:PySem.W.Frag} {f:DEx} {Z:Ent} {env:En} {σ:St} {ρ:List Addr} {B:Addr->Prop} {hp hp1:Hs} {H:Hp} {d:DV} {Q:VK} (S:SOk K Z env σ ρ B hp H) (e:f env hp=some (d,hp1))
  (k:∀ v ρ' B' H',Gr K ρ B H ρ' B' H'->SOk K Z env σ ρ' B' hp1 H'->RepV K ρ' B' H' d v->Q v H'):tD K f σ H Q :=
 ⟨Z,env,ρ,B,hp,d,hp1,S,e,fun v ρ' B' H' g W r=>k v ρ' B' H' g (S.grow g W) r⟩
def Qb (i:Nat):DEx:=fun env=>match env[i]? with
 | some (.val d)=>pure d
 | _=>failure
def eC (d:DV):DEx:=fun _=>pure d
theorem Qau {i:Nat} {env:En} {hp hp':Hs} {d:DV} (h:Qb i env hp=some (d,hp')):env[i]?=some (.val d)/\hp=hp':=by
  unfold Qb at h
  cases q:env[i]? with
  | none=>rw [q] at h;cases h
  | some z =>
    rw [q] at h
    cases z with
    | val x=>obtain ⟨rfl,rfl⟩:=Qi h;exact ⟨rfl,rfl⟩
    | un=>cases h
    | acc _=>cases h
theorem Qa (i:Nat) {x:Str} {pos:Pos} (hN:X.N[i]?=some x:=by rfl) (hv:Vis X.env.scope x:=by first | exact Or.inl rfl | exact Or.inr (Or.inl rfl) | exact Or.inr (Or.inr rfl)) (hd:(x==("__debug__" : Str))=false:=by decide)
  (hcd:(x==("__classdict__" : Str))=false:=by decide):DE X (.Name x pos) (Qb i) :=
 (Qf3 hN hv hd hcd).imp fun σ H Q ⟨Z,env,ρ,B,hp,d,hp',S,e,k⟩=>by
  obtain ⟨e1,rfl⟩:=Qau e
  obtain ⟨v,h1,h2⟩:=S.slot i d e1
  exact ⟨v,h1,k v ρ B H Gr.refl S.wo h2⟩
theorem zg {e:Expr} {d:DV} {v:V} (h:PE X e (tC v)) (r:∀ K ρ B H,RepV K ρ B H d v):DE X e (eC d) :=
 h.imp fun σ H Q ⟨Z,env,ρ,B,hp,d',hp',S,e,k⟩=>by
  obtain ⟨rfl,rfl⟩:=Qi e
  exact k v ρ B H Gr.refl S.wo (r _ _ _ _)
theorem Qq {i:Int} {j pos}:DE X (.Constant (.int i) j pos) (eC (.int i)):=zg QfX fun _ _ _ _=>by unfold RepV;rfl
theorem Y4 {b:Bool} {j pos}:DE X (.Constant (.bool b) j pos) (eC (.bl b)):=zg Qhn fun _ _ _ _=>by unfold RepV;rfl
theorem ZM {j pos}:DE X (.Constant .none j pos) (eC .non):=zg QfY fun _ _ _ _=>by unfold RepV;rfl
theorem Zk {x:Str} {j pos}:DE X (.Constant (.str x) j pos) (eC (.str x)):=zg Qf1 fun _ _ _ _=>by unfold RepV;rfl
theorem Zb {x:Str} {i:Int} {t:Tok} {pos:Pos} (hg:Gl X x) (hm:X.mg x=some (.int i t)) (hd:(x==("__debug__" : Str))=false:=by decide):DE X (.Name x pos) (eC (.int i)) :=
 zg (kG (v:=.int i) hg hm ⟨t,rfl⟩ hd) fun _ _ _ _=>by unfold RepV;rfl
def tP2 (K:PySem.W.Frag) (g:DV->DV->M DV):R2:=fun x y H Q=>∃ ρ B hp dx dy d hp',WOk K ρ B hp H/\RepV K ρ B H dx x/\RepV K ρ B H dy y/\g dx dy hp=some (d,hp')/\Fol K ρ B H d hp' Q
def P2 (X:Cx) (f:Value->Value->Sem Value) (g:DV->DV->M DV):Prop:=OpR X f (tP2 X.K g)
def Qk (g:DV->DV->M DV) (a b:DEx):DEx:=fun env=>do let x <- a env;let y <- b env;g x y
variable {a b c:Expr} {fa fb fc:DEx} {pos:Pos}
theorem zk {K:PySem.W.Frag} {g:DV->DV->M DV} {σ:St} {H:Hp} {Q:VK} (h:tD K (Qk g fa fb) σ H Q):tOp (tP2 K g) (tD K fa) (tD K fb) σ H Q:=by
 obtain ⟨Z,env,ρ,B,hp,d,hp',S,e,k⟩:=h
 obtain ⟨x,hp1,e1,e2⟩:=Qf e
 obtain ⟨y,hp2,e3,e4⟩:=Qf e2
 refine tD.run S e1 fun v ρ1 B1 H1 g1 S1 r1=>tD.run S1 e3 fun u ρ2 B2 H2 g2 S2 r2=>?_
 exact ⟨ρ2,B2,hp2,x,y,d,hp',S2.wo,RepV.grow S1.wo.rb g2 _ _ r1,r2,e4,fun w ρ' B' H' g W r=>k w ρ' B' H' (g1.trans (g2.trans g)) W r⟩
theorem Qz {op:Operator} {g:DV->DV->M DV} (ho:P2 X (binaryOp op) g) (ha:DE X a fa) (hb:DE X b fb):DE X (.BinOp a op b pos) (Qk g fa fb) :=
 (Qhp ho ha hb).imp fun _ _ _ h=>zk h
theorem XU {op:CmpOp} {g:DV->DV->M DV} (ho:P2 X (compareOp op) g) (ha:DE X a fa) (hb:DE X b fb) (hm:behindInMarks op b=false):DE X (.Compare a [op] [b] pos) (Qk g fa fb) :=
 (QdY ho ha hb hm).imp fun _ _ _ h=>zk h
def asB:DV->M Bool
 | .bl b=>pure b
 | _=>failure
def eB (f:DEx):DTx:=fun env=>do asB (<- f env)
theorem YY {d:DV} {c:Bool} {hp hp':Hs} (h:asB d hp=some (c,hp')):d=.bl c/\hp=hp':=by
 cases d with
 | bl b=>obtain ⟨rfl,rfl⟩:=Qi h;exact ⟨rfl,rfl⟩
 | _=>cases h
theorem RepV.blI {K:PySem.W.Frag} {ρ:List Addr} {B:Addr->Prop} {H:Hp} {b:Bool} {v:V} (h:RepV K ρ B H (.bl b) v):v=.bl b:=by unfold RepV at h;exact h
theorem RepV.intI {K:PySem.W.Frag} {ρ:List Addr} {B:Addr->Prop} {H:Hp} {b:Int} {v:V} (h:RepV K ρ B H (.int b) v):v=.int b:=by unfold RepV at h;exact h
theorem RepV.strI {K:PySem.W.Frag} {ρ:List Addr} {B:Addr->Prop} {H:Hp} {b:Str} {v:V} (h:RepV K ρ B H (.str b) v):v=.str b:=by unfold RepV at h;exact h
theorem RepV.nonI {K:PySem.W.Frag} {ρ:List Addr} {B:Addr->Prop} {H:Hp} {v:V} (h:RepV K ρ B H .non v):v=.non:=by unfold RepV at h;exact h
theorem RepV.tupI {K:PySem.W.Frag} {ρ:List Addr} {B:Addr->Prop} {H:Hp} {ds:List DV} {v:V} (h:RepV K ρ B H (.tup ds) v):∃ a xs,v=.ref a/\¬ B a/\SqT K H a xs/\RepL K ρ B H ds xs:=by unfold RepV at h;exact h
theorem RepV.lstI {K:PySem.W.Frag} {ρ:List Addr} {B:Addr->Prop} {H:Hp} {ds:List DV} {v:V} (h:RepV K ρ B H (.lst ds) v):∃ a xs,v=.ref a/\¬ B a/\SqL K H a xs/\RepL K ρ B H ds xs:=by unfold RepV at h;exact h
theorem RepV.refI {K:PySem.W.Frag} {ρ:List Addr} {B:Addr->Prop} {H:Hp} {i:Nat} {v:V} (h:RepV K ρ B H (.ref i) v):∃ a,v=.ref a/\ρ[i]?=some a:=by unfold RepV at h;exact h
section
variable {K:PySem.W.Frag} {ρ:List Addr} {B:Addr->Prop} {H:Hp}
theorem Jg {b:Bool}:RepV K ρ B H (.bl b) (.bl b):=by unfold RepV;rfl
theorem JC {b:Int}:RepV K ρ B H (.int b) (.int b):=by unfold RepV;rfl
theorem qL:RepV K ρ B H .non .non:=by unfold RepV;rfl
theorem qM {a:Addr} {ds:List DV} {xs:List V} (h1:¬ B a) (h2:SqT K H a xs) (h3:RepL K ρ B H ds xs):RepV K ρ B H (.tup ds) (.ref a):=by unfold RepV;exact ⟨a,xs,rfl,h1,h2,h3⟩
theorem Gw {a:Addr} {ds:List DV} {xs:List V} (h1:¬ B a) (h2:SqL K H a xs) (h3:RepL K ρ B H ds xs):RepV K ρ B H (.lst ds) (.ref a):=by unfold RepV;exact ⟨a,xs,rfl,h1,h2,h3⟩
end
theorem XZ {e:Expr} {f:DEx} (h:DE X e f) (he:∀ whole,isTrue e X.env whole=(do let v <- whole;standAt e.pos;holding [v] (truthy v)):=by intro _;rfl):DT X e (eB f) :=
 (Qgi h he).imp fun σ H Q ⟨Z,env,ρ,B,hp,d,hp',S,e,k⟩=>by
  obtain ⟨x,hp1,e1,e2⟩:=Qf e
  obtain ⟨rfl,rfl⟩:=YY e2
  exact tD.run S e1 fun v ρ1 B1 H1 g1 S1 r1=>⟨d,r1.blI,k ρ1 B1 H1 g1 S1.wo⟩
theorem Ze {op:CmpOp} {g:DV->DV->M DV} (ho:P2 X (compareOp op) g) (ha:DE X a fa) (hb:DE X b fb) (hm:behindInMarks op b=false):DT X (.Compare a [op] [b] pos) (eB (Qk g fa fb)) :=
 (Qeg ho ha hb hm).imp fun σ H Q ⟨Z,env,ρ,B,hp,d,hp',S,e,k⟩=>by
  obtain ⟨x,hp1,e1,e2⟩:=Qf e
  obtain ⟨rfl,rfl⟩:=YY e2
  exact zk (tD.run S e1 fun v ρ1 B1 H1 g1 S1 r1=>⟨d,r1.blI,k ρ1 B1 H1 g1 S1.wo⟩)
def qA (f g:DTx):DTx:=fun env=>do if <- f env then g env else pure false
def eOr (f g:DTx):DTx:=fun env=>do if <- f env then pure true else g env
def Xc (f:DTx):DTx:=fun env=>do let b <- f env;pure (!b)
def J0 (f g:DEx):DEx:=fun env=>do if <- asB (<- f env) then g env else pure (.bl false)
def Vt (f g:DEx):DEx:=fun env=>do if <- asB (<- f env) then pure (.bl true) else g env
def Y6 (f:DEx):DEx:=fun env=>do let b <- asB (<- f env);pure (.bl (!b))
def eIf (c:DTx) (f g:DEx):DEx:=fun env=>do if <- c env then f env else g env
theorem tDT.run {K:PySem.W.Frag} {f:DTx} {Z:Ent} {env:En} {σ:St} {ρ:List Addr} {B:Addr->Prop} {hp hp1:Hs} {H:Hp} {d:Bool} {Q:Bool->Hp->Prop} (S:SOk K Z env σ ρ B hp H) (e:f env hp=some (d,hp1))
  (k:∀ ρ' B' H',Gr K ρ B H ρ' B' H'->SOk K Z env σ ρ' B' hp1 H'->Q d H'):tDT K f σ H Q :=
 ⟨Z,env,ρ,B,hp,d,hp1,S,e,fun ρ' B' H' g W=>k ρ' B' H' g (S.grow g W)⟩
variable {ca cb:DTx} {rest:List Expr}
theorem Qdu (h:DT X a ca):DW X (.BoolOp .And [a] pos) ca:=Qek h
theorem uA (h:DT X a ca):DW X (.BoolOp .Or [a] pos) ca:=Qgl h
theorem Qfl (ha:DT X a ca) (hb:DW X (.BoolOp .And (b::rest) pos) cb):DW X (.BoolOp .And (a::b::rest) pos) (qA ca cb) :=
  (Qgk ha hb).imp fun σ H Q ⟨Z,env,ρ,B,hp,d,hp',S,e,k⟩=>by
    obtain ⟨x,hp1,e1,e2⟩:=Qf e
    refine tDT.run S e1 fun ρ1 B1 H1 g1 S1=>?_
    cases x with
    | true=>exact vo (tDT.run S1 e2 fun ρ2 B2 H2 g2 S2=>k ρ2 B2 H2 (g1.trans g2) S2.wo)
    | false =>
      obtain ⟨rfl,rfl⟩:=Qi e2
      exact vn (k ρ1 B1 H1 g1 S1.wo)
theorem Qby (ha:DT X a ca) (hb:DW X (.BoolOp .Or (b::rest) pos) cb):DW X (.BoolOp .Or (a::b::rest) pos) (eOr ca cb) :=
  (Qhs ha hb).imp fun σ H Q ⟨Z,env,ρ,B,hp,d,hp',S,e,k⟩=>by
    obtain ⟨x,hp1,e1,e2⟩:=Qf e
    refine tDT.run S e1 fun ρ1 B1 H1 g1 S1=>?_
    cases x with
    | false=>exact vn (tDT.run S1 e2 fun ρ2 B2 H2 g2 S2=>k ρ2 B2 H2 (g1.trans g2) S2.wo)
    | true =>
      obtain ⟨rfl,rfl⟩:=Qi e2
      exact vo (k ρ1 B1 H1 g1 S1.wo)
theorem DW.pt {e:Expr} {f:DTx} (h:DW X e f):DT X e f:=h _
theorem zj (h:DT X a ca):DT X (.UnaryOp .Not a pos) (Xc ca) :=
 (Qgh h).imp fun σ H Q ⟨Z,env,ρ,B,hp,d,hp',S,e,k⟩=>by
  obtain ⟨x,hp1,e1,e2⟩:=Qf e
  obtain ⟨rfl,rfl⟩:=Qi e2
  exact tDT.run S e1 fun ρ1 B1 H1 g1 S1=>k ρ1 B1 H1 g1 S1.wo
theorem xS {op:BoolOp} (h:DE X a fa):DE X (.BoolOp op [a] pos) fa:=Qf0 h
theorem xR (ha:DE X a fa) (hb:DE X (.BoolOp .And (b::rest) pos) fb):DE X (.BoolOp .And (a::b::rest) pos) (J0 fa fb) :=
  (QfV ha hb).imp fun σ H Q ⟨Z,env,ρ,B,hp,d,hp',S,e,k⟩=>by
    obtain ⟨x,hp1,e1,e2⟩:=Qf e
    obtain ⟨c,hp2,e3,e4⟩:=Qf e2
    obtain ⟨rfl,rfl⟩:=YY e3
    refine tD.run S e1 fun v ρ1 B1 H1 g1 S1 r1=>⟨c,r1.blI,?_⟩
    cases c with
    | true=>exact vo (tD.run S1 e4 fun v ρ2 B2 H2 g2 S2 r2=>k v ρ2 B2 H2 (g1.trans g2) S2.wo r2)
    | false =>
      obtain ⟨rfl,rfl⟩:=Qi e4
      exact vn (k _ ρ1 B1 H1 g1 S1.wo Jg)
theorem Qfi (ha:DE X a fa):DE X (.UnaryOp .Not a pos) (Y6 fa) :=
 (QfZ ha).imp fun σ H Q ⟨Z,env,ρ,B,hp,d,hp',S,e,k⟩=>by
  obtain ⟨x,hp1,e1,e2⟩:=Qf e
  obtain ⟨c,hp2,e3,e4⟩:=Qf e2
  obtain ⟨rfl,rfl⟩:=YY e3
  obtain ⟨rfl,rfl⟩:=Qi e4
  exact tD.run S e1 fun v ρ1 B1 H1 g1 S1 r1=>⟨c,r1.blI,k _ ρ1 B1 H1 g1 S1.wo Jg⟩
theorem QeS (hc:DT X c ca) (ha:DE X a fa) (hb:DE X b fb):DE X (.IfExp c a b pos) (eIf ca fa fb) :=
 (Qco hc ha hb).imp fun σ H Q ⟨Z,env,ρ,B,hp,d,hp',S,e,k⟩=>by
  obtain ⟨x,hp1,e1,e2⟩:=Qf e
  refine tDT.run S e1 fun ρ1 B1 H1 g1 S1=>?_
  cases x with
  | true=>exact vo (tD.run S1 e2 fun v ρ2 B2 H2 g2 S2 r2=>k v ρ2 B2 H2 (g1.trans g2) S2.wo r2)
  | false=>exact vn (tD.run S1 e2 fun v ρ2 B2 H2 g2 S2 r2=>k v ρ2 B2 H2 (g1.trans g2) S2.wo r2)
def Qn:DAx:=fun _=>pure []
def Qc (f:DEx) (g:DAx):DAx:=fun env=>do let x <- f env;let xs <- g env;pure (x::xs)
theorem tDA.run {K:PySem.W.Frag} {f:DAx} {Z:Ent} {env:En} {σ:St} {ρ:List Addr} {B:Addr->Prop} {hp hp1:Hs} {H:Hp} {ds:List DV} {Q:List V->Hp->Prop} (S:SOk K Z env σ ρ B hp H) (e:f env hp=some (ds,hp1))
  (k:∀ vs ρ' B' H',Gr K ρ B H ρ' B' H'->SOk K Z env σ ρ' B' hp1 H'->RepL K ρ' B' H' ds vs->Q vs H'):tDA K f σ H Q :=
 ⟨Z,env,ρ,B,hp,ds,hp1,S,e,fun vs ρ' B' H' g W r=>k vs ρ' B' H' g (S.grow g W) r⟩
theorem Qm:DA X [] Qn:=pa_nil.imp fun σ H Q ⟨Z,env,ρ,B,hp,ds,hp',S,e,k⟩=>by
 obtain ⟨rfl,rfl⟩:=Qi e
 exact k [] ρ B H Gr.refl S.wo RepL.nil
theorem Qd {e:Expr} {es:List Expr} {f:DEx} {g:DAx} (ha:DE X e f) (hr:DA X es g) (hs:starEach (e::es) X.env=(false,eval e X.env)::starEach es X.env:=by rfl):DA X (e::es) (Qc f g) :=
 (X9 ha hr hs).imp fun σ H Q ⟨Z,env,ρ,B,hp,ds,hp',S,e,k⟩=>by
  obtain ⟨x,hp1,e1,e2⟩:=Qf e
  obtain ⟨xs,hp2,e3,e4⟩:=Qf e2
  obtain ⟨rfl,rfl⟩:=Qi e4
  exact tD.run S e1 fun v ρ1 B1 H1 g1 S1 r1=>tDA.run S1 e3 fun vs ρ2 B2 H2 g2 S2 r2=>k _ ρ2 B2 H2 (g1.trans g2) S2.wo (RepL.cons (RepV.grow S1.wo.rb g2 _ _ r1) r2)
def lim:Nat:=100000
theorem Gq:lim<=sizeLine:=by decide
def Qv (c:Bool):M Unit:=if c then pure () else failure
theorem QC {c:Bool} {hp hp':Hs} {u:Unit} (h:Qv c hp=some (u,hp')):c=true/\hp=hp':=by
 cases c with
 | true=>obtain ⟨_,rfl⟩:=Qi (show (pure ():M Unit) hp=some (u,hp') from h);exact ⟨rfl,rfl⟩
 | false=>cases h
def qX (ds:List DV):Bool:=decide (ds.length<=lim)
theorem zF {ds:List DV} (h:qX ds=true):ds.length<=sizeLine:=Nat.le_trans (of_decide_eq_true h) Gq
def Zg (f:DAx):DEx:=fun env=>do let xs <- f env;Qv (qX xs);pure (.tup xs)
def Yw (f:DAx):DEx:=fun env=>do let xs <- f env;Qv (qX xs);pure (.lst xs)
theorem jS {K:PySem.W.Frag} {ρ:List Addr} {B:Addr->Prop} {H:Hp} {hp:Hs} {ds:List DV} {xs:List V} {Q:VK} (W:WOk K ρ B hp H) (r:RepL K ρ B H ds xs) (k:Fol K ρ B H (.tup ds) hp Q):∀ p,H p=none->Q (.ref p) (upd H p (.tup xs)):=fun p hp' =>
 k _ ρ B _ (Gr.laid hp') (W.laid hp') (qM (fun z=>W.bt p z hp') (SqT.of Zm) (RepL.grow W.rb (Gr.laid hp') _ _ r))
theorem jR {K:PySem.W.Frag} {ρ:List Addr} {B:Addr->Prop} {H:Hp} {hp:Hs} {ds:List DV} {xs:List V} {Q:VK} (W:WOk K ρ B hp H) (r:RepL K ρ B H ds xs) (k:Fol K ρ B H (.lst ds) hp Q):∀ p,H p=none->Q (.ref p) (upd H p (.lst xs)):=fun p hp' =>
 k _ ρ B _ (Gr.laid hp') (W.laid hp') (Gw (fun z=>W.bt p z hp') (SqL.of Zm) (RepL.grow W.rb (Gr.laid hp') _ _ r))
theorem Fol.after {K:PySem.W.Frag} {ρ ρ1:List Addr} {B B1:Addr->Prop} {H H1:Hp} {hp':Hs} {d:DV} {Q:VK} (g:Gr K ρ B H ρ1 B1 H1) (k:Fol K ρ B H d hp' Q):Fol K ρ1 B1 H1 d hp' Q:=fun v ρ' B' H' g' W r=>k v ρ' B' H' (g.trans g') W r
theorem Q9 {es:List Expr} {f:DAx} {x1} (h:DA X es f):DE X (.Tuple es x1 pos) (Zg f) :=
 (Qf2 h).imp fun σ H Q ⟨Z,env,ρ,B,hp,d,hp',S,e,k⟩=>by
  obtain ⟨xs,hp1,e1,e2⟩:=Qf e
  obtain ⟨_,hp2,e3,e4⟩:=Qf e2
  obtain ⟨hs,rfl⟩:=QC e3
  obtain ⟨rfl,rfl⟩:=Qi e4
  exact tDA.run S e1 fun vs ρ1 B1 H1 g1 S1 r1=>⟨by rw [<- r1.length];exact zF hs,jS S1.wo r1 (k.after g1)⟩
theorem KZ {es:List Expr} {f:DAx} (h:DA X es f):DE X (.List es pos) (Yw f) :=
 (Qcp h).imp fun σ H Q ⟨Z,env,ρ,B,hp,d,hp',S,e,k⟩=>by
  obtain ⟨xs,hp1,e1,e2⟩:=Qf e
  obtain ⟨_,hp2,e3,e4⟩:=Qf e2
  obtain ⟨hs,rfl⟩:=QC e3
  obtain ⟨rfl,rfl⟩:=Qi e4
  exact tDA.run S e1 fun vs ρ1 B1 H1 g1 S1 r1=>⟨by rw [<- r1.length];exact zF hs,jR S1.wo r1 (k.after g1)⟩
end
end D
namespace L2
open PySem PySem.Spec PyProof.Rows
def XT (X:Cx) (scope:Scope) (cl:List (Str×Addr)) (C:Addr) (N:List Str) (s₀:Shared) (H₀:Hp) (ex:List Addr):Cx where
 prog:=X.prog
 w:=X.w
 K:=X.K
 mg:=X.mg
 base:=X.base
 A:=X.A
 N:=N
 s₀:=s₀
 H₀:=H₀
 env:=compEnvC scope cl C X.env
 outer:=X.stack
 stack:=X.stack
 ex:=ex
 fn:=fun _=>false
 calm:=X.calm
 pn:=[]
 xe:=fun _ _=>False
def AllP {α:Type} (P:α->Prop):List α->Prop
 | []=>True
 | x::r=>P x/\AllP P r
theorem AllP.mem {α:Type} {P:α->Prop}:∀ {l:List α} {x:α},AllP P l->x∈l->P x
 | [],_,_,h=>nomatch h
 | y::r,x,⟨h1,h2⟩,h=>(List.mem_cons.mp h).elim (fun e=>e▸h1) fun e=>AllP.mem h2 e
def Caps (X:Cx) (scope:Scope) (cl:List (Str×Addr)):List Str->List Nat->Prop
  | [],[]=>True
  | y :: ys, i :: is => X.N[i]? = some y /\ (X.env.kindOf y = some .cell ∨ X.env.kindOf y = some .free) /\ (∃ c, cl.lookup y = some c) /\
      (relabel scope X.env).names.lookup y≠some .local/\Caps X scope cl ys is
  | _,_=>False
theorem Caps.get {X:Cx} {scope:Scope} {cl:List (Str×Addr)}:∀ {ys:List Str} {is:List Nat} {j:Nat} {y:Str},Caps X scope cl ys is->ys[j]?=some y ->
    ∃ i,is[j]?=some i/\X.N[i]?=some y/\(X.env.kindOf y=some .cell∨X.env.kindOf y=some .free)/\(∃ c,cl.lookup y=some c)/\(relabel scope X.env).names.lookup y≠some .local
  | [],_,_,_,_,h=>by simp at h
  | y::ys,[],_,_,h,_=>by simp [Caps] at h
  | y::ys,i::is,0,z,⟨h1,h2,h3,h4,_⟩,h=>by simp at h;subst h;exact ⟨i,rfl,h1,h2,h3,h4⟩
  | y::ys,i::is,j+1,z,⟨_,_,_,_,h5⟩,h=>by
    obtain ⟨k,a,b⟩:=Caps.get h5 (by simpa using h)
    exact ⟨k,by simpa using a,b⟩
theorem Caps.length {X:Cx} {scope:Scope} {cl:List (Str×Addr)}:∀ {ys:List Str} {is:List Nat},Caps X scope cl ys is->ys.length=is.length
 | [],[],_=>rfl
 | [],_::_,h=>by simp [Caps] at h
 | _::_,[],h=>by simp [Caps] at h
 | _::ys,_::is,⟨_,_,_,_,h⟩=>by simp [Caps.length h]
structure GO (X:Cx) (x:Str) (scope:Scope) (cl:List (Str×Addr)) (caps:List Str) (idx:List Nat):Prop where
 clos:closureFor scope X.env=pure cl
 cell:∀ y∈scope.names,y.2≠.cell
 kind:scope.kind=.function
 names:∀ y∈scope.names,y.2=.local->scope.names.lookup y.1=some .local
 hx:scope.names.lookup x=some .local
 cls:AllP (fun p:Str×Addr=>X.env.cells.lookup p.1=some p.2) cl
 has:((relabel scope X.env).names.all fun p=>!(p.2==.cell||p.2==.free)||(cl.lookup p.1).isSome)=true
 cps:Caps X scope cl caps idx
 nd:(x::caps).Nodup
def cσ (idx:List Nat) (σ:St) (o:Option V):St:=o::idx.map fun i=>(σ[i]?).join
def PTs (X:Cx) (ifs:List Expr) (t:TT):Prop :=
  ∀ (pins : List (Addr × Obj)) (s : Shared) (σ : St) (H : Hp) (Q : Bool -> Hp -> Prop), Inv X pins σ H s -> t σ H Q ->
    wpAny (model X.prog X.w) X.A (forIn ifs true fun c r=>if r=true then do let ok <- isTrue c X.env (eval c X.env);pure (ForInStep.yield ok) else pure (ForInStep.yield r)) (TP X pins σ Q) X.xe s
theorem Qeh {X:Cx}:PTs X [] (fun _ H Q=>Q true H):=fun pins s σ H Q I h=>wpAny_tests_nil ⟨H,I,h⟩
theorem Qei {X:Cx} {c:Expr} {t:TT} (h:PT X c t):PTs X [c] t:=fun pins s σ H Q I q=>wpAny_tests_one (h pins s σ H Q I q)
section
variable {prog:Program} {w:World} {A:Around} {R:Result->Shared->Prop} {s:Shared}
theorem KY {elt target iter:Expr} {ifs:List Expr} {scope:Scope} {pos:Pos} {it acc:Value} {env:Env} (I:Nat->Shared->Prop)
    (turn:∀ n s,I n s->wpAny (model prog w) A (pyNext it) (fun r s₁=>match r with
      | none=>R (.ok .next) s₁
      | some v=>wpAny (model prog w) A (letOwnedTupleGo target it v) (fun _ s₁'=>wpAny (model prog w) A (assign target env v) (fun _ s₂ =>
          wpAny (model prog w) A (forIn ifs true fun c r=>if r=true then do let ok <- isTrue c env (eval c env);pure (ForInStep.yield ok) else pure (ForInStep.yield r)) (fun ok s₃ =>
            if ok=true then wpAny (model prog w) A (eval elt env) (fun x s₄ =>
              wpAny (model prog w) A (call (.builtin "list.append") [acc,x]) (fun _ s₅=>∃ m,m < n/\I m s₅) (fun _ _=>False) s₄) (fun _ _=>False) s₃
            else ∃ m,m < n/\I m s₃) (fun _ _=>False) s₂) (fun _ _=>False) s₁') (fun _ _=>False) s₁) (fun _ _=>False) s)
    (n:Nat) (h:I n s) :
    codeAny (model prog w) A (.compLoop (.ListComp elt [⟨target,iter,ifs,0⟩] scope pos) 0 it acc env) R s:=by
  refine codeAny_loop rfl I (fun n s hI=>?_) n h
  show wpAny _ A ((compTurn (.ListComp elt [⟨target,iter,ifs,0⟩] scope pos) 0 it acc env).onRaise (fun x=>do noteFrame x env;theTreesLotGoes x)) _ _ s
  refine wpAny_noted ?_
  rw [compTurn_list]
  refine wpAny_bind (wpAny_standAt (wpAny_bind (wpAny_mono (turn n s hI) (fun r s₁ h₁=>?_) fun _ _ h'=>h'.elim)))
  cases r with
  | none=>exact wpAny_pure h₁
  | some v =>
    refine wpAny_bind (wpAny_mono h₁ (fun _ s₁' h₁'=>?_) fun _ _ h'=>h'.elim)
    refine wpAny_bind (wpAny_mono h₁' (fun _ s₂ h₂=>wpAny_bind (wpAny_mono h₂ (fun ok s₃ h₃=>?_) fun _ _ h'=>h'.elim)) fun _ _ h'=>h'.elim)
    cases ok with
    | false=>exact wpAny_pure ⟨rfl,h₃⟩
    | true =>
      exact wpAny_bind (wpAny_bind (wpAny_mono h₃ (fun x s₄ h₄=>wpAny_bind (wpAny_mono h₄ (fun _ s₅ h₅=>wpAny_pure (wpAny_pure ⟨rfl,h₅⟩)) fun _ _ h'=>h'.elim)) fun _ _ h'=>h'.elim))
end
def kS (K:PySem.W.Frag) (wi:TI) (tt:TT) (te:TE) (idx:List Nat):TE:=fun σ H Q=>wi σ H fun J H1=>∀ D,H1 D=none->K.lookup D=none->∃ W:Nat->Nat->List V->Hp->Prop,(∃ m,W 0 m [] (upd H1 D (.lst []))) /\
  ∀ i m ys H, W i m ys H -> H D = some (.lst ys) /\ ((J.stop i H /\ Q (.ref D) H) ∨ (J.go i H /\ ∀ x H', J.yld i H x H' -> tt (cσ idx σ (some x)) H' fun b H2 =>
    if b=true then te (cσ idx σ (some x)) H2 fun y H3=>H3 D=some (.lst ys)/\ys.length < sizeLine/\∃ m',m' < m/\W (i+1) m' (ys++[y]) (upd H3 D (.lst (ys++[y])))
    else ∃ m',m' < m/\W (i+1) m' ys H2))
section
variable {X:Cx} {elt iter:Expr} {x:Str} {px:Pos} {ifs:List Expr} {scope:Scope} {cl:List (Str×Addr)} {pos:Pos} {caps:List Str} {idx:List Nat} {wi:TI} {tt:TT} {te:TE}
theorem G0 {E:Value->Shared->Prop} {use:Option (Value->Sem Unit)} {QQ:Value->Shared->Prop} {newpos:Pos} (S:GO X x scope cl caps idx) (hc:X.calm=true) (hi:PI X (.Name x px) iter wi)
    (ht:∀ C s₀ H₀ ex,PTs (XT X scope cl C (x::caps) s₀ H₀ ex) ifs tt) (he:∀ C s₀ H₀ ex,PE (XT X scope cl C (x::caps) s₀ H₀ ex) elt te)
    {pins:List (Addr×Obj)} {s:Shared} {σ:St} {H:Hp} {Q:VK} (I:Inv X pins σ H s) (h:kS X.K wi tt te idx σ H Q)
    (hE:X.xe=E)
    (hend:∀ (D C:Addr) (H':Hp) (s':Shared) (m:Str->Option Value),Inv X pins σ H' s'->Q (.ref D) H'->s'.heap.Ns C m->H' C=none->C≠X.env.locals->X.s₀.heap.objs.size<=C->(∀ x c,X.env.cells.lookup x=some c->c≠C)->(∀ p∈X.pn++pins,p.1≠C) ->
      compPost (model X.prog X.w) X.A E use QQ (.ref D) C (.ok .next) s')
    (hs:∀ x,foldedSetIterable iter X.env x=pure x:=by intro _;rfl) :
    wpAny (model X.prog X.w) X.A (comprehension (.ListComp elt [⟨.Name x px,iter,ifs,0⟩] scope pos) scope X.env newpos (newList []) false (eval iter X.env) use) QQ E s:=by
  subst hE
  refine wpAny_comprehension_free (use:=use) rfl hs S.clos S.kind S.names (thn (hi pins s σ H _ I h) fun xv s1 h1=>thn h1 fun itv s2 h2=>?_)
  obtain ⟨it,fp,tn,J,H2,rfl,I2,T,st2,f2,hQ⟩:=h2
  refine wpAny_newObj_type (wpAny_newFunctionEnv S.cell (by intro y hy;simp at hy) (fun h₁ hns₁ hsb₁=>?_) S.kind)
  dsimp only at hns₁ hsb₁ ⊢
  generalize hH2:s2.heap.push { cls:=.type "list", dict:=none,data:=.seq ([]:List Value).toArray }=hp3 at hns₁ hsb₁ ⊢
  have hC:hp3.objs.size=s2.heap.objs.size+1:=by rw [<- hH2,Heap.size_push]
  have keep3:∀ b o,s2.heap.get? b=some o->hp3.get? b=some o:=fun b o e=>hH2▸Heap.get?_push_of_some _ e
  have hDf:H2 s2.heap.objs.size=none:=I2.hok.fresh (Nat.le_refl _)
  have I3:Inv X pins σ (upd H2 s2.heap.objs.size (.lst [])) { s2 with heap:=hp3 } :=
    I2.laid (t':=s2.toks) keep3 (Nat.le_refl _) ⟨Nat.zero_le _,[],_,.nil,hH2▸Heap.get?_push_size _ rfl⟩
  have hDk:X.K.lookup s2.heap.objs.size=none:=by
    cases q:X.K.lookup s2.heap.objs.size with
    | none=>rfl
    | some o=>exact absurd (Heap.lt_size (I2.kIn _ o q)) (Nat.lt_irrefl _)
  obtain ⟨W,⟨m0,w0⟩,turn⟩:=hQ _ hDf hDk
  generalize hDd:s2.heap.objs.size=D at *
  generalize hCc:hp3.objs.size=C at *
  have ltC:∀ b o,hp3.get? b=some o->b≠C:=fun b o e=>by rw [<- hCc];exact Nat.ne_of_lt (Heap.lt_size e)
  have keep4:∀ b o,hp3.get? b=some o->h₁.get? b=some o:=fun b o e=>hsb₁.extBut b o (ltC b o e) (Heap.get?_push_of_some _ e)
  have s3sz:({ s2 with heap:=hp3 }:Shared).heap.objs.size=C:=hCc
  have clE:∀ y c,cl.lookup y=some c->X.env.cells.lookup y=some c:=fun y c e=>S.cls.mem (PySem.mem_of_lookup e)
  have fpLt:∀ b∈fp,∃ o,s2.heap.get? b=some o:=fun b hb=>let ⟨o,e,_⟩:=T.obj _ _ st2 b hb;⟨o,e⟩
  have fpC:∀ b∈fp,b≠C:=fun b hb=>let ⟨o,e⟩:=fpLt b hb;ltC b o (keep3 b o e)
  have fpD:∀ b∈fp,b≠D:=fun b hb=>let ⟨o,e⟩:=fpLt b hb;by rw [<- hDd];exact Nat.ne_of_lt (Heap.lt_size e)
  have fr3:∀ b∈fp,(upd H2 D (.lst [])) b=none:=fun b hb=>by rw [Q4 (fpD b hb)];exact (f2 b hb).1
  have cellLt:∀ y c,X.env.cells.lookup y=some c->c≠C:=fun y c e=>let ⟨v,o,ho,_⟩:=I3.cell y c e;ltC c o ho
  have fpStk:∀ b∈fp,b∉frs X.stack:=fun b hb z=>(List.mem_cons.mp (I2.stkSub b z)).elim (f2 b hb).2.1 (f2 b hb).2.2.1
  let X':=XT X scope cl C (x::caps) { s2 with heap:=hp3 } (upd H2 D (.lst [])) fp
  have ok':X'.Ok:=by
    refine ⟨I3.ok.mod,by show (relabel scope X.env).kind=_;exact S.kind,I3.ok.glob,I3.ok.blt,by show hp3.objs.size<=C;rw [hCc];exact Nat.le_refl _,fun y z c h1 h2=>I3.ok.inj y z c (clE y c h1) (clE z c h2),fun y hy=>?_,
      fun y c z=>(by cases z),I3.ok.hd,I3.ok.frames,.inl rfl,fun b hb=>⟨fpC b hb,fun y c e=>(f2 b hb).2.2.2.2.1 y c (clE y c e)⟩,I3.bs,Nat.le_trans I3.ok.bsz I3.sz,
      fun b o e hb=>?_,fun b hb=>fpStk b hb,I3.stack,I3.stkFree⟩
    . have hy':(relabel scope X.env).names.lookup y=some .cell∨(relabel scope X.env).names.lookup y=some .free:=hy
      have q:=S.has
      rw [List.all_eq_true] at q
      have:(cl.lookup y).isSome=true:=by
        rcases hy' with z | z
        . have q:=q _ (PySem.mem_of_lookup z);simpa using q
        . have q:=q _ (PySem.mem_of_lookup z);simpa using q
      exact Option.isSome_iff_exists.mp this
    . have:=(f2 b hb).2.2.2.1
      have e3:=(I2.ok.bs b o e).1
      rcases this with z | z
      . exact I2.ok.noex b o e z
      . exact absurd (Nat.lt_of_lt_of_le (Heap.lt_size e3) z) (Nat.lt_irrefl _)
  have capsLen:=S.cps.length
  have I4:Inv X' [] (cσ idx σ none) (upd H2 D (.lst [])) { s2 with heap:=h₁,toks:=s2.toks+([]:List (Str×Value)).length }:=by
    refine ⟨ok',rfl,I3.bare,Un.kept keep4,⟨_,hns₁,fun i y v e1 e2 e3=>?_⟩,fun y c e=>?_,?_,fun y c e=>I3.freeC y c (clE y c e),fun p hp=>absurd (show p∈([]:List (Addr×Obj)) from hp) (by simp),I3.hok.kept keep4,?_⟩
    . cases i with
      | zero=>exact absurd e2 (by simp [cσ])
      | succ j =>
        obtain ⟨k,h1,h2,h3,⟨c,h4⟩,h5⟩:=S.cps.get (show caps[j]?=some y by have e1':(x::caps)[j+1]?=some y:=e1;simpa using e1')
        have e2':(σ[k]?).join=some v:=by simpa [cσ,h1] using e2
        have e2'':σ[k]?=some (some v):=by
          cases q:σ[k]? with
          | none=>rw [q] at e2';cases e2'
          | some z=>rw [q] at e2';exact congrArg some e2'
        obtain ⟨mL,hnL,hl⟩:=I3.loc
        have vis:Vis X.env.scope y:=by rcases h3 with z | z;exact .inr (.inl z);exact .inr (.inr z)
        obtain ⟨u,r,l⟩:=hl k y v h2 e2'' vis
        refine ⟨u,r,.inr ⟨?_,c,h4,?_⟩⟩
        . have e3':(relabel scope X.env).names.lookup y=some .local∨(relabel scope X.env).names.lookup y=some .cell∨(relabel scope X.env).names.lookup y=some .free:=e3
          rcases e3' with z | z | z
          . exact absurd z h5
          . exact .inl z
          . exact .inr z
        . rcases l with ⟨z,_⟩ | ⟨_,c',e,z⟩
          . rcases h3 with q | q <;> · rw [q] at z;cases z
          . rw [clE y c h4] at e;cases e
            obtain ⟨o,ho,hd⟩:=z
            exact ⟨o,keep4 _ _ ho,hd⟩
    . obtain ⟨v,o,ho,hd⟩:=I3.cell y c (clE y c e)
      exact ⟨v,o,keep4 _ _ ho,hd⟩
    . exact I3.hok.fresh (by show hp3.objs.size<=C;rw [hCc];exact Nat.le_refl _)
    . simp [cσ,X',XT,capsLen]
  have st4:tn 0 h₁:=T.keep _ _ _ st2 fun b _ o e=>keep4 b o (keep3 b o e)
  have fpX:∀ {H':Hp} {pins':List (Addr×Obj)},(∀ b∈fp,H' b=none)->(pins'=[])->∀ b∈fp,Uo X' pins' H' b:=fun hn e b hb=>by
    subst e
    exact ⟨hn b hb,fpC b hb,fpStk b hb,.inl hb,fun y c e=>(f2 b hb).2.2.2.2.1 y c (clE y c e),fun p hp=>absurd (show p∈([]:List (Addr×Obj)) from hp) (by simp)⟩
  have loop:∀ s₃:Shared,s₃={ s2 with heap:=h₁,toks:=s2.toks+([]:List (Str×Value)).length } ->
      codeAny (model X.prog X.w) X.A (.compLoop (.ListComp elt [⟨.Name x px,iter,ifs,0⟩] scope pos) 0 (.ref it) (.ref D) (compEnvC scope cl C X.env)) (compPost (model X.prog X.w) X.A X.xe use QQ (.ref D) C) s₃:=by
    rintro s₃ rfl
    refine KY (fun n s'=>∃ i o H' ys,Inv X' [] (cσ idx σ o) H' s'/\tn i s'.heap/\(∀ b∈fp,H' b=none)/\W i n ys H') ?_ m0 ⟨0,none,_,[],I4,st4,fr3,w0⟩
    rintro n s5 ⟨i,o,H5,ys,I5,st5,fr5,w5⟩
    obtain ⟨hD,tw⟩:=turn i n ys H5 w5
    rcases tw with ⟨stop,q⟩ | ⟨go,step⟩
    . refine thn (T.done X' rfl rfl rfl hc i [] s5 _ H5 _ I5 (fpX fr5 rfl) st5 stop) fun r s6 ⟨hr,I6⟩=>?_
      subst hr
      obtain ⟨m6,hn6,_⟩:=I6.loc
      have I7:Inv X pins σ H5 s6:=I3.call' (s':=s6) (ch:=fp) I6.os I6.base I6.hok I6.bare fun b hb=>⟨(f2 b hb).2.2.2.1,(f2 b hb).2.1,(f2 b hb).2.2.2.2.1,(f2 b hb).2.2.2.2.2⟩
      refine hend D C H5 s6 m6 I7 q hn6 I6.free ?_ ?_ cellLt fun p hp=>?_
      . rw [<- hCc];exact Nat.ne_of_gt I3.lt
      . rw [<- hCc];exact I3.sz
      . exact ltC p.1 p.2 (I3.pin p hp).1
    . refine thn (T.item X' rfl rfl rfl hc i [] s5 _ H5 _ I5 (fpX fr5 rfl) st5 go) fun r s6 ⟨u,hr,h6⟩=>?_
      subst hr
      refine thn h6 fun _ s7 ⟨y,H7,I7,r7,y7,st7,fr7⟩=>?_
      have I7':=I7.pinned (fpX fr7 rfl) (T.obj _ _ st7)
      refine thn (Gv (X:=X') (i:=0) S.nd rfl (.inl (lookup_relabel_local S.hx)) (.inr (lookup_relabel_local S.hx)) _ s7 _ H7 y u (fun σ' H'=>σ'=cσ idx σ (some y)/\H'=H7) I7' r7 ⟨rfl,rfl⟩) fun _ s8 ⟨σ8,H8,I8,e8,e8'⟩=>?_
      subst e8
      subst e8'
      have again:∀ {H9:Hp} {s9:Shared} {ys':List V},Inv X' ([]++VO fp s7.heap) (cσ idx σ (some y)) H9 s9->(∃ m',m' < n/\W (i+1) m' ys' H9) ->
          ∃ m,m < n/\∃ i o H' ys,Inv X' [] (cσ idx σ o) H' s9/\tn i s9.heap/\(∀ b∈fp,H' b=none)/\W i m ys H':=fun {H9 s9 ys'} I9 ⟨m',hm,w9⟩=>by
        refine ⟨m',hm,i+1,some y,H9,ys',I9.unpinned,T.keep _ _ _ st7 fun b hb o e=>(I9.pin (b,o) (List.mem_append_right _ (List.mem_append_right _ (qH hb e)))).1,fun b hb=>?_,w9⟩
        obtain ⟨o,e,d⟩:=T.obj _ _ st7 b hb
        exact (I9.pin (b,o) (List.mem_append_right _ (List.mem_append_right _ (qH hb e)))).2.1
      refine thn (ht _ _ _ _ _ s8 _ H8 _ I8 (step y H8 y7)) fun ok s9 ⟨H9,I9,q9⟩=>?_
      cases ok with
      | false=>exact again I9 (by rw [if_neg Bool.false_ne_true] at q9;exact q9)
      | true =>
        rw [if_pos rfl] at q9 ⊢
        refine thn (he _ _ _ _ _ s9 _ H9 _ I9 q9) fun v s10 ⟨z,H10,I10,r10,hD10,hlen,m',hm,w10⟩=>?_
        refine thn (Kg (X:=X') _ s10 _ H10 (.ref D) [z] (.ref D) [v] (fun _ H'=>H'=upd H10 D (.lst (ys++[z]))) I10 rfl (.cons r10 .nil) ⟨D,ys,z,rfl,rfl,hD10,hlen,rfl⟩) fun _ s11 ⟨_,H11,I11,_,e11⟩=>?_
        subst e11
        exact again I11 ⟨m',hm,w10⟩
  exact codeAny_compStart_list (loop _ rfl) (T.self X.A 0 _ _ _ st4 (loop _ rfl))
end
end L2
namespace L2
open PySem PySem.Spec PyProof.Rows
section
variable {X:Cx} {elt iter:Expr} {x:Str} {px:Pos} {ifs:List Expr} {scope:Scope} {cl:List (Str×Addr)} {pos:Pos} {caps:List Str} {idx:List Nat} {wi:TI} {tt:TT} {te:TE}
theorem QdZ (S:GO X x scope cl caps idx) (hc:X.calm=true) (hi:PI X (.Name x px) iter wi)
  (ht:∀ C s₀ H₀ ex,PTs (XT X scope cl C (x::caps) s₀ H₀ ex) ifs tt) (he:∀ C s₀ H₀ ex,PE (XT X scope cl C (x::caps) s₀ H₀ ex) elt te)
  (hs:∀ x,foldedSetIterable iter X.env x=pure x:=by intro _;rfl):PE X (.ListComp elt [⟨.Name x px,iter,ifs,0⟩] scope pos) (kS X.K wi tt te idx):=by
 intro pins s σ H Q I h
 rw [eval_ListComp]
 refine G0 (use:=none) S hc hi ht he I h rfl (fun D C H' s' m I' q hn hC h1 h2 h3 h4=>?_) hs
 show ∃ m,s'.heap.Ns C m/\∀ h',Heap.SameBut C s'.heap h'->EP X pins σ Q (.ref D) { s' with heap:=h' }
 exact ⟨m,hn,fun h' hs=>⟨.ref D,H',I'.turned (t':=s'.toks) (fun b o hb e=>hs.extBut b o hb e) hC (Ne.symm (Ne.symm h1)) (.inr h2) h3 h4,rfl,q⟩⟩
theorem Qed {i:Nat} {y:Str} {py spos:Pos} (S:GO X x scope cl caps idx) (hc:X.calm=true) (hi:PI X (.Name x px) iter wi)
  (ht:∀ C s₀ H₀ ex,PTs (XT X scope cl C (x::caps) s₀ H₀ ex) ifs tt) (he:∀ C s₀ H₀ ex,PE (XT X scope cl C (x::caps) s₀ H₀ ex) elt te)
  (hN:X.N.Nodup) (hy:X.N[i]?=some y) (hx:Loc X.env.scope y) (hsw:swapsWith (.ListComp elt [⟨.Name x px,iter,ifs,0⟩] scope pos) (some (.Name y py)) spos.line X.env=pure true)
  (hf:X.fn y=true∨X.env.scope.names.lookup y=some .local:=by first | exact .inl rfl | exact .inr rfl | assumption)
  (hs:∀ x,foldedSetIterable iter X.env x=pure x:=by intro _;rfl):PS X (.Assign [.Name y py] (.ListComp elt [⟨.Name x px,iter,ifs,0⟩] scope pos) spos) (QeB (kS X.K wi tt te idx) (gW i)):=by
 intro pins s σ H D I h
 rw [exec_Assign_Name_used _ _ _ _ hsw]
 refine wpAny_bind (wpAny_standAt (wpAny_bind ?_))
 show wpAny _ X.A (do let _ <- comprehension (.ListComp elt [⟨.Name x px,iter,ifs,0⟩] scope pos) scope X.env _ (newList []) false (eval iter X.env) (some (assign (.Name y py) X.env))) _ _ s
 refine wpAny_bind (wpAny_mono (G0 (use:=some (assign (.Name y py) X.env)) (QQ:=fun _ s'=>SP X pins D .next s') S hc hi ht he I h rfl (fun Da C H' s' m I' q hn hC h1 h2 h3 h4=>?_) hs) (fun _ s' hq=>wpAny_pure (wpAny_pure hq)) fun _ _ e=>e)
 show wpAny _ X.A (assign (.Name y py) X.env (.ref Da)) (fun _ s''=>∃ m,s''.heap.Ns C m/\∀ h',Heap.SameBut C s''.heap h'->SP X pins D .next { s'' with heap:=h' }) _ s'
 refine wpAny_assign_Name (Kz I' hN hy hx (v:=.ref Da) rfl (fun s'' I'' ⟨a,hs,ha⟩=>?_) hf)
 refine ⟨m,hn.sameBut hs ?_,fun h' hs'=>⟨_,H',I''.turned (t':=s''.toks) (fun b o hb e=>hs'.extBut b o hb e) hC h1 (.inr h2) h3 h4,q⟩⟩
 rcases ha with rfl | ha
 ·exact h1
 ·exact Ne.symm (h3 _ _ ha)
end
end L2
namespace D
open PySem PySem.Spec PyProof.Rows L2
section
variable {K:PySem.W.Frag} {Z:Ent} {env:En} {σ:St} {ρ ρ':List Addr} {B B':Addr->Prop} {hp hp':Hs} {H H':Hp}
theorem SOk.set {i:Nat} {d:DV} {v:V} (S:SOk K Z env σ ρ B hp H) (r:RepV K ρ B H d v):SOk K Z (env.set i (.val d)) (σ.set i (some v)) ρ B hp H where
 gr:=S.gr
 zb:=S.zb
 wo:=S.wo
 slot:=fun j e h=>by
  by_cases hj:j=i
  ·subst hj
   have hl:j < env.length:=by have:=(List.getElem?_eq_some_iff.mp h).1;simpa using this
   rw [List.getElem?_set_self hl] at h;cases h
   exact ⟨v,List.getElem?_set_self (by rw [S.len];exact hl),r⟩
  ·rw [List.getElem?_set_ne (Ne.symm hj)] at h ⊢
   exact S.slot j e h
 accs:=fun j ds h=>by
  by_cases hj:j=i
  ·subst hj
   have hl:j < env.length:=by have:=(List.getElem?_eq_some_iff.mp h).1;simpa using this
   rw [List.getElem?_set_self hl] at h;cases h
  ·rw [List.getElem?_set_ne (Ne.symm hj)] at h ⊢
   exact S.accs j ds h
 adis:=fun j k ds es a h1 h2 h3 h4=>by
  have nj:∀ {j:Nat} {ds:List DV},(env.set i (.val d))[j]?=some (.acc ds)->j≠i:=fun {j ds} h e=>by
   subst e
   have hl:j < env.length:=by have:=(List.getElem?_eq_some_iff.mp h).1;simpa using this
   rw [List.getElem?_set_self hl] at h;cases h
  have hj:=nj h1
  have hk:=nj h2
  rw [List.getElem?_set_ne (Ne.symm hj)] at h1 h3
  rw [List.getElem?_set_ne (Ne.symm hk)] at h2 h4
  exact S.adis j k ds es a h1 h2 h3 h4
 len:=by simp [S.len]
end
section
variable {X:Cx} {e a b c:Expr} {f fa fb:DEx} {ca cb:DTx} {pos:Pos} {st:Stmt} {sts rest:List Stmt} {s s':DSx}
theorem FolS.after {K:PySem.W.Frag} {Z:Ent} {ρ ρ1:List Addr} {B B1:Addr->Prop} {H H1:Hp} {fl:Fl} {env':En} {hp':Hs} {D:KF} (g:Gs K ρ B H ρ1 B1 H1) (k:FolS K Z ρ B H fl env' hp' D):FolS K Z ρ1 B1 H1 fl env' hp' D :=
 fun σ' ρ' B' H' g' S=>k σ' ρ' B' H' (g.trans g') S
def Zf:DSx:=fun env=>pure (.nx,env)
def Qr (f g:DSx):DSx:=fun env=>do
 let r <- f env
 match r.1 with
 | .nx=>g r.2
 | _=>pure r
def sIf (c:DTx) (f g:DSx):DSx:=fun env=>do if <- c env then f env else g env
def QN (f:DEx):DSx:=fun env=>do let d <- f env;pure (.rt d,env)
def YF:DSx:=fun env=>pure (.rt .non,env)
def Zu (f:DEx):DSx:=fun env=>do let _ <- f env;pure (.nx,env)
def QM (i:Nat) (f:DEx):DSx:=fun env=>do let d <- f env;pure (.nx,env.set i (.val d))
theorem QG:DSs X [] Zf:=pss_nil.imp fun D σ H ⟨Z,env,ρ,B,hp,fl,env',hp',S,e,k⟩=>by
 obtain ⟨e1,rfl⟩:=Qi e
 cases e1
 exact k σ ρ B H Gs.refl S
theorem QcH {K:PySem.W.Frag} {D:KF} {σ:St} {H:Hp} (h:tDS K (Qr s s') D σ H):QhK (tDS K s) (tDS K s') D σ H:=by
 obtain ⟨Z,env,ρ,B,hp,fl,env',hp',S,e,k⟩:=h
 obtain ⟨⟨f1,env1⟩,hp1,e1,e2⟩:=Qf e
 refine ⟨Z,env,ρ,B,hp,f1,env1,hp1,S,e1,fun σ' ρ' B' H' g S'=>?_⟩
 cases f1 with
 | nx=>exact ⟨Z,env1,ρ',B',hp1,fl,env',hp',S',e2,k.after g⟩
 | rt d=>obtain ⟨z,rfl⟩:=Qi e2;cases z;exact k σ' ρ' B' H' g S'
 | bk=>obtain ⟨z,rfl⟩:=Qi e2;cases z;exact k σ' ρ' B' H' g S'
 | ct=>obtain ⟨z,rfl⟩:=Qi e2;cases z;exact k σ' ρ' B' H' g S'
theorem Qh (h1:DS X st s) (h2:DSs X rest s'):DSs X (st::rest) (Qr s s'):=(Qcz h1 h2).imp fun _ _ _ h=>QcH h
theorem Qp (h1:DS X st s):DSs X [st] s:=Qef h1
theorem Zo {x y:List Stmt} (hc:DT X c ca) (h1:DSs X x s) (h2:DSs X y s'):DS X (.If c x y pos) (sIf ca s s') :=
 (Qhr hc h1 h2).imp fun D σ H ⟨Z,env,ρ,B,hp,fl,env',hp',S,e,k⟩=>by
  obtain ⟨x,hp1,e1,e2⟩:=Qf e
  refine tDT.run S e1 fun ρ1 B1 H1 g1 S1=>?_
  cases x with
  | true=>exact vo ⟨Z,env,ρ1,B1,hp1,fl,env',hp',S1,e2,k.after (g1.gs S.wo.rb)⟩
  | false=>exact vn ⟨Z,env,ρ1,B1,hp1,fl,env',hp',S1,e2,k.after (g1.gs S.wo.rb)⟩
theorem Qu (h:DE X e f):DS X (.Return (some e) pos) (QN f) :=
 (Qgf h).imp fun D σ H ⟨Z,env,ρ,B,hp,fl,env',hp',S,e,k⟩=>by
  obtain ⟨d,hp1,e1,e2⟩:=Qf e
  obtain ⟨z,rfl⟩:=Qi e2;cases z
  exact tD.run S e1 fun v ρ1 B1 H1 g1 S1 r1=>k σ ρ1 B1 H1 (g1.gs S.wo.rb) S1 v r1
theorem Qdt:DS X (.Return none pos) YF :=
 ps_retN.imp fun D σ H ⟨Z,env,ρ,B,hp,fl,env',hp',S,e,k⟩=>by
  obtain ⟨z,rfl⟩:=Qi e;cases z
  exact k σ ρ B H Gs.refl S .non qL
theorem ZK (h:DE X e f) (hs:swapsWith e none pos.line X.env=pure false:=by rfl):DS X (.Expr e pos) (Zu f) :=
 (Qee h hs).imp fun D σ H ⟨Z,env,ρ,B,hp,fl,env',hp',S,e,k⟩=>by
  obtain ⟨d,hp1,e1,e2⟩:=Qf e
  obtain ⟨z,rfl⟩:=Qi e2;cases z
  exact tD.run S e1 fun v ρ1 B1 H1 g1 S1 r1=>k σ ρ1 B1 H1 (g1.gs S.wo.rb) S1
theorem vK {K:PySem.W.Frag} {D:KF} {σ:St} {H:Hp} {i:Nat} {t:TE} (ht:∀ σ H Q,tD K f σ H Q->t σ H Q) (h:tDS K (QM i f) D σ H):QeB t (gW i) D σ H:=by
 obtain ⟨Z,env,ρ,B,hp,fl,env',hp',S,e,k⟩:=h
 obtain ⟨d,hp1,e1,e2⟩:=Qf e
 obtain ⟨z,rfl⟩:=Qi e2;cases z
 exact ht _ _ _ (tD.run S e1 fun v ρ1 B1 H1 g1 S1 r1=>k _ ρ1 B1 H1 (g1.gs S.wo.rb) (S1.set r1))
theorem QK (i:Nat) {x:Str} {pos':Pos} (hN:X.N.Nodup) (he:DE X e f) (hi:X.N[i]?=some x:=by rfl) (hx:Loc X.env.scope x:=by first | exact Or.inl rfl | exact Or.inr rfl) (hs:swapsWith e (some (.Name x pos')) pos.line X.env=pure false:=by rfl)
  (hf:X.fn x=true∨X.env.scope.names.lookup x=some .local:=by first | exact .inl rfl | exact .inr rfl | assumption):DS X (.Assign [.Name x pos'] e pos) (QM i f) :=
 (Qgg hN hi hx he hs hf).imp fun _ _ _ h=>vK (fun _ _ _ q=>q) h
abbrev DGx:=DV->En->M En
def tDG (K:PySem.W.Frag) (g:DGx):TG:=fun v σ H Q=>∃ Z env ρ B hp d env' hp',SOk K Z env σ ρ B hp H/\RepV K ρ B H d v/\g d env hp=some (env',hp')/\∀ σ' ρ' B' H',Gs K ρ B H ρ' B' H'->SOk K Z env' σ' ρ' B' hp' H'->Q σ' H'
def gN (i:Nat):DGx:=fun d env=>pure (env.set i (.val d))
theorem Vb (i:Nat) {x:Str} (hN:X.N.Nodup) (hi:X.N[i]?=some x:=by rfl) (hx:Loc X.env.scope x:=by first | exact Or.inl rfl | exact Or.inr rfl) (hf:X.fn x=true∨X.env.scope.names.lookup x=some .local:=by first | exact .inl rfl | exact .inr rfl | assumption):PG X (.Name x pos) (tDG X.K (gN i)):=by
 intro pins s σ H v u Q I r h
 refine Gv hN hi hx hf pins s σ H v u Q I r ?_
 obtain ⟨Z,env,ρ,B,hp,d,env',hp',S,rd,e,k⟩:=h
 obtain ⟨rfl,rfl⟩:=Qi e
 exact k _ ρ B H Gs.refl (S.set rd)
def Qac (K:PySem.W.Frag) (ρ:List Addr) (B:Addr->Prop) (H:Hp) (ds:List DV) (J:It):Prop :=
 ∀ ρ1 B1 H1,Gs K ρ B H ρ1 B1 H1->(∀ b∈ρ1,B1 b)->(∀ a,B1 a->H1 a≠none)->(∀ (i:Nat) (d:DV),ds[i]?=some d->J.go i H1/\∀ x H',J.yld i H1 x H'->RepV K ρ1 B1 H' d x/\(H'=H1∨∃ p o,H1 p=none/\H'=upd H1 p o))/\J.stop ds.length H1
abbrev DIx:=En->M (List DV)
def tDI (K:PySem.W.Frag) (f:DIx):TI:=fun σ H R=>∃ Z env ρ B hp ds hp',SOk K Z env σ ρ B hp H/\f env hp=some (ds,hp')/\∀ J ρ' B' H',Gr K ρ B H ρ' B' H'->WOk K ρ' B' hp' H'->Qac K ρ' B' H' ds J->R J H'
def DI (X:Cx) (tg iter:Expr) (f:DIx):Prop:=PI X tg iter (tDI X.K f)
def vY:DV->M (List DV)
 | .tup ds=>pure ds
 | _=>failure
def iTp (f:DEx):DIx:=fun env=>do vY (<- f env)
theorem zU {d:DV} {ds:List DV} {hp hp':Hs} (h:vY d hp=some (ds,hp')):d=.tup ds/\hp=hp':=by
 cases d with
 | tup xs=>obtain ⟨rfl,rfl⟩:=Qi h;exact ⟨rfl,rfl⟩
 | _=>cases h
theorem QdF {K:PySem.W.Frag} {ρ:List Addr} {B:Addr->Prop} {H:Hp} {ds:List DV} {a:Addr} {xs:List V} (nb:¬ B a) (sq:SqL K H a xs) (rl:RepL K ρ B H ds xs):Qac K ρ B H ds (Itl K a):=fun ρ1 B1 H1 g _ _=>by
 have sq1:=g.sqL nb sq
 have rl1:=RepL.gs g _ _ rl
 refine ⟨fun i d e=>?_,xs,sq1,by rw [rl1.length];exact Nat.le_refl _⟩
 obtain ⟨x,hx,r⟩:=rl1.get e
 refine ⟨⟨xs,x,sq1,hx⟩,fun y H' ⟨e',q⟩=>?_⟩
 subst e'
 have:=q xs sq1
 rw [hx] at this;cases this
 exact ⟨r,.inl rfl⟩
theorem Qfv {K:PySem.W.Frag} {ρ:List Addr} {B:Addr->Prop} {H:Hp} {ds:List DV} {a:Addr} {xs:List V} (nb:¬ B a) (sq:SqT K H a xs) (rl:RepL K ρ B H ds xs):Qac K ρ B H ds (Itt K a):=fun ρ1 B1 H1 g _ _=>by
 have sq1:=g.sqT nb sq
 have rl1:=RepL.gs g _ _ rl
 refine ⟨fun i d e=>?_,xs,sq1,by rw [rl1.length];exact Nat.le_refl _⟩
 obtain ⟨x,hx,r⟩:=rl1.get e
 refine ⟨⟨xs,x,sq1,hx⟩,fun y H' ⟨e',q⟩=>?_⟩
 subst e'
 have:=q xs sq1
 rw [hx] at this;cases this
 exact ⟨r,.inl rfl⟩
def ZR (lo:Int) (n:Nat):List DV:=(List.range n).map fun (i:Nat)=>.int (lo+(i:Int))
theorem QbT {K:PySem.W.Frag} {ρ:List Addr} {B:Addr->Prop} {H:Hp} {lo:Int} {n:Nat}:Qac K ρ B H (ZR lo n) (Itr lo n):=fun ρ1 B1 H1 g _ _=>by
 refine ⟨fun i d e=>?_,by show n<=_;simp [ZR]⟩
 have hi:i < n:=by have:=(List.getElem?_eq_some_iff.mp e).1;simpa [ZR] using this
 refine ⟨hi,fun y H' ⟨e',q⟩=>?_⟩
 subst e' q
 have:d=.int (lo+i):=by simp [ZR,hi] at e;exact e.symm
 subst this
 exact ⟨JC,.inl rfl⟩
variable {tg iter:Expr}
theorem _root_.L2.PI.imp {wi wi':TI} (h:PI X tg iter wi) (i:∀ σ H R,wi' σ H R->wi σ H R):PI X tg iter wi':=fun pins s σ H R I q=>h pins s σ H R I (i σ H R q)
theorem Qbt (h:DE X iter f):DI X tg iter (iTp f):=(Qga h).imp fun σ H R ⟨Z,env,ρ,B,hp,ds,hp',S,e,k⟩=>by
 obtain ⟨d,hp1,e1,e2⟩:=Qf e
 obtain ⟨rfl,rfl⟩:=zU e2
 refine tD.run S e1 fun v ρ1 B1 H1 g1 S1 r1=>?_
 obtain ⟨a,xs,rfl,nb,sq,rl⟩:=r1.tupI
 exact ⟨a,rfl,⟨xs,sq⟩,k _ ρ1 B1 H1 g1 S1.wo (Qfv nb sq rl)⟩
def Ub (j:Int):Bool:=decide (-(2 ^ 62)<=j/\j < 2 ^ 62)
def QaZ:List DV->M (List DV)
 | [.int j]=>do Qv (Ub j);pure (ZR 0 j.toNat)
 | _=>failure
def uE (f:DAx):DIx:=fun env=>do QaZ (<- f env)
theorem Qa0 {ds out:List DV} {hp hp':Hs} (h:QaZ ds hp=some (out,hp')):∃ j:Int,ds=[.int j]/\Ub j=true/\out=ZR 0 j.toNat/\hp=hp':=by
 unfold QaZ at h
 split at h
 ·obtain ⟨u,hp1,e1,e2⟩:=Qf h
  obtain ⟨h1,rfl⟩:=QC e1
  obtain ⟨rfl,rfl⟩:=Qi e2
  exact ⟨_,rfl,h1,rfl,rfl⟩
 ·cases h
theorem RepL.ints1 {K:PySem.W.Frag} {ρ:List Addr} {B:Addr->Prop} {H:Hp} {j:Int} {vs:List V} (h:RepL K ρ B H [.int j] vs):vs=[.int j]:=by
 unfold RepL at h
 obtain ⟨x,r,rfl,h1,h2⟩:=h
 unfold RepL at h2
 rw [h1.intI,h2]
theorem RepL.ints2 {K:PySem.W.Frag} {ρ:List Addr} {B:Addr->Prop} {H:Hp} {i j:Int} {vs:List V} (h:RepL K ρ B H [.int i,.int j] vs):vs=[.int i,.int j]:=by
 unfold RepL at h
 obtain ⟨x,r,rfl,h1,h2⟩:=h
 rw [h1.intI,h2.ints1]
theorem xV {x:Expr} {p:Pos} {f:DAx} (hg:Gl X "range") (hm:X.mg "range" = none) (ha:DA X [x] f) (hs:starEach [x] X.env=[(false,eval x X.env)]:=by rfl):DI X tg (.Call (.Name "range" p) [x] [] pos) (uE f) :=
 (QaW hg hm ha hs).imp fun σ H R ⟨Z,env,ρ,B,hp,ds,hp',S,e,k⟩=>by
  obtain ⟨d,hp1,e1,e2⟩:=Qf e
  obtain ⟨j,rfl,h1,rfl,rfl⟩:=Qa0 e2
  refine tDA.run S e1 fun vs ρ1 B1 H1 g1 S1 r1=>?_
  have h1':=of_decide_eq_true h1
  exact ⟨j,r1.ints1,h1'.1,h1'.2,k _ ρ1 B1 H1 g1 S1.wo QbT⟩
def QbI (b:DV->DSx):List DV->DSx
  | [],env=>pure (.nx,env)
  | d::ds,env=>do
    let r <- b d env
    match r.1 with
    | .nx=>QbI b ds r.2
    | .ct=>QbI b ds r.2
    | .bk=>pure (.nx,r.2)
    | .rt x=>pure (.rt x,r.2)
theorem gw {K:PySem.W.Frag} {ρ:List Addr} {B:Addr->Prop} {H:Hp} {p:Addr} {o:HO} (rb:∀ a∈ρ,B a) (h:H p=none):Gs K ρ B H ρ B (upd H p o):=(Gr.laid h).gs rb
def XW (c:DTx) (b:DSx):Nat->DSx
  | 0,_=>failure
  | n+1,env=>do
    if <- c env then
      let r <- b env
      match r.1 with
      | .nx=>XW c b n r.2
      | .ct=>XW c b n r.2
      | .bk=>pure (.nx,r.2)
      | .rt x=>pure (.rt x,r.2)
    else pure (.nx,env)
theorem Qbx (n:Nat) {body:List Stmt} {sb:DSx} (hp:PassesOwn (model X.prog X.w) X.A X.env X.xe) (hc:DT X c ca) (hb:DSs X body sb):DS X (.While c body [] pos) (XW ca sb n) :=
  (Qcy hp hc hb).imp fun D σ H ⟨Z,env,ρ,B,hp,fl,env',hp',S,e,k⟩=>by
    refine ⟨fun m σ H1=>∃ env1 ρ1 B1 hp1,SOk X.K Z env1 σ ρ1 B1 hp1 H1/\Gs X.K ρ B H ρ1 B1 H1/\XW ca sb m env1 hp1=some ((fl,env'),hp'),⟨n,env,ρ,B,hp,S,Gs.refl,e⟩,?_⟩
    rintro m σ H1 ⟨env1,ρ1,B1,hp1,S1,g1,e1⟩
    cases m with
    | zero=>cases e1
    | succ m =>
      obtain ⟨x,hp2,e2,e3⟩:=Qf e1
      refine tDT.run S1 e2 fun ρ2 B2 H2 g2 S2=>?_
      have G2:=g1.trans (g2.gs S1.wo.rb)
      cases x with
      | false =>
        obtain ⟨z,rfl⟩:=Qi e3;cases z
        exact vn (k σ ρ2 B2 H2 G2 S2)
      | true =>
        obtain ⟨⟨f1,env4⟩,hp4,e4,e5⟩:=Qf e3
        refine vo ⟨fun σ' H'=>∃ env1 ρ1 B1 hp1,SOk X.K Z env1 σ' ρ1 B1 hp1 H'/\Gs X.K ρ B H ρ1 B1 H'/\XW ca sb m env1 hp1=some ((fl,env'),hp'),fun σ' H' q=>⟨m,Nat.lt_succ_self m,q⟩,?_⟩
        refine ⟨Z,env1,ρ2,B2,hp2,f1,env4,hp4,S2,e4,fun σ6 ρ6 B6 H6 g6 S6=>?_⟩
        have G6:=G2.trans g6
        cases f1 with
        | nx=>exact ⟨env4,ρ6,B6,hp4,S6,G6,e5⟩
        | ct=>exact ⟨env4,ρ6,B6,hp4,S6,G6,e5⟩
        | bk=>obtain ⟨z,rfl⟩:=Qi e5;cases z;exact k σ6 ρ6 B6 H6 G6 S6
        | rt d=>obtain ⟨z,rfl⟩:=Qi e5;cases z;exact k σ6 ρ6 B6 H6 G6 S6
end
end D
namespace D
open PySem PySem.Spec PyProof.Rows L2
section
variable {K:PySem.W.Frag} {Z:Ent} {env:En} {σ:St} {ρ ρ':List Addr} {B B':Addr->Prop} {hp hp':Hs} {H H':Hp}
def yQ (B:Addr->Prop) (p:Addr):Addr->Prop:=fun a=>B a∨a=p
theorem Gr.banned {p:Addr} {o:HO} (h:H p=none) (kf:K.lookup p=none):Gr K ρ B H ρ (yQ B p) (upd H p o) where
 pre:=List.prefix_rfl
 ban:=fun _ h=>.inl h
 new:=fun a z=>z.elim .inl fun e=>.inr (e▸⟨h,kf⟩)
 rnew:=fun _ h=>.inl h
 keep:=fun a u _ q=>by rw [Q4 (ZD q h)];exact q
 trk:=(Gr.laid (K:=K) (ρ:=ρ) (B:=B) h).trk
theorem WOk.banned {p:Addr} {o:HO} (W:WOk K ρ B hp H) (h:H p=none) (kf:K.lookup p=none):WOk K ρ (yQ B p) hp (upd H p o) where
 len:=W.len
 nd:=W.nd
 obj:=fun i a u e q=>ORep.gs ((Gr.banned h kf).gs W.rb) (Q4 (fun z=>W.bt a (W.rb a (List.mem_of_getElem? e)) (z▸h))) (W.obj i a u e q)
 rb:=fun a h=>.inl (W.rb a h)
 bt:=fun a z q=>by
  have q':=(Gr.laid (K:=K) (ρ:=ρ) (B:=B) h).trk a q
  rcases z with z | rfl
  ·exact W.bt a z q'
  ·rw [Zm] at q;cases q
 bk:=fun a z=>z.elim (W.bk a) fun e=>e▸kf
end
section
variable {X:Cx} {e a b c:Expr} {f fa fb:DEx} {ca cb:DTx} {pos:Pos} {st:Stmt} {sts rest:List Stmt} {s s':DSx}
def VR (i:Nat):DSx:=fun env=>pure (.nx,env.set i (.acc []))
def yS (i:Nat) (env:En):En:=match env[i]? with
 | some (.acc ds)=>env.set i (.val (.lst ds))
 | _=>env
def VT (i:Nat) (f:DSx):DSx:=fun env=>f (yS i env)
def VS (i:Nat) (f:DEx):DSx:=fun env=>do
 let d <- f env
 match env[i]? with
 | some (.acc ds)=>if ds.length < lim then pure (.nx,env.set i (.acc (ds++[d]))) else failure
 | _=>failure
def Qbk:Sl->Sl
 | .val d=>.val d
 | _=>.un
def cE (idx:List Nat) (env:En) (d:DV):En:=.val d::idx.map fun i=>Qbk ((env[i]?).getD .un)
def y0:DTx:=fun _=>pure true
variable {elt iter:Expr} {x:Str} {px:Pos} {ifs:List Expr} {scope:Scope} {cl:List (Str×Addr)} {caps:List Str} {idx:List Nat} {src:DIx} {te:DTx}
theorem cσ_ok {K:PySem.W.Frag} {Z:Ent} {env:En} {σ:St} {ρ ρ1:List Addr} {B B1:Addr->Prop} {hp hp1:Hs} {H H1:Hp} {d:DV} {v:V} (S:SOk K Z env σ ρ B hp H) (g:Gs K ρ B H ρ1 B1 H1) (W:WOk K ρ1 B1 hp1 H1) (r:RepV K ρ1 B1 H1 d v) :
    SOk K ⟨ρ1,B1,H1⟩ (cE idx env d) (cσ idx σ (some v)) ρ1 B1 hp1 H1:=by
  refine ⟨Gr.refl,W.bt,W,fun i e h=>?_,fun i es h=>?_,fun i j es es' a h=>?_,by simp [cE,cσ]⟩
  . cases i with
    | zero =>
      have:d=e:=by simpa [cE] using h
      subst this
      exact ⟨v,by simp [cσ],r⟩
    | succ i =>
      cases q:idx[i]? with
      | none=>simp [cE,q] at h
      | some k =>
        have h':Qbk ((env[k]?).getD .un)=.val e:=by simpa [cE,q] using h
        cases z:env[k]? with
        | none=>rw [z] at h';cases h'
        | some sl =>
          rw [z] at h'
          cases sl with
          | un=>cases h'
          | acc _=>cases h'
          | val e' =>
            have:e'=e:=by simpa [Qbk] using h'
            subst this
            obtain ⟨u,h1,h2⟩:=S.slot k e' z
            exact ⟨u,by simp [cσ,q,h1],RepV.gs g _ _ h2⟩
  . exfalso
    cases i with
    | zero=>simp [cE] at h
    | succ i =>
      cases q:idx[i]? with
      | none=>simp [cE,q] at h
      | some k =>
        have h':Qbk ((env[k]?).getD .un)=.acc es:=by simpa [cE,q] using h
        cases z:(env[k]?).getD .un with
        | un=>rw [z] at h';cases h'
        | acc _=>rw [z] at h';cases h'
        | val _=>rw [z] at h';cases h'
  . exfalso
    cases i with
    | zero=>simp [cE] at h
    | succ i =>
      cases q:idx[i]? with
      | none=>simp [cE,q] at h
      | some k =>
        have h':Qbk ((env[k]?).getD .un)=.acc es:=by simpa [cE,q] using h
        cases z:(env[k]?).getD .un with
        | un=>rw [z] at h';cases h'
        | acc _=>rw [z] at h';cases h'
        | val _=>rw [z] at h';cases h'
def DTs (X:Cx) (ifs:List Expr) (t:DTx):Prop:=PTs X ifs (tDT X.K t)
theorem jP:DTs X [] y0:=fun pins s σ H Q I ⟨Z,env,ρ,B,hp,d,hp',S,e,k⟩=>by
 obtain ⟨rfl,rfl⟩:=Qi e
 exact Qeh pins s σ H Q I (k ρ B H Gr.refl S.wo)
theorem K6 {c:Expr} (h:DT X c te):DTs X [c] te:=Qei h
def Q5 (n:Nat) (body:DSx):List DV->M DV:=fun ds=>do
 let r <- body (ds.map .val++List.replicate (n - ds.length) .un)
 match r.1 with
 | .nx=>pure .non
 | .rt d=>pure d
 | _=>failure
def spD (K:PySem.W.Frag) (n:Nat) (F:List DV->M DV):Sp:=fun vs H Q _=>vs.length=n/\∃ ρ B hp ds d hp',WOk K ρ B hp H/\RepL K ρ B H ds vs/\F ds hp=some (d,hp')/\Fol K ρ B H d hp' Q
structure Has (P:Program) (w:World) (K:PySem.W.Frag) (mg:Str->Option Value) (base:Heap) (x:Str) (k n:Nat) (F:List DV->M DV):Prop where
 ex:∃ (g:Addr) (fd:FuncData) (ps:List Str),q8 P w K mg base CX0 k g fd ps (spD K n F)/\Binds K fd ps []/\PySem.W.keepIn K (.ref g)=true/\mg x=some (.ref g)
theorem yi {K:PySem.W.Frag} {ρ:List Addr} {B:Addr->Prop} {hp:Hs} {H:Hp} {ds:List DV} {vs:List V} {N:List Str} (W:WOk K ρ B hp H) (r:RepL K ρ B H ds vs) :
  SOk K ⟨ρ,B,H⟩ (ds.map .val++List.replicate (N.length - ds.length) .un) (L2.start N vs) ρ B hp H:=by
 have hl:=r.length
 have at_:∀ {i:Nat} {z:Sl},(ds.map Sl.val++List.replicate (N.length - ds.length) Sl.un)[i]?=some z->z=.un∨∃ d,ds[i]?=some d/\z=.val d:=fun {i z} h=>by
  by_cases hi:i < ds.length
  ·rw [List.getElem?_append_left (by simpa using hi),List.getElem?_map,List.getElem?_eq_getElem hi] at h
   cases h
   exact .inr ⟨_,List.getElem?_eq_getElem hi,rfl⟩
  ·rw [List.getElem?_append_right (by simpa using hi),List.getElem?_replicate] at h
   split at h
   ·cases h;exact .inl rfl
   ·cases h
 refine ⟨Gr.refl,W.bt,W,fun i d h=>?_,fun i es h=>?_,fun i j es es' a h=>?_,by unfold L2.start;simp;omega⟩
 ·rcases at_ h with z | ⟨d',q,z⟩
  ·cases z
  ·cases z
   obtain ⟨v,h1,h2⟩:=r.get q
   refine ⟨v,?_,h2⟩
   unfold L2.start
   have hi:i < vs.length:=(List.getElem?_eq_some_iff.mp h1).1
   rw [List.getElem?_append_left (by simpa using hi),List.getElem?_map,h1]
   rfl
 ·rcases at_ h with z | ⟨d',q,z⟩<;>cases z
 ·rcases at_ h with z | ⟨d',q,z⟩<;>cases z
theorem Qfs {P:Program} {w:World} {K:PySem.W.Frag} {mg:Str->Option Value} {base:Heap} {x:Str} {stm:Stmt} {g:Addr} {fd:FuncData} {N ps:List Str} {k:Nat} {body:DSx} (F:Fun K x x stm g fd) (Sc:Qs N ps (Qo stm)) (hm:mg x=some (.ref g))
  (hb:∀ (kV doc pm:Value) (an:Option Addr) (cdv ct:Value) (us:List Value),us.length=ps.length->bindArgs (PySem.W.fnOf x x (Jy stm) (ZF stm) (Qo stm) .none kV doc pm an cdv ct) ⟨us,[]⟩=pure (ps.zip us))
  (h:∀ (cdv:Value) (A:Around) (outer:List Env) (s:Shared) (H:Hp) (E:XK),Room k (A.deeper (envOfC x (Qo stm) s.heap.objs.size g cdv))->DSs (yR CX0 P w K mg base N x (Qo stm) g cdv A outer s H E).nox (ZF stm) body) :
  Has P w K mg base x (k+1) ps.length (Q5 N.length body):=by
 refine ⟨g,fd,ps,F.ok Sc (fun vs H Q E h=>h.1) (fun cdv A outer s H vs Q E hr sp=>?_),F.binds hb,F.kp,hm⟩
 obtain ⟨hn,ρ,B,hp,ds,d,hp',W,r,e,k⟩:=sp
 obtain ⟨⟨fl,env'⟩,hp1,e1,e2⟩:=Qf e
 refine ⟨_,h cdv A outer s H E hr,⟨ρ,B,H⟩,_,ρ,B,hp,fl,env',hp1,yi W r,e1,fun σ' ρ' B' H' g' S'=>?_⟩
 cases fl with
 | nx=>obtain ⟨rfl,rfl⟩:=Qi e2;exact k .non ρ' B' H' S'.gr S'.wo qL
 | rt x=>obtain ⟨rfl,rfl⟩:=Qi e2;exact fun v rv=>k v ρ' B' H' S'.gr S'.wo rv
 | bk=>cases e2
 | ct=>cases e2
def QH (n:Nat) (F:List DV->M DV) (a:DAx):DEx:=fun env=>do
 let ds <- a env
 Qv (decide (ds.length=n))
 F ds
theorem QZ {y:Str} {k j n:Nat} {F:List DV->M DV} {e:Expr} {es:List Expr} {fa:DAx} {p:Pos} (h:Has X.prog X.w X.K X.mg X.base y j n F) (hr:Room k X.A) (hj:j<=k) (hx:YM CX0 X E0) (ha:DA X (e::es) fa) (hg:Gl X y:=by rfl)
  (hdb:(y==("__debug__" : Str))=false:=by decide) (he:starEach (e::es) X.env=(false,eval e X.env)::starEach es X.env:=by rfl) (hpl:(backTo pos (starEach es X.env)).any (·.1)=false:=by rfl):DE X (.Call (.Name y p) (e::es) [] pos) (QH n F fa):=by
 obtain ⟨g,fd,ps,F',hb,hk,hm⟩:=h.ex
 refine L2.PE.imp (QdX F' (hr.mono hj) hg hm hk hb .nil hx ha hdb he hpl) fun σ H Q ⟨Z,env,ρ,B,hp,d,hp',S,e,k⟩=>?_
 obtain ⟨ds,hp1,e1,e2⟩:=Qf e
 obtain ⟨_,hp2,e3,e4⟩:=Qf e2
 obtain ⟨hl,rfl⟩:=QC e3
 refine tDA.run S e1 fun vs ρ1 B1 H1 g1 S1 r1=>?_
 refine ⟨by rw [List.append_nil,<- r1.length];exact of_decide_eq_true hl,ρ1,B1,hp1,ds,d,hp',S1.wo,by rw [List.append_nil];exact r1,e4,k.after g1⟩
end
end D
namespace D
open PySem PySem.Spec PyProof.Rows L2
section
variable {X:Cx} {e a b c:Expr} {f fa fb fc:DEx} {ca cb:DTx} {pos:Pos}
def qD (C:Int->Int->Bool) (g:Int->Int->DV):DV->DV->M DV
 | .int i,.int j=>if C i j then pure (g i j) else failure
 | _,_=>failure
theorem x3 {C:Int->Int->Bool} {g:Int->Int->DV} {x y d:DV} {hp hp':Hs} (h:qD C g x y hp=some (d,hp')):∃ i j,x=.int i/\y=.int j/\C i j=true/\d=g i j/\hp=hp':=by
 unfold qD at h
 split at h
 ·rename_i i j
  by_cases hc:C i j=true
  ·rw [if_pos hc] at h
   obtain ⟨rfl,rfl⟩:=Qi h
   exact ⟨i,j,rfl,rfl,hc,rfl,rfl⟩
  ·rw [if_neg hc] at h;cases h
 ·cases h
theorem VJ {g:Value->Value->Sem Value} {C:Int->Int->Bool} {P:Int->Int->Prop} {q:Int->Int->Int} (ho:OpR X g (rI P fun i j=>.int (q i j))) (hC:∀ i j,C i j=true->P i j):P2 X g (qD C fun i j=>.int (q i j)):=by
 intro pins s σ H x y v u Q I rx ry h
 refine ho pins s σ H x y v u Q I rx ry ?_
 obtain ⟨ρ,B,hp,dx,dy,d,hp',W,r1,r2,e,k⟩:=h
 obtain ⟨i,j,rfl,rfl,hc,rfl,rfl⟩:=x3 e
 exact ⟨i,j,r1.intI,r2.intI,hC i j hc,k _ ρ B H Gr.refl W JC⟩
theorem QdV {g:Value->Value->Sem Value} {q:Int->Int->Int} (ho:OpR X g (rI0 fun i j=>.int (q i j))):P2 X g (qD (fun _ _=>true) fun i j=>.int (q i j)):=by
 intro pins s σ H x y v u Q I rx ry h
 refine ho pins s σ H x y v u Q I rx ry ?_
 obtain ⟨ρ,B,hp,dx,dy,d,hp',W,r1,r2,e,k⟩:=h
 obtain ⟨i,j,rfl,rfl,hc,rfl,rfl⟩:=x3 e
 exact ⟨i,j,r1.intI,r2.intI,k _ ρ B H Gr.refl W JC⟩
theorem Vd {g:Value->Value->Sem Value} {q:Int->Int->Bool} (ho:OpR X g (rI0 fun i j=>.bl (q i j))):P2 X g (qD (fun _ _=>true) fun i j=>.bl (q i j)):=by
 intro pins s σ H x y v u Q I rx ry h
 refine ho pins s σ H x y v u Q I rx ry ?_
 obtain ⟨ρ,B,hp,dx,dy,d,hp',W,r1,r2,e,k⟩:=h
 obtain ⟨i,j,rfl,rfl,hc,rfl,rfl⟩:=x3 e
 exact ⟨i,j,r1.intI,r2.intI,k _ ρ B H Gr.refl W Jg⟩
def QgP (i j:Int):Bool:=decide ((-(2 ^ 64) < i/\i < 2 ^ 64)∨(-(2 ^ 64) < j/\j < 2 ^ 64))
def QgM (_ j:Int):Bool:=decide (0 < j/\j < 1073741824)
def QgO (_ j:Int):Bool:=decide (0 < j)
def QhX (i j:Int):Bool:=decide (0<=j/\j<=1000000/\i.natAbs < 2 ^ 64)
def xG:DV->DV->M DV:=qD (fun _ _=>true) fun i j=>.int (i - j)
def QaK:DV->DV->M DV:=qD QgP fun i j=>.int (i * j)
def Yq:DV->DV->M DV:=qD QgM fun i j=>.int (i / j)
def Xq:DV->DV->M DV:=qD QgO fun i j=>.int (i % j)
def YT:DV->DV->M DV:=qD QhX fun i j=>.int (i ^ j.toNat)
def ltD:DV->DV->M DV:=qD (fun _ _=>true) fun i j=>.bl (decide (i < j))
def leD:DV->DV->M DV:=qD (fun _ _=>true) fun i j=>.bl (decide (i<=j))
def gtD:DV->DV->M DV:=qD (fun _ _=>true) fun i j=>.bl (decide (j < i))
def geD:DV->DV->M DV:=qD (fun _ _=>true) fun i j=>.bl (decide (j<=i))
theorem yx:P2 X (binaryOp .Sub) xG:=QdV QfR
theorem QeZ:P2 X (binaryOp .Mult) QaK:=VJ QfP fun i j h=>of_decide_eq_true (p:=(-(2 ^ 64) < i/\i < 2 ^ 64)∨(-(2 ^ 64) < j/\j < 2 ^ 64)) h
theorem xk:P2 X (binaryOp .FloorDiv) Yq:=VJ QdR fun i j h=>of_decide_eq_true (p:=0 < j/\j < 1073741824) h
theorem Y8:P2 X (binaryOp .Mod) Xq:=VJ QfO fun _ _ h=>of_decide_eq_true h
theorem yw:P2 X (binaryOp .Pow) YT:=VJ QfQ fun i j h=>of_decide_eq_true (p:=0<=j/\j<=1000000/\i.natAbs < 2 ^ 64) h
theorem VL:P2 X (compareOp .Lt) ltD:=Vd Qhi
theorem QdW:P2 X (compareOp .LtE) leD:=Vd Qhh
theorem QfS:P2 X (compareOp .Gt) gtD:=Vd Qhg
theorem Qhj:P2 X (compareOp .GtE) geD:=Vd Qhf
def Qhd:DV->M DV
 | .int i=>pure (.int (-i))
 | _=>failure
def X6 (f:DEx):DEx:=fun env=>do Qhd (<- f env)
theorem K5 (h:DE X a f):DE X (.UnaryOp .USub a pos) (X6 f):=L2.PE.imp (Qhq Qgy h) fun σ H Q ⟨Z,env,ρ,B,hp,d,hp',S,e,k⟩=>by
 obtain ⟨x,hp1,e1,e2⟩:=Qf e
 refine tD.run S e1 fun v ρ1 B1 H1 g1 S1 r1=>?_
 cases x with
 | int i=>obtain ⟨rfl,rfl⟩:=Qi e2;exact ⟨i,r1.intI,k _ ρ1 B1 H1 g1 S1.wo JC⟩
 | _=>cases e2
theorem Qci:OpR X (binaryOp .Add) (fun x y H Q=>∃ a b ys,x=.ref a/\y=.ref b/\SqT X.K H a []/\SqT X.K H b ys/\ys.length<=sizeLine/\Q (.ref b) H):=by
 intro pins s σ H x y v u Q I rx ry h
 obtain ⟨a,b,ys,rfl,rfl,ha,hb,hz,q⟩:=h
 cases rx
 cases ry
 obtain ⟨its,r1,p1,_⟩:=I.tuple ha
 obtain ⟨its2,r2,p2,_⟩:=I.tuple hb
 obtain ⟨m,F⟩:=I.fr
 have z:its=[]:=by cases r1;rfl
 subst z
 exact add_tuples F (Qce (g:=X.base) (L:=X.env.locals)) p1 p2 (fun _=>⟨.ref b,H,I,rfl,q⟩) (fun n=>absurd rfl n) (fun n=>absurd rfl n) (by have:=r2.length;simp;omega)
def Z5:DV->DV->M DV
 | .int i,.int j=>pure (.int (i+j))
 | .tup xs,.tup ys=>do Qv (qX (xs++ys));pure (.tup (xs++ys))
 | .lst xs,.lst ys=>do Qv (qX (xs++ys));pure (.lst (xs++ys))
 | _,_=>failure
theorem Qen:OpR X (binaryOp .Add) (fun x y H Q=>∃ l b xs zs,x=.ref l/\y=.ref b/\SqL X.K H l xs/\SqL X.K H b zs/\xs.length+zs.length<=sizeLine/\∀ p,H p=none->Q (.ref p) (upd H p (.lst (xs++zs)))):=by
 intro pins s σ H x y v u Q I rx ry h
 obtain ⟨l,b,xs,zs,rfl,rfl,hl,hb,hz,q⟩:=h
 cases rx
 cases ry
 obtain ⟨its,r1,⟨⟨k1,dd1,da1,sl1⟩,n1,e1,c1,d1,s1⟩,_⟩:=I.list hl
 obtain ⟨its2,r2,⟨⟨k2,dd2,da2,sl2⟩,n2,e2,c2,d2,s2⟩,_⟩:=I.list hb
 simp only at c1 d1 s1 c2 d2 s2
 subst c1 d1 s1 c2 d2 s2
 have ea:its.toArray++its2.toArray=(its++its2).toArray:=by simp
 have hz':its.length+its2.length<=sizeLine:=by rw [<- r1.length,<- r2.length];exact hz
 refine concat_meets (T := "list") ⟨_,e1,rfl⟩ ⟨_,e2,rfl⟩ noFill_list_add seq_list_add PySem.F.slot_list_add PySem.F.entry_list_add (PySem.F.args_list_add_2 _ _) (list_addW l b its.toArray its2.toArray n1 n2 none none sl1 sl2 (by simpa using hz')) ⟨e1,e2,?_⟩
 rw [ea]
 exact ⟨.ref _,_,I.lnew (t':=s.toks) (r1.append r2) (by rw [List.length_append];exact hz),rfl,q _ I.fresh⟩
theorem Xb:P2 X (binaryOp .Add) Z5:=by
 intro pins s σ H x y v u Q I rx ry h
 obtain ⟨ρ,B,hp,dx,dy,d,hp',W,r1,r2,e,k⟩:=h
 unfold Z5 at e
 split at e
 ·obtain ⟨rfl,rfl⟩:=Qi e
  exact QfM pins s σ H x y v u Q I rx ry ⟨_,_,r1.intI,r2.intI,k _ ρ B H Gr.refl W JC⟩
 ·rename_i xs ys
  obtain ⟨_,hp1,e1,e2⟩:=Qf e
  obtain ⟨hs,rfl⟩:=QC e1
  obtain ⟨rfl,rfl⟩:=Qi e2
  obtain ⟨a,vs,rfl,n1,q1,l1⟩:=r1.tupI
  obtain ⟨b,ws,rfl,n2,q2,l2⟩:=r2.tupI
  have hz:vs.length+ws.length<=sizeLine:=by
   have:=zF hs
   rw [List.length_append] at this
   rw [<- l1.length,<- l2.length];exact this
  by_cases hv:vs=[]
  ·subst hv
   have:xs=[]:=by have:=l1.length;cases xs with | nil=>rfl | cons _ _=>simp at this
   subst this
   exact Qci pins s σ H _ _ v u Q I rx ry ⟨a,b,ws,rfl,rfl,q1,q2,by simp at hz;exact hz,k _ ρ B H Gr.refl W (qM n2 q2 l2)⟩
  ·refine QdQ pins s σ H _ _ v u Q I rx ry ⟨a,b,vs,ws,rfl,rfl,q1,q2,hv,hz,fun hw=>?_,fun hw=>jS W (RepL.append l1 l2) k⟩
   subst hw
   have:ys=[]:=by have:=l2.length;cases ys with | nil=>rfl | cons _ _=>simp at this
   subst this
   rw [List.append_nil] at k
   exact k _ ρ B H Gr.refl W (qM n1 q1 l1)
 ·rename_i xs ys
  obtain ⟨_,hp1,e1,e2⟩:=Qf e
  obtain ⟨hs,rfl⟩:=QC e1
  obtain ⟨rfl,rfl⟩:=Qi e2
  obtain ⟨a,vs,rfl,n1,q1,l1⟩:=r1.lstI
  obtain ⟨b,ws,rfl,n2,q2,l2⟩:=r2.lstI
  have hz:vs.length+ws.length<=sizeLine:=by
   have:=zF hs
   rw [List.length_append] at this
   rw [<- l1.length,<- l2.length];exact this
  exact Qen pins s σ H _ _ v u Q I rx ry ⟨a,b,vs,ws,rfl,rfl,q1,q2,hz,jR W (RepL.append l1 l2) k⟩
 ·cases e
def isN:DV->Bool
 | .non=>true
 | _=>false
theorem ki {K:PySem.W.Frag} {ρ:List Addr} {B:Addr->Prop} {H:Hp} {d:DV} {v:V} (r:RepV K ρ B H d v):decide (v=.non)=isN d:=by
 cases d with
 | non=>rw [r.nonI];rfl
 | bl b=>rw [r.blI];rfl
 | int b=>rw [r.intI];rfl
 | str b=>rw [r.strI];rfl
 | tup b=>obtain ⟨a,xs,rfl,_⟩:=r.tupI;rfl
 | lst b=>obtain ⟨a,xs,rfl,_⟩:=r.lstI;rfl
 | ref b=>obtain ⟨a,rfl,_⟩:=r.refI;rfl
def isD:DV->DV->M DV
 | x,.non=>pure (.bl (isN x))
 | .bl p,.bl q=>pure (.bl (p==q))
 | _,_=>failure
def vm:DV->DV->M DV
 | x,.non=>pure (.bl (!isN x))
 | .bl p,.bl q=>pure (.bl (p != q))
 | _,_=>failure
theorem vC:P2 X (compareOp .Is) isD:=by
 intro pins s σ H x y v u Q I rx ry h
 obtain ⟨ρ,B,hp,dx,dy,d,hp',W,r1,r2,e,k⟩:=h
 unfold isD at e
 split at e
 ·obtain ⟨rfl,rfl⟩:=Qi e
  refine QfN pins s σ H x y v u Q I rx ry ⟨r2.nonI,?_⟩
  rw [ki r1]
  exact k _ ρ B H Gr.refl W Jg
 ·obtain ⟨rfl,rfl⟩:=Qi e
  obtain rfl:=r1.blI
  obtain rfl:=r2.blI
  cases rx;cases ry
  exact is_bool ⟨.bl _,H,I,rfl,k _ ρ B H Gr.refl W Jg⟩
 ·cases e
theorem Qcj:P2 X (compareOp .IsNot) vm:=by
 intro pins s σ H x y v u Q I rx ry h
 obtain ⟨ρ,B,hp,dx,dy,d,hp',W,r1,r2,e,k⟩:=h
 unfold vm at e
 split at e
 ·obtain ⟨rfl,rfl⟩:=Qi e
  refine QdT pins s σ H x y v u Q I rx ry ⟨r2.nonI,?_⟩
  rw [ki r1]
  exact k _ ρ B H Gr.refl W Jg
 ·obtain ⟨rfl,rfl⟩:=Qi e
  obtain rfl:=r1.blI
  obtain rfl:=r2.blI
  cases rx;cases ry
  exact isnot_bool ⟨.bl _,H,I,rfl,k _ ρ B H Gr.refl W Jg⟩
 ·cases e
theorem KQ {K:PySem.W.Frag} {ρ:List Addr} {B:Addr->Prop} {H:Hp} {ds:List DV} {xs:List V} {i:Int} {d:DV} (r:RepL K ρ B H ds xs) (h:atI ds i=some d):∃ x,atI xs i=some x/\RepV K ρ B H d x:=by
  unfold atI at h ⊢
  rw [<- r.length]
  cases q:ixN ds.length i with
  | none=>rw [q] at h;cases h
  | some j =>
    rw [q] at h
    exact r.get h
def ixD:DV->DV->M DV
  | .tup ds,.int i=>match atI ds i with
    | some d=>pure d
    | none=>failure
  | .lst ds,.int i=>match atI ds i with
    | some d=>pure d
    | none=>failure
  | _,_=>failure
theorem Qhk:IxR X (tP2 X.K ixD):=by
  intro value slice pins s σ H x y v u Q I rx ry h hsub
  obtain ⟨ρ,B,hp,dx,dy,d,hp',W,r1,r2,e,k⟩:=h
  unfold ixD at e
  split at e
  . rename_i ds i
    cases q:atI ds i with
    | none=>rw [q] at e;cases e
    | some d' =>
      rw [q] at e
      obtain ⟨rfl,rfl⟩:=Qi e
      obtain ⟨a,xs,rfl,n1,q1,l1⟩:=r1.tupI
      obtain ⟨z,hz,rz⟩:=KQ l1 q
      exact Qfw value slice pins s σ H _ _ v u Q I rx ry ⟨a,xs,i,z,rfl,r2.intI,q1,hz,k _ ρ B H Gr.refl W rz⟩ hsub
  . rename_i ds i
    cases q:atI ds i with
    | none=>rw [q] at e;cases e
    | some d' =>
      rw [q] at e
      obtain ⟨rfl,rfl⟩:=Qi e
      obtain ⟨a,xs,rfl,n1,q1,l1⟩:=r1.lstI
      obtain ⟨z,hz,rz⟩:=KQ l1 q
      exact kn value slice pins s σ H _ _ v u Q I rx ry ⟨a,xs,i,z,rfl,r2.intI,q1,hz,k _ ρ B H Gr.refl W rz⟩ hsub
  . cases e
theorem JF (ha:DE X a fa) (hb:DE X b fb) (hs:KJ b:=by intro _ _;rfl):DE X (.Subscript a b pos) (Qk ixD fa fb):=L2.PE.imp (Qe0 Qhk ha hb hs) fun _ _ _ h=>zk h
end
end D
namespace D
open PySem PySem.Spec PyProof.Rows L2
mutual
def toP:DV->PyData
 | .non=>.none
 | .bl b=>.bool b
 | .int i=>.int i
 | .str x=>.str x
 | .tup xs=>.tuple (toPs xs)
 | .lst xs=>.list (toPs xs)
 | .ref _=>.none
def toPs:List DV->List PyData
 | []=>[]
 | d::ds=>toP d::toPs ds
end
mutual
def Kh:DV->Bool
 | .ref _=>false
 | .tup xs=>noRefs xs
 | .lst xs=>noRefs xs
 | _=>true
def noRefs:List DV->Bool
 | []=>true
 | d::ds=>Kh d&&noRefs ds
end
section
variable {X:Cx} {pins:List (Addr×Obj)} {σ:St} {H:Hp} {s:Shared} {ρ:List Addr} {B:Addr->Prop}
mutual
theorem VQ (I:Inv X pins σ H s):∀ (d:DV) (v:V) (u:Value),RepV X.K ρ B H d v->RelV v u->Kh d=true->∃ as,Reads s.heap u (toP d) as
  | .non,_,_,r,ru,_=>by obtain rfl:=r.nonI;cases ru;exact ⟨[],by unfold toP;exact .none⟩
  | .bl b,_,_,r,ru,_=>by obtain rfl:=r.blI;cases ru;exact ⟨[],by unfold toP;exact .bool b⟩
  | .int i,_,_,r,ru,_=>by obtain rfl:=r.intI;obtain ⟨t,rfl⟩:=ru;exact ⟨[],by unfold toP;exact .int i t⟩
  | .str x,_,_,r,ru,_=>by obtain rfl:=r.strI;obtain ⟨t,rfl⟩:=ru;exact ⟨[],by unfold toP;exact .str x t⟩
  | .ref _,_,_,_,_,n=>by cases n
  | .tup ds,_,_,r,ru,n=>by
    obtain ⟨a,xs,rfl,_,sq,rl⟩:=r.tupI
    cases ru
    obtain ⟨its,rv,⟨o,e,hc,k,hd⟩,_⟩:=I.tuple sq
    obtain ⟨as,q⟩:=reads_all I ds xs its rl rv (by unfold Kh at n;exact n)
    exact ⟨_,by unfold toP;exact reads_tuple_at e hc hd (by simpa using q)⟩
  | .lst ds,_,_,r,ru,n=>by
    obtain ⟨a,xs,rfl,_,sq,rl⟩:=r.lstI
    cases ru
    obtain ⟨its,rv,⟨o,k,e,hc,_,hd⟩,_⟩:=I.list sq
    obtain ⟨as,q⟩:=reads_all I ds xs its rl rv (by unfold Kh at n;exact n)
    exact ⟨_,by unfold toP;exact reads_list_at e hc hd (by simpa using q)⟩
theorem reads_all (I:Inv X pins σ H s):∀ (ds:List DV) (xs:List V) (us:List Value),RepL X.K ρ B H ds xs->Vals xs us->noRefs ds=true->∃ as,ReadsAll s.heap us (toPs ds) as
  | [],_,_,r,ru,_=>by unfold RepL at r;subst r;cases ru;exact ⟨[],by unfold toPs;exact .nil⟩
  | d::ds,_,_,r,ru,n=>by
    unfold RepL at r
    obtain ⟨x,xs,rfl,r1,r2⟩:=r
    cases ru with
    | cons q1 q2 =>
      unfold noRefs at n
      rw [Bool.and_eq_true] at n
      obtain ⟨as,h1⟩:=VQ I d x _ r1 q1 n.1
      obtain ⟨bs,h2⟩:=reads_all I ds xs _ r2 q2 n.2
      exact ⟨_,by unfold toPs;exact .cons h1 h2⟩
end
end
def okP (d:DV):Bool:=Kh d&&SeqAt.shaped (toP d)
def eqD:DV->DV->M DV:=fun x y=>do Qv (okP x&&okP y);pure (.bl (PyData.eqv (toP x) (toP y)))
def neD:DV->DV->M DV:=fun x y=>do Qv (okP x&&okP y);pure (.bl (!PyData.eqv (toP x) (toP y)))
section
variable {X:Cx} {e a b c:Expr} {f fa fb fc:DEx} {ca cb:DTx} {pos:Pos}
theorem QaQ (hu:X.A.units+64 < cLine):P2 X (compareOp .Eq) eqD:=by
 intro pins s σ H x y v u Q I rx ry h
 obtain ⟨ρ,B,hp,dx,dy,d,hp',W,r1,r2,e,k⟩:=h
 obtain ⟨_,hp1,e1,e2⟩:=Qf e
 obtain ⟨hs,rfl⟩:=QC e1
 obtain ⟨rfl,rfl⟩:=Qi e2
 simp only [okP,Bool.and_eq_true] at hs
 obtain ⟨as,q1⟩:=VQ I dx x v r1 rx hs.1.1
 obtain ⟨bs,q2⟩:=VQ I dy y u r2 ry hs.2.1
 exact eq_dataH q1 q2 hs.1.2 hs.2.2 hu ⟨.bl _,H,I,rfl,k _ ρ B H Gr.refl W Jg⟩
def tPn (K:PySem.W.Frag) (g:List DV->M DV):List V->Hp->VK->Prop:=fun xs H Q=>∃ ρ B hp ds d hp',WOk K ρ B hp H/\RepL K ρ B H ds xs/\g ds hp=some (d,hp')/\Fol K ρ B H d hp' Q
def ZB (g:List DV->M DV) (a:DAx):DEx:=fun env=>do g (<- a env)
theorem va {K:PySem.W.Frag} {g:List DV->M DV} {fa:DAx} {σ:St} {H:Hp} {Q:VK} (h:tD K (ZB g fa) σ H Q):tCB (tPn K g) (tDA K fa) σ H Q:=by
 obtain ⟨Z,env,ρ,B,hp,d,hp',S,e,k⟩:=h
 obtain ⟨ds,hp1,e1,e2⟩:=Qf e
 exact tDA.run S e1 fun vs ρ1 B1 H1 g1 S1 r1=>⟨ρ1,B1,hp1,ds,d,hp',S1.wo,r1,e2,k.after g1⟩
theorem Z8 {x:Str} {id:String} {g:List DV->M DV} {e:Expr} {es:List Expr} {fa:DAx} {p:Pos} (hc:CallR X (.builtin id) (tPn X.K g)) (hm:X.mg x=none) (hv:bootBuiltins x=some (.builtin id)) (ha:DA X (e::es) fa) (hg:Gl X x:=by rfl) (hn:x ≠ "__name__" := by decide) (hdb:(x==("__debug__" : Str))=false:=by decide)
  (he:starEach (e::es) X.env=(false,eval e X.env)::starEach es X.env:=by rfl) (hpl:(backTo pos (starEach es X.env)).any (·.1)=false:=by rfl):DE X (.Call (.Name x p) (e::es) [] pos) (ZB g fa) :=
 L2.PE.imp (VM hc hg hm hv ha hn hdb he hpl) fun _ _ _ h=>va h
theorem gI {x:Str} {T:String} {g:List DV->M DV} {e:Expr} {es:List Expr} {fa:DAx} {p:Pos} (hc:CallR X (.type T) (tPn X.K g)) (hm:X.mg x=none) (hv:bootBuiltins x=some (.type T)) (ha:DA X (e::es) fa) (hg:Gl X x:=by rfl) (hn:x ≠ "__name__" := by decide) (hdb:(x==("__debug__" : Str))=false:=by decide)
  (he:starEach (e::es) X.env=(false,eval e X.env)::starEach es X.env:=by rfl) (hpl:(backTo pos (starEach es X.env)).any (·.1)=false:=by rfl):DE X (.Call (.Name x p) (e::es) [] pos) (ZB g fa) :=
 L2.PE.imp (QaS hc hg hm hv ha hn hdb he hpl) fun _ _ _ h=>va h
theorem RepL.oneI {K:PySem.W.Frag} {ρ:List Addr} {B:Addr->Prop} {H:Hp} {d:DV} {vs:List V} (h:RepL K ρ B H [d] vs):∃ v,vs=[v]/\RepV K ρ B H d v:=by
 unfold RepL at h
 obtain ⟨x,r,rfl,h1,h2⟩:=h
 unfold RepL at h2;subst h2
 exact ⟨x,rfl,h1⟩
def qG:List DV->M DV
 | [.tup ds]=>pure (.int ds.length)
 | [.lst ds]=>pure (.int ds.length)
 | _=>failure
theorem gF:CallR X (.builtin "len") (tPn X.K qG):=by
 intro pins s σ H xs us Q I r h
 obtain ⟨ρ,B,hp,ds,d,hp',W,rl,e,k⟩:=h
 unfold qG at e
 split at e
 ·obtain ⟨rfl,rfl⟩:=Qi e
  obtain ⟨v,rfl,rv⟩:=rl.oneI
  obtain ⟨a,ys,rfl,_,sq,l⟩:=rv.tupI
  exact qy pins s σ H _ us Q I r ⟨a,ys,rfl,.inr sq,by rw [<- l.length];exact k _ ρ B H Gr.refl W JC⟩
 ·obtain ⟨rfl,rfl⟩:=Qi e
  obtain ⟨v,rfl,rv⟩:=rl.oneI
  obtain ⟨a,ys,rfl,_,sq,l⟩:=rv.lstI
  exact qy pins s σ H _ us Q I r ⟨a,ys,rfl,.inl sq,by rw [<- l.length];exact k _ ρ B H Gr.refl W JC⟩
 ·cases e
def QdK:List DV->M DV
 | [.int i,.int j]=>pure (.int (if j < i then j else i))
 | _=>failure
def QdJ:List DV->M DV
 | [.int i,.int j]=>pure (.int (if j > i then j else i))
 | _=>failure
theorem QgS (hc:X.calm=true):CallR X (.builtin "min") (tPn X.K QdK):=by
 intro pins s σ H xs us Q I r h
 obtain ⟨ρ,B,hp,ds,d,hp',W,rl,e,k⟩:=h
 unfold QdK at e
 split at e
 ·obtain ⟨rfl,rfl⟩:=Qi e
  exact Qao hc pins s σ H xs us Q I r ⟨_,_,rl.ints2,k _ ρ B H Gr.refl W JC⟩
 ·cases e
theorem QgR (hc:X.calm=true):CallR X (.builtin "max") (tPn X.K QdJ):=by
 intro pins s σ H xs us Q I r h
 obtain ⟨ρ,B,hp,ds,d,hp',W,rl,e,k⟩:=h
 unfold QdJ at e
 split at e
 ·obtain ⟨rfl,rfl⟩:=Qi e
  exact Qan hc pins s σ H xs us Q I r ⟨_,_,rl.ints2,k _ ρ B H Gr.refl W JC⟩
 ·cases e
def Qgw:List DV->M DV
 | [.lst ds]=>pure (.tup ds)
 | [.tup ds]=>pure (.tup ds)
 | _=>failure
theorem Qdn:CallR X (.type "tuple") (tPn X.K Qgw):=by
 intro pins s σ H xs us Q I r h
 obtain ⟨ρ,B,hp,ds,d,hp',W,rl,e,k⟩:=h
 unfold Qgw at e
 split at e
 ·obtain ⟨rfl,rfl⟩:=Qi e
  obtain ⟨v,rfl,rv⟩:=rl.oneI
  obtain ⟨a,ys,rfl,_,sq,l⟩:=rv.lstI
  exact YO pins s σ H _ us Q I r ⟨a,ys,rfl,.inl ⟨sq,jS W l k⟩⟩
 ·obtain ⟨rfl,rfl⟩:=Qi e
  obtain ⟨v,rfl,rv⟩:=rl.oneI
  obtain ⟨a,ys,rfl,nb,sq,l⟩:=rv.tupI
  exact YO pins s σ H _ us Q I r ⟨a,ys,rfl,.inr ⟨sq,k _ ρ B H Gr.refl W (qM nb sq l)⟩⟩
 ·cases e
def Uf:DV->Option String
 | .non=>some "NoneType"
 | .bl _=>some "bool"
 | .int _=>some "int"
 | .str _=>some "str"
 | .tup _=>some "tuple"
 | .lst _=>some "list"
 | .ref _=>none
def VA (t T:String):Bool:=t==T||(t == "bool" && T == "int")
def Qfp (T:String) (f:DEx):DEx:=fun env=>do
 match Uf (<- f env) with
 | some t=>pure (.bl (VA t T))
 | none=>failure
theorem QeQ {T:String} (hT:T∈["int", "bool", "tuple", "str", "list"]):CallR X (.builtin "isinstance") (fun xs H Q=>∃ ρ B d x t,xs=[x,.ty T]/\RepV X.K ρ B H d x/\Uf d=some t/\Q (.bl (VA t T)) H):=by
  intro pins s σ H xs us Q I r h
  obtain ⟨ρ,B,d,x,t,rfl,rv,ht,q⟩:=h
  obtain ⟨u,w',rfl,ru,rw'⟩:=v8 r
  cases rw'
  have fin:∀ tk,EP X pins σ Q (.bool (VA t T)) { s with toks:=tk }:=fun tk=>⟨.bl _,H,I.tok _,rfl,q⟩
  have kit:PySem.W.kitOne X.K (.type t) (.type T)=some (VA t T):=by
    have:t∈["NoneType", "bool", "int", "str", "tuple", "list"]:=by
      cases d<;>cases ht<;>simp
    simp only [List.mem_cons,List.not_mem_nil,or_false] at this hT
    rcases this with rfl | rfl | rfl | rfl | rfl | rfl<;>rcases hT with rfl | rfl | rfl | rfl | rfl<;>first | rfl | decide | with_unfolding_all rfl | kernel_rfl
  cases d with
  | non=>obtain rfl:=rv.nonI;cases ht;cases ru;exact PySem.W.kia_one PySem.W.kitx_none I.kIn True.intro kit (fun z=>nomatch z) fin
  | bl b=>obtain rfl:=rv.blI;cases ht;cases ru;exact PySem.W.kia_one PySem.W.kitx_bool I.kIn True.intro kit (fun z=>nomatch z) fin
  | int b=>obtain rfl:=rv.intI;cases ht;obtain ⟨tk,rfl⟩:=ru;exact PySem.W.kia_one PySem.W.kitx_int I.kIn True.intro kit (fun z=>nomatch z) fin
  | str b=>obtain rfl:=rv.strI;cases ht;obtain ⟨tk,rfl⟩:=ru;exact PySem.W.kia_one PySem.W.kitx_str I.kIn True.intro kit (fun z=>nomatch z) fin
  | ref b=>cases ht
  | tup b =>
    cases ht
    obtain ⟨a,ys,rfl,_,sq,_⟩:=rv.tupI
    cases ru
    obtain ⟨its,_,⟨o,e1,e2,_⟩,_⟩:=I.tuple sq
    exact PySem.W.kia_one PySem.W.kitx_tuple I.kIn ⟨o,e1,e2⟩ kit (fun z=>nomatch z) fin
  | lst b =>
    cases ht
    obtain ⟨a,ys,rfl,_,sq,_⟩:=rv.lstI
    cases ru
    obtain ⟨its,_,⟨o,k,e1,e2,_⟩,_⟩:=I.list sq
    exact PySem.W.kia_one PySem.W.kitx_list I.kIn ⟨o,e1,e2⟩ kit (fun z=>nomatch z) fin
theorem Qbq {T:String} {p p':Pos} (hm:X.mg "isinstance" = none) (hm':X.mg (Str.ofString T)=none) (hv:bootBuiltins (Str.ofString T)=some (.type T)) (hT:T∈["int", "bool", "tuple", "str", "list"]) (h:DE X e f) (hg:Gl X "isinstance" := by rfl) (hg':Gl X (Str.ofString T):=by rfl)
    (hn:Str.ofString T ≠ "__name__" := by decide) (hdb:(Str.ofString T==("__debug__" : Str))=false:=by decide) (hs:starEach [e,.Name (Str.ofString T) p'] X.env=(false,eval e X.env)::starEach [.Name (Str.ofString T) p'] X.env:=by rfl)
    (hs2:starEach [.Name (Str.ofString T) p'] X.env=(false,eval (.Name (Str.ofString T) p') X.env)::starEach [] X.env:=by rfl) (hpl:(backTo pos (starEach [.Name (Str.ofString T) p'] X.env)).any (·.1)=false:=by rfl):DE X (.Call (.Name "isinstance" p) [e,.Name (Str.ofString T) p'] [] pos) (Qfp T f) :=
  L2.PE.imp (VM (QeQ hT) hg hm boot_isinstance (X9 h (X9 (kF (v:=.ty T) hg' hm' hv rfl hn hdb) pa_nil hs2) hs) (by decide) (by decide) hs hpl) fun σ H Q ⟨Z,env,ρ,B,hp,d,hp',S,e,k⟩=>by
    obtain ⟨x,hp1,e1,e2⟩:=Qf e
    refine tD.run S e1 fun v ρ1 B1 H1 g1 S1 r1=>?_
    cases q:Uf x with
    | none=>rw [q] at e2;cases e2
    | some t =>
      rw [q] at e2
      obtain ⟨rfl,rfl⟩:=Qi e2
      exact ⟨ρ1,B1,x,v,t,rfl,r1,q,k _ ρ1 B1 H1 g1 S1.wo Jg⟩
def Xi (g g':DV->DV->M DV) (fa fb fc:DEx):DEx:=fun env=>do
 let x <- fa env
 let y <- fb env
 let z <- g x y
 if <- asB z then
  let u <- fc env
  g' y u
 else pure (.bl false)
end
end D
namespace D
open PySem PySem.Spec PyProof.Rows L2
section
variable {X:Cx} {e a b c:Expr} {f fa fb fc:DEx} {ca cb:DTx} {pos:Pos}
theorem uB {K:PySem.W.Frag} {g g':DV->DV->M DV} {σ:St} {H:Hp} {Q:VK} (h:tD K (Xi g g' fa fb fc) σ H Q):QcV (tP2 K g) (tP2 K g') (tD K fa) (tD K fb) (tD K fc) σ H Q:=by
  obtain ⟨Z,env,ρ,B,hp,d,hp',S,e,k⟩:=h
  obtain ⟨x,hp1,e1,e⟩:=Qf e
  obtain ⟨y,hp2,e2,e⟩:=Qf e
  obtain ⟨z,hp3,e3,e⟩:=Qf e
  obtain ⟨t,hp4,e4,e⟩:=Qf e
  obtain ⟨rfl,rfl⟩:=YY e4
  refine tD.run S e1 fun v ρ1 B1 H1 g1 S1 r1=>tD.run S1 e2 fun u ρ2 B2 H2 g2 S2 r2=>?_
  refine ⟨ρ2,B2,hp2,x,y,_,_,S2.wo,RepV.grow S1.wo.rb g2 _ _ r1,r2,e3,fun w ρ3 B3 H3 g3 W3 r3=>⟨t,r3.blI,?_⟩⟩
  have S3:=S2.grow g3 W3
  cases t with
  | false =>
    obtain ⟨rfl,rfl⟩:=Qi e
    exact vn (k _ ρ3 B3 H3 (g1.trans (g2.trans g3)) W3 Jg)
  | true =>
    obtain ⟨q,hp5,e5,e6⟩:=Qf e
    refine vo (tD.run S3 e5 fun p ρ4 B4 H4 g4 S4 r4=>?_)
    exact ⟨ρ4,B4,hp5,y,q,d,hp',S4.wo,RepV.grow S3.wo.rb g4 _ _ (RepV.grow S2.wo.rb g3 _ _ r2),r4,e6,k.after (g1.trans (g2.trans (g3.trans g4)))⟩
theorem Vp {op op':CmpOp} {g g':DV->DV->M DV} (ho:P2 X (compareOp op) g) (ho':P2 X (compareOp op') g') (ha:DE X a fa) (hb:DE X b fb) (hc:DE X c fc) (hm:lastMarks [op,op'] [b,c]=false:=by with_unfolding_all rfl):DT X (.Compare a [op,op'] [b,c] pos) (eB (Xi g g' fa fb fc)) :=
 L2.PT.imp (QcA ho ho' ha hb hc hm) fun σ H Q ⟨Z,env,ρ,B,hp,d,hp',S,e,k⟩=>by
  obtain ⟨x,hp1,e1,e2⟩:=Qf e
  obtain ⟨rfl,rfl⟩:=YY e2
  exact uB (tD.run S e1 fun v ρ1 B1 H1 g1 S1 r1=>⟨d,r1.blI,k ρ1 B1 H1 g1 S1.wo⟩)
abbrev DOx:=En->M (Option Int)
def tDO (K:PySem.W.Frag) (f:DOx):TO:=fun σ H Q=>∃ Z env ρ B hp d hp',SOk K Z env σ ρ B hp H/\f env hp=some (d,hp')/\QgI K ρ B H hp' (Q d)
def DO (X:Cx) (e:Option Expr) (f:DOx):Prop:=PO X e (tDO X.K f)
def ZN:DOx:=fun _=>pure none
def asI:DV->M Int
 | .int i=>pure i
 | _=>failure
theorem Vh {d:DV} {c:Int} {hp hp':Hs} (h:asI d hp=some (c,hp')):d=.int c/\hp=hp':=by
 cases d with
 | int b=>obtain ⟨rfl,rfl⟩:=Qi h;exact ⟨rfl,rfl⟩
 | _=>cases h
def ZO (f:DEx):DOx:=fun env=>do let i <- asI (<- f env);pure (some i)
theorem JR:DO X none ZN:=fun pins s σ H Q I ⟨Z,env,ρ,B,hp,d,hp',S,e,k⟩=>by
 obtain ⟨rfl,rfl⟩:=Qi e
 exact Qd9 pins s σ H Q I (k ρ B H Gr.refl S.wo)
theorem JS (h:DE X e f):DO X (some e) (ZO f):=fun pins s σ H Q I ⟨Z,env,ρ,B,hp,d,hp',S,e,k⟩=>by
 obtain ⟨x,hp1,e1,e2⟩:=Qf e
 obtain ⟨i,hp2,e3,e4⟩:=Qf e2
 obtain ⟨rfl,rfl⟩:=Vh e3
 obtain ⟨rfl,rfl⟩:=Qi e4
 exact Qea h pins s σ H Q I (tD.run S e1 fun v ρ1 B1 H1 g1 S1 r1=>⟨i,r1.intI,k ρ1 B1 H1 g1 S1.wo⟩)
theorem tDO.run {K:PySem.W.Frag} {f:DOx} {Z:Ent} {env:En} {σ:St} {ρ:List Addr} {B:Addr->Prop} {hp hp1:Hs} {H:Hp} {d:Option Int} {Q:Option Int->Hp->Prop} (S:SOk K Z env σ ρ B hp H) (e:f env hp=some (d,hp1))
  (k:∀ ρ' B' H',Gr K ρ B H ρ' B' H'->SOk K Z env σ ρ' B' hp1 H'->Q d H'):tDO K f σ H Q :=
 ⟨Z,env,ρ,B,hp,d,hp1,S,e,fun ρ' B' H' g W=>k ρ' B' H' g (S.grow g W)⟩
def Ux (ds:List DV) (lo hi:Option Int):List DV:=(ds.drop (HT.sIx ds.length 0 lo)).take (HT.sIx ds.length ds.length hi - HT.sIx ds.length 0 lo)
theorem G1 {K:PySem.W.Frag} {ρ:List Addr} {B:Addr->Prop} {H:Hp} {ds:List DV} {xs:List V} {lo hi:Option Int} (r:RepL K ρ B H ds xs):RepL K ρ B H (Ux ds lo hi) (G3 xs lo hi):=by
 unfold Ux G3
 rw [r.length]
 exact RepL.take _ (RepL.drop _ r)
def slD (d:DV) (lo hi:Option Int):M DV:=match d with
 | .lst ds=>pure (.lst (Ux ds lo hi))
 | .tup ds=>pure (.tup (Ux ds lo hi))
 | _=>failure
def eSl (f:DEx) (lo hi:DOx):DEx:=fun env=>do let d <- f env;let l <- lo env;let h <- hi env;slD d l h
def tPs (K:PySem.W.Frag):V->Option Int->Option Int->Hp->VK->Prop:=fun x lo hi H Q=>∃ ρ B hp d r hp',WOk K ρ B hp H/\RepV K ρ B H d x/\slD d lo hi hp=some (r,hp')/\Fol K ρ B H r hp' Q
theorem vZ {prog:Program} {w:World} {A:Around} {E:Value->Shared->Prop} {s:Shared} {t sl:Addr} {items:Array Value} {vl vu:Value} {lo hi:Option Int} {Q:Value->Shared->Prop} (ht:IsTup s.heap t items) (hs:s.heap.IsSliceOf sl vl vu .none) (pl:IsPart vl lo) (pu:IsPart vu hi)
  (h0:HT.sIx items.size 0 lo=0) (h1:HT.sIx items.size items.size hi=items.size) (h:Q (.ref t) s):wpAny (model prog w) A (getItem (.ref t) (.ref sl)) Q E s:=by
 obtain ⟨os,hos,hcs,hds⟩:=id hs
 have hTs:s.TypeIs (.ref sl) "slice" := ⟨os,hos,hcs⟩
 unfold getItem
 try with_reducible refine wpAny_holding ?_
 first | refine wpAny_bind (wpAny_pure ?_) | skip
 refine wpAny_bind (wpAny_sequenceKey ht.typeIs (by decide) ?_)
 refine wpAny_bind (wpAny_callSpecial?_slot (name:=Str.ofString "__getitem__") ht.typeIs PyProof.Rows.slot_tuple_getitem (wpAny_call_entry PyProof.Rows.slot_tuple_getitem ht.typeIs entry_tuple_getitem ?_ (args_tuple_getitem _ _)))
 show wpAny _ _ (Builtin.Tuple.tupleItemsOf (.ref t) >>= _) _ _ s
 refine wpAny_bind (tupleItemsOf_ ht ?_)
 refine wpAny_bind (wpAny_typeOf hTs ?_)
 rw [if_pos (by decide)]
 refine wpAny_bind (HT.sliceApplied_gen hs pl pu ?_)
 have yes:(((HT.sIx items.size 0 lo:Nat):Int)==0&&(1:Int)==1&&(HT.sIx items.size items.size hi - HT.sIx items.size 0 lo)==items.size)=true:=by rw [h0,h1];simp
 show wpAny _ _ (if (((HT.sIx items.size 0 lo:Nat):Int)==0&&(1:Int)==1&&(HT.sIx items.size items.size hi - HT.sIx items.size 0 lo)==items.size)=true then _ else _) _ _ s
 rw [if_pos yes]
 have ex:∀ {Q':Bool->Shared->Prop} {A':Around} {E':Value->Shared->Prop},Q' true s->wpAny (model prog w) A' (Builtin.Tuple.tupleIsExact (.ref t)) Q' E' s:=fun {Q' A' E'} q=>by
  unfold Builtin.Tuple.tupleIsExact
  exact wpAny_bind (wpAny_typeOf ht.typeIs (wpAny_pure (by rw [show (Value.type "tuple" == Value.type "tuple")=true from beq_self_eq_true _];exact q)))
 refine wpAny_bind (ex ?_)
 rw [if_pos rfl]
 first
  | exact wpAny_bind (wpAny_rule (wpAny_pure ⟨_,rfl,wpAny_pure h⟩))
  | exact wpAny_bind (wpAny_rule (wpAny_bind (wpAny_pure (wpAny_pure ⟨_,rfl,wpAny_pure h⟩))))
theorem Qey:SlR X (fun x lo hi H Q=>∃ a xs,x=.ref a/\SqT X.K H a xs/\(HT.sIx xs.length 0 lo=0/\HT.sIx xs.length xs.length hi=xs.length)/\Q (.ref a) H):=by
 intro pins s σ H x v vl vu lo hi sl Q I rx hs pl pu h
 obtain ⟨a,xs,rfl,hx,⟨h0,h1⟩,q⟩:=h
 cases rx
 obtain ⟨its,r,ht,hz⟩:=I.tuple hx
 have hlen:its.toArray.size=xs.length:=by rw [List.size_toArray];exact r.length.symm
 exact ⟨"tuple", _,PyProof.Rows.slot_tuple_getitem.lookup,ht.typeIs,vZ ht hs pl pu (by rw [hlen];exact h0) (by rw [hlen];exact h1) ⟨.ref a,H,I,rfl,q⟩⟩
theorem Qaq {α:Type} (ds:List α) (i j:Nat) (h0:i=0) (h1:j=ds.length):(ds.drop i).take (j - i)=ds:=by subst h0 h1;simp
theorem Qh7:SlR X (tPs X.K):=by
  intro pins s σ H x v vl vu lo hi sl Q I rx hs pl pu h
  obtain ⟨ρ,B,hp,d,r,hp',W,rv,e,k⟩:=h
  cases d with
  | lst ds =>
    obtain ⟨rfl,rfl⟩:=Qi e
    obtain ⟨a,xs,rfl,nb,sq,rl⟩:=rv.lstI
    exact Qex pins s σ H _ v vl vu lo hi sl Q I rx hs pl pu ⟨a,xs,rfl,sq,jR W (G1 rl) k⟩
  | tup ds =>
    obtain ⟨rfl,rfl⟩:=Qi e
    obtain ⟨a,xs,rfl,nb,sq,rl⟩:=rv.tupI
    by_cases hw:HT.sIx xs.length 0 lo=0/\HT.sIx xs.length xs.length hi=xs.length
    . refine Qey pins s σ H _ v vl vu lo hi sl Q I rx hs pl pu ⟨a,xs,rfl,sq,hw,?_⟩
      have:Ux ds lo hi=ds:=by unfold Ux;exact Qaq ds _ _ (by rw [rl.length];exact hw.1) (by rw [rl.length];exact hw.2)
      rw [this] at k
      exact k _ ρ B H Gr.refl W (qM nb sq rl)
    . exact Qgn pins s σ H _ v vl vu lo hi sl Q I rx hs pl pu ⟨a,xs,rfl,sq,hw,jS W (G1 rl) k⟩
  | non=>cases e
  | bl _=>cases e
  | int _=>cases e
  | str _=>cases e
  | ref _=>cases e
theorem Y5 {lo hi:Option Expr} {ol oh:DOx} {p2:Pos} (h:DE X e f) (hl:DO X lo ol) (hh:DO X hi oh):DE X (.Subscript e (.Slice lo hi none p2) pos) (eSl f ol oh) :=
 L2.PE.imp (Qcr Qh7 h hl hh) fun σ H Q ⟨Z,env,ρ,B,hp,d,hp',S,e,k⟩=>by
  obtain ⟨x,hp1,e1,e⟩:=Qf e
  obtain ⟨l,hp2,e2,e⟩:=Qf e
  obtain ⟨u,hp3,e3,e⟩:=Qf e
  refine tD.run S e1 fun v ρ1 B1 H1 g1 S1 r1=>tDO.run S1 e2 fun ρ2 B2 H2 g2 S2=>tDO.run S2 e3 fun ρ3 B3 H3 g3 S3=>?_
  exact ⟨ρ3,B3,hp3,x,d,hp',S3.wo,RepV.grow S1.wo.rb (g2.trans g3) _ _ r1,e,k.after (g1.trans (g2.trans g3))⟩
theorem Qg0 {P:Program} {w:World} {K:PySem.W.Frag} {mg:Str->Option Value} {base:Heap} {x:Str} {stm:Stmt} {g:Addr} {fd:FuncData} {N ps:List Str} {k:Nat} {body:DSx} (F:Fun K x x stm g fd) (Sc:Qs N ps (Qo stm))
  (h:∀ (cdv:Value) (A:Around) (outer:List Env) (s:Shared) (H:Hp) (E:XK),Room k (A.deeper (envOfC x (Qo stm) s.heap.objs.size g cdv))->DSs (yR CX0 P w K mg base N x (Qo stm) g cdv A outer s H E).nox (ZF stm) body) :
  q8 P w K mg base CX0 (k+1) g fd ps (spD K ps.length (Q5 N.length body)):=by
 refine F.ok Sc (fun vs H Q E h=>h.1) (fun cdv A outer s H vs Q E hr sp=>?_)
 obtain ⟨hn,ρ,B,hp,ds,d,hp',W,r,e,k⟩:=sp
 obtain ⟨⟨fl,env'⟩,hp1,e1,e2⟩:=Qf e
 refine ⟨_,h cdv A outer s H E hr,⟨ρ,B,H⟩,_,ρ,B,hp,fl,env',hp1,yi W r,e1,fun σ' ρ' B' H' g' S'=>?_⟩
 cases fl with
 | nx=>obtain ⟨rfl,rfl⟩:=Qi e2;exact k .non ρ' B' H' S'.gr S'.wo qL
 | rt x=>obtain ⟨rfl,rfl⟩:=Qi e2;exact fun v rv=>k v ρ' B' H' S'.gr S'.wo rv
 | bk=>cases e2
 | ct=>cases e2
theorem vJ {K:PySem.W.Frag} {ρ:List Addr} {B:Addr->Prop} {H:Hp}:∀ ns:List Int,RepL K ρ B H (ns.map DV.int) (ns.map V.int)
 | []=>RepL.nil
 | _::r=>RepL.cons JC (vJ r)
theorem QfE {K:PySem.W.Frag} {F:List DV->M DV} {H:Hp} {a:Addr} {ns:List Int} {E:XK} (h:∃ hp',F [.lst (ns.map .int)] []=some (.bl true,hp')) (hS:SqL K H a (ns.map V.int)):spD K 1 F [.ref a] H (fun v _=>v=.bl true) E:=by
 obtain ⟨hp',h⟩:=h
 refine ⟨rfl,[],fun _=>False,[],[.lst (ns.map .int)],.bl true,hp',⟨rfl,List.nodup_nil,fun i a o h=>by simp at h,fun a h=>absurd h (by simp),fun a h=>absurd h (fun z=>z),fun a h=>h.elim⟩,RepL.one (Gw (fun z=>z) hS (vJ ns)),h,fun v _ _ _ _ _ r=>r.blI⟩
end
end D
namespace L2
open PySem PySem.Spec PyProof.Rows
section
variable {prog:Program} {w:World} {A:Around} {E:Value->Shared->Prop} {s:Shared}
theorem zW {p q:Addr} {n:Nat} {xs:Array Value} {v:Value} {Q:Value->Shared->Prop} (a1:s.heap.IsTupleIter p q n) (a2:s.heap.IsTuple q xs) (a3:xs[n]?=some v)
  (k:∀ g,g.IsTupleIter p q (n+1)->Heap.SameBut p s.heap g->Q v { s with heap:=g }):wpAny (model prog w) A (Builtin.SmallTypes.nextOf (.ref p)) Q E s:=by
 obtain ⟨ob,b1,b2,b3⟩:=id a1
 obtain ⟨oq,b4,_,m,b5⟩:=a2
 unfold Builtin.SmallTypes.nextOf
 refine wpAny_bind (wpAny_callSpecial?_slot (name:=Str.ofString "__next__") a1.typeIs F.slot_tuple_iterator_next (wpAny_call_entry F.slot_tuple_iterator_next a1.typeIs F.entry_tuple_iterator_next ?_ (F.args_tuple_iterator_next_1 _)))
 show wpAny _ _ (field (.ref p) 0 >>= _) _ _ s
 refine wpAny_bind (wpAny_field b1 b3 (x:=.ref q) rfl ?_)
 show wpAny _ _ (if (Value.ref q==Value.none)=true then _ else _) _ _ s
 rw [if_neg (show ¬ ((Value.ref q==Value.none)=true) from Bool.false_ne_true)]
 show wpAny _ _ (field (.ref p) 1 >>= _) _ _ s
 refine wpAny_bind (wpAny_field b1 b3 (x:=.int n 0) rfl ?_)
 show wpAny _ _ (seqItems? (.ref q) >>= _) _ _ s
 refine wpAny_bind (wpAny_seqItems b4 b5 ?_)
 simp only [Int.toNat_natCast,a3]
 refine wpAny_bind (wpAny_setField b1 b3 (by simp) (wpAny_pure ⟨v,rfl,wpAny_pure (k _ ?_ (Heap.SameBut.update ..))⟩))
 exact ⟨_,Heap.get?_update_self _ b1 (Obj.isFreed_of_fields (Obj.data_mapFields b3 _)),(Obj.cls_mapFields ..).trans b2,by rw [Obj.data_mapFields b3];simp [rawInt]⟩
theorem GN {p q:Addr} {n:Nat} {xs:Array Value} {Q:Value->Shared->Prop} (hh:A.handled=none) (a1:s.heap.IsTupleIter p q n) (a2:s.heap.IsTuple q xs) (a3:xs[n]?=none)
  (k:∀ g x,Heap.ExtBut p s.heap g->(∃ o,g.get? x=some o/\o.cls=.type "StopIteration")->E (.ref x) { s with heap:=g }):wpAny (model prog w) A (Builtin.SmallTypes.nextOf (.ref p)) Q E s:=by
 obtain ⟨ob,b1,b2,b3⟩:=id a1
 obtain ⟨oq,b4,_,m,b5⟩:=a2
 unfold Builtin.SmallTypes.nextOf
 refine wpAny_bind (wpAny_callSpecial?_slot (name:=Str.ofString "__next__") a1.typeIs F.slot_tuple_iterator_next (wpAny_call_entry F.slot_tuple_iterator_next a1.typeIs F.entry_tuple_iterator_next ?_ (F.args_tuple_iterator_next_1 _)))
 show wpAny _ _ (field (.ref p) 0 >>= _) _ _ s
 refine wpAny_bind (wpAny_field b1 b3 (x:=.ref q) rfl ?_)
 show wpAny _ _ (if (Value.ref q==Value.none)=true then _ else _) _ _ s
 rw [if_neg (show ¬ ((Value.ref q==Value.none)=true) from Bool.false_ne_true)]
 show wpAny _ _ (field (.ref p) 1 >>= _) _ _ s
 refine wpAny_bind (wpAny_field b1 b3 (x:=.int n 0) rfl ?_)
 show wpAny _ _ (seqItems? (.ref q) >>= _) _ _ s
 refine wpAny_bind (wpAny_seqItems b4 b5 ?_)
 simp only [Int.toNat_natCast,a3]
 refine wpAny_bind (wpAny_rule (wpAny_bind (wpAny_setField b1 b3 (by simp) ?_)))
 show wpAny _ _ (newExc (.type "StopIteration") [] >>= _) _ _ _
 refine wpAny_bind ?_
 simp only [newExc,newTuple]
 refine wpAny_bind (wpAny_newObj_type ?_ (by size_fits))
 refine wpAny_bind (m:=firstArgMember _ _) (wpAny_of_eq (a:=Value.none) (by first | rfl | (simp only [firstArgMember];rfl)) ?_)
 refine wpAny_newObj_type ?_ (by size_fits)
 simp only [raiseNew]
 refine wpAny_bind (wpAny_handled ?_)
 first | rw [show A.in1.handled=none from hh] | rw [hh]
 refine wpAny_bind (wpAny_pure (wpAny_throw ?_))
 exact k _ _ (((Heap.SameBut.update ..).extBut.push _).push _) ⟨_,Heap.get?_push_size _ rfl,rfl⟩
structure ZA (z p o i j a b:Addr):Prop where
 pz:p≠z
 oz:o≠z
 iz:i≠z
 jz:j≠z
 po:p≠o
 pi:p≠i
 pj:p≠j
 oi:o≠i
 oj:o≠j
 ij:i≠j
 az:a≠z
 ao:a≠o
 ai:a≠i
 aj:a≠j
 bz:b≠z
 bo:b≠o
 bi:b≠i
 bj:b≠j
end
end L2
namespace L2
open PySem PySem.Spec PyProof.Rows
section
variable {X:Cx} {pins:List (Addr×Obj)} {σ:L2.St} {H:Hp} {s:Shared} {h':Heap}
theorem Inv.turnL {t':Nat} {fp:List Addr} (I:Inv X pins σ H s) (hf:∀ b∈fp,Uo X pins H b) (k:∀ b o,b∉fp->s.heap.get? b=some o->h'.get? b=some o):Inv X pins σ H { s with heap:=h',toks:=t' }:=by
 refine I.step (g':=s.gens) (d':=s.drawn) (ch:=fp) (fun b hb=>⟨(hf b hb).2.2.2.1,(hf b hb).2.1,(hf b hb).2.2.2.2.1,(hf b hb).2.2.2.2.2⟩) (fun b o _ _ hc e _=>k b o hc e) (fun b o _ _ hc e _=>⟨o.slots,k b o hc e⟩) (fun _ _ _ _ n=>n)
  (fun b o hc e=>⟨o,k b o hc e⟩) (fun _ _ e=>e) (fun _ _ _ e=>e) (fun b ps e=>⟨#[],by rw [e];simp⟩) (fun m hm=>?_) (fun b u e=>?_) I.bare
 ·obtain ⟨o,es,ep,ho,r⟩:=hm
  exact ⟨o,es,ep,k _ o (fun z=>(hf _ z).2.1 rfl) ho,r⟩
 ·have nf:∀ c u,H c=some u->c∉fp:=fun c u q z=>by rw [(hf c z).1] at q;cases q
  refine (I.hok b u e).stay (fun c v hc q=>k c v ?_ q) (fun _ q=>q) fun _ _ q=>q
  rcases hc with z | z
  ·rw [z];exact nf b u e
  ·exact nf c _ z
theorem Inv.turnNew {t':Nat} {fp:List Addr} {vs:List V} {us:List Value} (I:Inv X pins σ H s) (hf:∀ b∈fp,Uo X pins H b) (k:∀ b o,b∉fp->s.heap.get? b=some o->h'.get? b=some o)
  (hv:Vals vs us) (hz:vs.length<=sizeLine) (hT:IsTup h' s.heap.objs.size us.toArray):Inv X pins σ (upd H s.heap.objs.size (.tup vs)) { s with heap:=h',toks:=t' }:=by
 have hn:H s.heap.objs.size=none:=I.hok.fresh (Nat.le_refl _)
 refine I.step (g':=s.gens) (d':=s.drawn) (ch:=fp) (fun b hb=>⟨(hf b hb).2.2.2.1,(hf b hb).2.1,(hf b hb).2.2.2.2.1,(hf b hb).2.2.2.2.2⟩) (fun b o _ _ hc e _=>k b o hc e) (fun b o _ _ hc e _=>⟨o.slots,k b o hc e⟩)
  (fun b o _ e n=>by rw [Q4 (Nat.ne_of_lt (Heap.lt_size e))];exact n) (fun b o hc e=>⟨o,k b o hc e⟩) (fun b xs e=>by rw [Q4 (ZD e hn)];exact e) (fun b o u e=>by rw [Q4 (ZD e hn)];exact e) (fun b ps e=>⟨#[],by rw [Q4 (ZD e hn),e];simp⟩) (fun m hm=>?_) (fun b u e=>?_) I.bare
 ·obtain ⟨o,es,ep,ho,r⟩:=hm
  exact ⟨o,es,ep,k _ o (fun z=>(hf _ z).2.1 rfl) ho,r⟩
 ·by_cases hb:b=s.heap.objs.size
  ·subst hb
   rw [Zm] at e;cases e
   exact ⟨hz,us,hv,hT⟩
  ·rw [Q4 hb] at e
   have nf:∀ c u,H c=some u->c∉fp:=fun c u q z=>by rw [(hf c z).1] at q;cases q
   refine (I.hok b u e).stay (fun c v hc q=>k c v ?_ q) (fun c q=>by rw [Q4 (ZD q hn)];exact q) fun c xs q=>by rw [Q4 (ZD q hn)];exact q
   rcases hc with z | z
   ·rw [z];exact nf b u e
   ·exact nf c _ z
end
def Itz (K:PySem.W.Frag) (a b:Addr):It :=
  ⟨fun i H=>∃ xs ys x y,SqT K H a xs/\SqT K H b ys/\xs[i]?=some x/\ys[i]?=some y,
   fun i H v H'=>∃ p x y,H p=none/\(∀ xs,SqT K H a xs->xs[i]?=some x)/\(∀ ys,SqT K H b ys->ys[i]?=some y)/\v=.ref p/\H'=upd H p (.tup [x,y]),
   fun i H=>∃ xs ys,SqT K H a xs/\SqT K H b ys/\(xs.length<=i∨ys.length<=i)⟩
abbrev zt1 (h:Heap) (a:Addr):Heap:=h.push { cls:=.type "tuple_iterator", data:=.fields #[.ref a,.int 0 0] }
abbrev zt2 (h:Heap) (a b:Addr):Heap:=(zt1 h a).push { cls:=.type "tuple_iterator", data:=.fields #[.ref b,.int 0 0] }
abbrev zt3 (h:Heap) (a b:Addr):Heap:=(zt2 h a b).push { cls:=.type "tuple", data:=.seq #[.ref h.objs.size,.ref (zt1 h a).objs.size] }
abbrev zt4 (h:Heap) (a b:Addr):Heap:=(zt3 h a b).push { cls:=.type "tuple", data:=.seq #[.none,.none] }
abbrev zt5 (h:Heap) (a b:Addr):Heap:=(zt4 h a b).push { cls:=.type "zip", data:=.fields #[.none,.bool false,.bool false,.ref (zt2 h a b).objs.size,.ref (zt3 h a b).objs.size] }
theorem QeL (a b:Addr) (xs ys:Array Value):Meets (Builtin.«zip.__new__» ⟨[.type "zip", .ref a,.ref b],[]⟩) (fun _ R s=>s.heap.IsTuple a xs/\s.heap.IsTuple b ys/\R (.ok (.ret (.ref (zt4 s.heap a b).objs.size))) { s with heap:=zt5 s.heap a b }) :=
 .of_wp fun prog w A R s h=>by
  obtain ⟨hp,g,d,tk,os⟩:=s;obtain ⟨q1,q2,h⟩:=h
  have hsub:=sub_zip
  have t1:Heap.IsTuple (Shared.heap ⟨hp,g,d,tk,os⟩) a xs:=q1
  have t2:Heap.IsTuple (Shared.heap ⟨hp.push { cls:=.type "tuple_iterator", data:=.fields #[.ref a,.int 0 0] },g,d,tk,os⟩) b ys:=let ⟨ob,e,r⟩:=q2;⟨ob,Heap.get?_push_of_some _ e,r⟩
  wp_walk using wpAny_pyIter_tuple t1,wpAny_pyIter_tuple t2
  exact ⟨_,rfl,h⟩
section
variable {X:Cx} {elts:List Expr} {kt:Nat} {p2:Pos}
def Qg4 (K:PySem.W.Frag) (ta:TA):TI:=fun σ H R=>ta σ H fun vs H1=>∃ a b xs ys,vs=[.ref a,.ref b]/\SqT K H1 a xs/\SqT K H1 b ys/\R (Itz K a b) H1
end
end L2
namespace D
open PySem PySem.Spec PyProof.Rows L2
def Xp:List DV->List DV->List DV
 | x::xs,y::ys=>.tup [x,y]::Xp xs ys
 | _,_=>[]
theorem zK:∀ {xs ys:List DV} {i:Nat} {d:DV},(Xp xs ys)[i]?=some d->∃ x y,xs[i]?=some x/\ys[i]?=some y/\d=.tup [x,y]
  | x::xs,y::ys,0,d,h=>by simp [Xp] at h;exact ⟨x,y,rfl,rfl,h.symm⟩
  | x::xs,y::ys,i+1,d,h=>by
    obtain ⟨a,b,h1,h2,h3⟩:=zK (xs:=xs) (ys:=ys) (i:=i) (by simpa [Xp] using h)
    exact ⟨a,b,by simpa using h1,by simpa using h2,h3⟩
  | [],_,_,_,h=>by simp [Xp] at h
  | _::_,[],_,_,h=>by simp [Xp] at h
theorem zL:∀ (xs ys:List DV),(Xp xs ys).length=min xs.length ys.length
 | x::xs,y::ys=>by simp only [Xp,List.length_cons,zL xs ys];omega
 | [],_=>by simp [Xp]
 | _::_,[]=>by simp [Xp]
def QbP (f g:DEx):DIx:=fun env=>do
 let x <- f env
 let xs <- vY x
 let y <- g env
 let ys <- vY y
 pure (Xp xs ys)
theorem QbU {K:PySem.W.Frag} {ρ:List Addr} {B:Addr->Prop} {H:Hp} {ds es:List DV} {a b:Addr} {xs ys:List V} (na:¬ B a) (qa:SqT K H a xs) (ra:RepL K ρ B H ds xs) (nb:¬ B b) (qb:SqT K H b ys) (rb:RepL K ρ B H es ys):Qac K ρ B H (Xp ds es) (Itz K a b):=fun ρ1 B1 H1 g r1 t1=>by
 have qa1:=g.sqT na qa
 have qb1:=g.sqT nb qb
 have ra1:=RepL.gs g _ _ ra
 have rb1:=RepL.gs g _ _ rb
 refine ⟨fun i d e=>?_,xs,ys,qa1,qb1,?_⟩
 ·obtain ⟨x,y,h1,h2,rfl⟩:=zK e
  obtain ⟨u,hu,ru⟩:=ra1.get h1
  obtain ⟨v,hv,rv⟩:=rb1.get h2
  refine ⟨⟨xs,ys,u,v,qa1,qb1,hu,hv⟩,fun z H' ⟨p,u',v',hn,h3,h4,e1,e2⟩=>?_⟩
  subst e1 e2
  have e3:=h3 xs qa1
  have e4:=h4 ys qb1
  rw [hu] at e3;cases e3
  rw [hv] at e4;cases e4
  refine ⟨qM (fun z=>t1 p z hn) (SqT.of Zm) (RepL.gs (gw r1 hn) _ _ (RepL.cons ru (RepL.one rv))),.inr ⟨p,_,hn,rfl⟩⟩
 ·rw [zL,ra1.length,rb1.length]
  rcases Nat.le_total xs.length ys.length with q | q
  ·exact .inl (by rw [Nat.min_eq_left q];exact Nat.le_refl _)
  ·exact .inr (by rw [Nat.min_eq_right q];exact Nat.le_refl _)
section
variable {X:Cx} {elts:List Expr} {kt:Nat} {p2:Pos} {f g:DEx}
def gT (ix:List Nat):DGx:=fun d env=>do
 let ds <- vY d
 Qv (decide (ds.length=ix.length))
 pure ((ix.zip ds).foldl (fun en q=>en.set q.1 (.val q.2)) env)
def KI (X:Cx):List Nat->List Expr->Prop
 | [],[]=>True
 | i::is,.Name x _::es=>X.N[i]?=some x/\Loc X.env.scope x/\(X.fn x=true∨X.env.scope.names.lookup x=some .local)/\KI X is es
 | _,_=>False
theorem Kj (hN:X.N.Nodup):∀ (ix:List Nat) (es:List Expr),KI X ix es->(∀ es' x p,(assignEach (.Name x p::es') X.env).map (·.2)=assign (.Name x p) X.env::(assignEach es' X.env).map (·.2)) ->
    PGs X es (fun vs σ H Q=>vs.length=ix.length/\Q ((ix.zip vs).foldl (fun s q=>s.set q.1 (some q.2)) σ) H)
  | [],[],_,_=>by
    intro pins s σ H vs us Q I r h
    obtain ⟨h1,h2⟩:=h
    have:vs=[]:=by cases vs with | nil=>rfl | cons _ _=>simp at h1
    subst this
    exact Qd3 pins s σ H [] us Q I r ⟨rfl,by simpa using h2⟩
  | i::is,.Name x p::es,⟨h1,h2,h3,h4⟩,ha=>by
    intro pins s σ H vs us Q I r h
    obtain ⟨h5,h6⟩:=h
    cases vs with
    | nil=>simp at h5
    | cons v vs =>
      exact Qcv (Gv hN h1 h2 h3) (Kj hN is es h4 ha) (ha _ _ _) pins s σ H (v::vs) us Q I r ⟨v,vs,rfl,by simpa using h5,by simpa using h6⟩
theorem gS {K:PySem.W.Frag} {Z:Ent} {ρ:List Addr} {B:Addr->Prop} {hp:Hs} {H:Hp}:∀ (ix:List Nat) (ds:List DV) (vs:List V) {env:En} {σ:L2.St},RepL K ρ B H ds vs->SOk K Z env σ ρ B hp H ->
    SOk K Z ((ix.zip ds).foldl (fun en q=>en.set q.1 (.val q.2)) env) ((ix.zip vs).foldl (fun s q=>s.set q.1 (some q.2)) σ) ρ B hp H
  | [],_,_,_,_,_,S=>by simpa using S
  | i::is,[],_,_,_,r,S=>by unfold RepL at r;subst r;simpa using S
  | i::is,d::ds,_,_,_,r,S=>by
    unfold RepL at r
    obtain ⟨v,vs,rfl,r1,r2⟩:=r
    simpa using gS is ds vs r2 (S.set (i:=i) r1)
theorem Qbs (ix:List Nat) (hN:X.N.Nodup) (hn:KI X ix elts) (hc:X.calm=true) (ha:∀ es' x p,(assignEach (.Name x p::es') X.env).map (·.2)=assign (.Name x p) X.env::(assignEach es' X.env).map (·.2))
  (hl:(assignEach elts X.env).length=ix.length:=by rfl) (hst:(assignEach elts X.env).findIdx? (·.1)=none:=by rfl):PG X (.Tuple elts kt p2) (tDG X.K (gT ix)):=by
 intro pins s σ H v u Q I r h
 refine Qf9 hc (Kj hN ix elts hn ha) hl hst pins s σ H v u Q I r ?_
 obtain ⟨Z,env,ρ,B,hp,d,env',hp',S,rd,e,k⟩:=h
 obtain ⟨ds,hp1,e1,e⟩:=Qf e
 obtain ⟨rfl,rfl⟩:=zU e1
 obtain ⟨_,hp2,e2,e⟩:=Qf e
 obtain ⟨hs,rfl⟩:=QC e2
 obtain ⟨rfl,rfl⟩:=Qi e
 obtain ⟨a,xs,rfl,na,qa,la⟩:=rd.tupI
 have hl':xs.length=ix.length:=by rw [<- la.length];exact of_decide_eq_true hs
 exact ⟨a,xs,rfl,qa,hl',hl',k _ ρ B H Gs.refl (gS ix ds xs la S)⟩
def XM (f:DEx) (g:DGx):DSx:=fun env=>do let d <- f env;let env' <- g d env;pure (.nx,env')
theorem xW {tg e:Expr} {g:DGx} {pos:Pos} (he:DE X e f) (hg:PG X tg (tDG X.K g)) (hs:swapsWithSole [tg] e pos.line X.env=pure false:=by rfl) (hw:swappedStores [tg] e X.env=pure none:=by rfl)
  (h1:(assignEach [tg] X.env).map (·.2)=[assign tg X.env]:=by rfl):DS X (.Assign [tg] e pos) (XM f g) :=
 L2.PS.imp (Qgc he hg hs hw h1) fun D σ H ⟨Z,env,ρ,B,hp,fl,env',hp',S,e,k⟩=>by
  obtain ⟨d,hp1,e1,e⟩:=Qf e
  obtain ⟨env1,hp2,e2,e⟩:=Qf e
  obtain ⟨z,rfl⟩:=Qi e;cases z
  exact tD.run S e1 fun v ρ1 B1 H1 g1 S1 r1=>⟨Z,env,ρ1,B1,hp1,d,env',hp2,S1,r1,e2,fun σ' ρ' B' H' g' S'=>k σ' ρ' B' H' ((g1.gs S.wo.rb).trans g') S'⟩
end
end D
namespace D
open PySem PySem.Spec PyProof.Rows L2
theorem uW {lo:Int} {n i:Nat} {d:DV} (h:(ZR lo n)[i]?=some d):i < n/\d=.int (lo+i):=by
 have hi:i < n:=by have:=(List.getElem?_eq_some_iff.mp h).1;simpa [ZR] using this
 refine ⟨hi,?_⟩
 simp [ZR,hi] at h
 exact h.symm
theorem qK (lo:Int) (n:Nat):(ZR lo n).length=n:=by simp [ZR]
theorem Vc (i:Int):okP (.int i)=true:=by rfl
theorem gR (i j:Int):PyData.eqv (.int i) (.int j)=(i==j):=rfl
theorem Z6 (i j:Int):eqD (.int i) (.int j)=pure (.bl (i==j)):=by
 simp only [eqD,Vc,Bool.and_self,Qv,if_true,pure_bind,toP,gR]
theorem Xl (i j:Int):neD (.int i) (.int j)=pure (.bl (!(i==j))):=by
 simp only [neD,Vc,Bool.and_self,Qv,if_true,pure_bind,toP,gR]
theorem Qe9 {α:Type} {xs:List α} {i:Int} (h0:0<=i) (h1:i < xs.length):atI xs i=xs[i.toNat]?:=by
 unfold atI ixN
 rw [if_pos h0,if_pos h1];rfl
theorem KP (ns:List Int) {i:Int} (h0:0<=i) (h1:i < ns.length):atI (ns.map DV.int) i=some (.int (ns.getD i.toNat 0)):=by
 have hl:i.toNat < ns.length:=by omega
 rw [Qe9 h0 (by simpa using h1),List.getElem?_map,List.getElem?_eq_getElem hl]
 simp [List.getD_eq_getElem?_getD,hl]
def opt:Option Int->DV
 | none=>.non
 | some i=>.int i
end D
namespace D
open PySem PySem.Spec PyProof.Rows L2
theorem Jo (x y:Int) (h:0 < y):Xq (.int x) (.int y)=pure (.int (x % y)):=by simp [Xq,qD,QgO,h]
theorem Xh (x y:Int) (h:0 < y) (h':y < 1073741824):Yq (.int x) (.int y)=pure (.int (x / y)):=by simp [Yq,qD,QgM,h,h']
theorem Qcb (x y:Int) (h:-(2 ^ 64) < x) (h':x < 2 ^ 64):QaK (.int x) (.int y)=pure (.int (x * y)):=by
 simp only [QaK,qD,QgP,decide_eq_true (Or.inl (b:=(-(2 ^ 64) < y/\y < 2 ^ 64)) (And.intro h h')),if_true]
theorem Jn (x y:Int):Z5 (.int x) (.int y)=pure (.int (x+y)):=rfl
theorem JL (x y:Int):xG (.int x) (.int y)=pure (.int (x - y)):=rfl
theorem Jz (x y:Int):gtD (.int x) (.int y)=pure (.bl (decide (y < x))):=rfl
theorem JA (x y:Int):ltD (.int x) (.int y)=pure (.bl (decide (x < y))):=rfl
theorem JW (x y:Int):leD (.int x) (.int y)=pure (.bl (decide (x<=y))):=rfl
theorem JT (x y:Int):geD (.int x) (.int y)=pure (.bl (decide (y<=x))):=rfl
theorem JH (x:Int):Qhd (.int x)=pure (.int (-x)):=rfl
theorem qT:YT (.int 10) (.int 30)=pure (.int 1000000000000000000000000000000):=rfl
theorem zy:YT (.int 10) (.int 21)=pure (.int 1000000000000000000000):=rfl
theorem VP:YT (.int 10) (.int 9)=pure (.int 1000000000):=rfl
theorem QcS {m:Int} (h0:0<=m) (h1:m<=1000000):Ub m=true:=decide_eq_true ⟨by omega,by omega⟩
end D
namespace D
open PySem PySem.Spec PyProof.Rows L2
theorem Yh {ds:List DV} (h:ds.length<=100000):qX ds=true:=decide_eq_true h
theorem ZS {f g:DSx} {env env1:En} (h:f env=pure (.nx,env1)):Qr f g env=g env1:=by simp only [Qr,h,pure_bind]
theorem Qev {f g:DSx} {env env1:En} {d:DV} (h:f env=pure (.rt d,env1)):Qr f g env=pure (.rt d,env1):=by simp only [Qr,h,pure_bind]
theorem Z1 {i:Nat} {f:DEx} {env:En} {d:DV} (h:f env=pure d):QM i f env=pure (.nx,env.set i (.val d)):=by simp only [QM,h,pure_bind]
theorem Qhy {c:DTx} {f g:DSx} {env:En} (h:c env=pure true):sIf c f g env=f env:=by simp only [sIf,h,pure_bind,if_true]
theorem Qhx {c:DTx} {f g:DSx} {env:En} (h:c env=pure false):sIf c f g env=g env:=by simp only [sIf,h,pure_bind,Bool.false_eq_true,if_false]
theorem Ye {f:DEx} {env:En} {d:DV} (h:f env=pure d):QN f env=pure (.rt d,env):=by simp only [QN,h,pure_bind]
theorem YD {n:Nat} {body:DSx} {ds:List DV} {d:DV} {env:En} (h:body (ds.map .val++List.replicate (n - ds.length) .un)=pure (.rt d,env)):Q5 n body ds=pure d:=by simp only [Q5,h,pure_bind]
theorem QgW {f:DEx} {env:En} {b:Bool} (h:f env=pure (.bl b)):eB f env=pure b:=by simp only [eB,h,pure_bind,asB]
theorem zR {g:DV->DV->M DV} {f f':DEx} {env:En} {x y d:DV} (h:f env=pure x) (h':f' env=pure y) (hg:g x y=pure d):Qk g f f' env=pure d:=by simp only [Qk,h,h',pure_bind,hg]
theorem xX {F:List DV->M DV} {f f':DEx} {env:En} {x y d:DV} (h:f env=pure x) (h':f' env=pure y) (hF:F [x,y]=pure d):QH 2 F (Qc f (Qc f' Qn)) env=pure d:=by simp [QH,Qc,Qn,h,h',Qv,hF]
theorem Qbz {F:List DV->M DV} {f f' f'':DEx} {env:En} {x y z d:DV} (h:f env=pure x) (h':f' env=pure y) (h'':f'' env=pure z) (hF:F [x,y,z]=pure d):QH 3 F (Qc f (Qc f' (Qc f'' Qn))) env=pure d:=by simp [QH,Qc,Qn,h,h',h'',Qv,hF]
end D
namespace D
open PySem PySem.Spec PyProof.Rows L2
section
variable {K:PySem.W.Frag} {ρ:List Addr} {B:Addr->Prop} {hp:Hs} {H:Hp}
theorem Gr.wnew {p:Addr} {o:HO} (h:H p=none) (kf:K.lookup p=none):Gr K ρ B H (ρ++[p]) (yQ B p) (upd H p o) where
 pre:=List.prefix_append _ _
 ban:=fun _ h=>.inl h
 new:=fun a z=>z.elim .inl fun e=>.inr (e▸⟨h,kf⟩)
 rnew:=fun a z=>(List.mem_append.mp z).elim .inl fun q=>.inr (by rw [List.mem_singleton.mp q];exact h)
 keep:=fun a u _ q=>by rw [Q4 (ZD q h)];exact q
 trk:=(Gr.laid (K:=K) (ρ:=ρ) (B:=B) h).trk
theorem WOk.wnew {p:Addr} {o:HO} {v:OV} (W:WOk K ρ B hp H) (h:H p=none) (kf:K.lookup p=none) (hv:ORep K (ρ++[p]) (yQ B p) (upd H p o) p v):WOk K (ρ++[p]) (yQ B p) (hp++[v]) (upd H p o) where
 len:=by simp [W.len]
 nd:=List.nodup_append.mpr ⟨W.nd,by simp,fun a ha b hb=>by rw [List.mem_singleton.mp hb];exact fun z=>W.bt a (W.rb a ha) (z▸h)⟩
 obj:=fun i a u e q=>by
  by_cases hi:i < ρ.length
  ·rw [List.getElem?_append_left hi] at e
   rw [List.getElem?_append_left (by rw [<- W.len];exact hi)] at q
   exact ORep.gs ((Gr.wnew h kf).gs W.rb) (Q4 (fun z=>W.bt a (W.rb a (List.mem_of_getElem? e)) (z▸h))) (W.obj i a u e q)
  ·rw [List.getElem?_append_right (by omega)] at e
   rw [List.getElem?_append_right (by rw [<- W.len];omega)] at q
   have hi0:i - ρ.length=0:=by
    have:=(List.getElem?_eq_some_iff.mp e).1
    simp at this;omega
   rw [hi0] at e
   rw [<- W.len,hi0] at q
   simp at e q
   subst e q
   exact hv
 rb:=fun a z=>(List.mem_append.mp z).elim (fun q=>.inl (W.rb a q)) fun q=>.inr (List.mem_singleton.mp q)
 bt:=fun a z q=>by
  have q':=(Gr.laid (K:=K) (ρ:=ρ) (B:=B) h).trk a q
  rcases z with z | rfl
  ·exact W.bt a z q'
  ·rw [Zm] at q;cases q
 bk:=fun a z=>z.elim (W.bk a) fun e=>e▸kf
theorem Gr.wset {i:Nat} {a:Addr} {o o':HO} (ha:ρ[i]?=some a) (h:H a=some o):Gr K ρ B H ρ B (upd H a o') where
 pre:=List.prefix_rfl
 ban:=fun _ h=>h
 new:=fun _ h=>.inl h
 rnew:=fun _ h=>.inl h
 keep:=fun b u nb q=>by rw [Q4 (show b≠a from fun z=>nb (by rw [z];exact List.mem_of_getElem? ha))];exact q
 trk:=fun b q=>by
  by_cases e:b=a
  ·subst e;rw [Zm] at q;cases q
  ·rw [Q4 e] at q;exact q
theorem WOk.wset {i:Nat} {a:Addr} {o o':HO} {v:OV} (W:WOk K ρ B hp H) (ha:ρ[i]?=some a) (h:H a=some o) (hv:ORep K ρ B (upd H a o') a v):WOk K ρ B (hp.set i v) (upd H a o') where
 len:=by simp [W.len]
 nd:=W.nd
 obj:=fun j b u e q=>by
  by_cases hj:j=i
  ·subst hj
   rw [ha] at e;cases e
   have hl:j < hp.length:=by rw [<- W.len];exact (List.getElem?_eq_some_iff.mp ha).1
   rw [List.getElem?_set_self hl] at q;cases q
   exact hv
  ·rw [List.getElem?_set_ne (Ne.symm hj)] at q
   have hb:b≠a:=fun z=>hj (by
    subst z
    exact (List.getElem?_inj (List.getElem?_eq_some_iff.mp e).1 W.nd).mp (e.trans ha.symm))
   exact ORep.gs ((Gr.wset ha h).gs W.rb) (Q4 hb) (W.obj j b u e q)
 rb:=W.rb
 bt:=fun b z q=>W.bt b z ((Gr.wset (K:=K) (B:=B) ha h).trk b q)
 bk:=W.bk
end
section
variable {X:Cx} {e a b c:Expr} {f fa fb fc:DEx} {pos:Pos}
def Xf (o:OV):M DV:=fun h=>some (.ref h.length,h++[o])
def ZG (i:Nat):M OV:=fun h=>match h[i]? with
 | some o=>some (o,h)
 | none=>none
def xA (i:Nat) (o:OV):M Unit:=fun h=>some ((),h.set i o)
theorem ZC {i:Nat} {o:OV} {hp hp':Hs} (h:ZG i hp=some (o,hp')):hp[i]?=some o/\hp=hp':=by
 unfold ZG at h
 cases q:hp[i]? with
 | none=>rw [q] at h;cases h
 | some z=>rw [q] at h;cases h;exact ⟨rfl,rfl⟩
def Xk (f:DAx):DEx:=fun env=>do let ds <- f env;Qv (qX ds);Xf (.lst ds)
theorem K9 {K:PySem.W.Frag} {ρ:List Addr} {B:Addr->Prop} {H:Hp} {hp:Hs} {ds:List DV} {xs:List V} {Q:VK} (W:WOk K ρ B hp H) (r:RepL K ρ B H ds xs) (k:Fol K ρ B H (.ref hp.length) (hp++[.lst ds]) Q):∀ p,H p=none->GQ K (upd H p (.lst xs))->Q (.ref p) (upd H p (.lst xs)):=fun p hp' kf=>by
 have kp:=kf p _ Zm
 have g:Gr K ρ B H (ρ++[p]) (yQ B p) (upd H p (.lst xs)):=Gr.wnew hp' kp
 refine k _ _ _ _ g (W.wnew hp' kp ⟨xs,Zm,RepL.grow W.rb g _ _ r⟩) ?_
 unfold RepV
 exact ⟨p,rfl,by rw [<- W.len];simp⟩
theorem zO {es:List Expr} {f:DAx} (h:DA X es f):DE X (.List es pos) (Xk f) :=
 L2.PE.imp (Qcp h).kf fun σ H Q ⟨Z,env,ρ,B,hp,d,hp',S,e,k⟩=>by
  obtain ⟨xs,hp1,e1,e2⟩:=Qf e
  obtain ⟨_,hp2,e3,e4⟩:=Qf e2
  obtain ⟨hs,rfl⟩:=QC e3
  cases e4
  exact tDA.run S e1 fun vs ρ1 B1 H1 g1 S1 r1=>⟨by rw [<- r1.length];exact zF hs,K9 S1.wo r1 (k.after g1)⟩
theorem RepV.refW {K:PySem.W.Frag} {ρ:List Addr} {B:Addr->Prop} {H:Hp} {hp:Hs} {i:Nat} {o:OV} {v:V} (W:WOk K ρ B hp H) (r:RepV K ρ B H (.ref i) v) (h:hp[i]?=some o):∃ a,v=.ref a/\ρ[i]?=some a/\ORep K ρ B H a o:=by
 obtain ⟨a,rfl,e⟩:=r.refI
 exact ⟨a,rfl,e,W.obj i a o e h⟩
def ixW:DV->DV->M DV
  | .ref n,.int i=>do
    match <- ZG n with
    | .lst ds=>match atI ds i with
      | some d=>pure d
      | none=>failure
    | _=>failure
  | x,y=>ixD x y
def Qa5:List DV->M DV
  | [.ref n]=>do
    match <- ZG n with
    | .lst ds=>pure (.tup ds)
    | _=>failure
  | xs=>Qgw xs
theorem GY:CallR X (.type "tuple") (tPn X.K Qa5):=by
  intro pins s σ H xs us Q I r h
  obtain ⟨ρ,B,hp,ds,d,hp',W,rl,e,k⟩:=h
  unfold Qa5 at e
  split at e
  . rename_i n
    obtain ⟨o,hp1,e1,e2⟩:=Qf e
    obtain ⟨e3,rfl⟩:=ZC e1
    cases o with
    | dic _=>cases e2
    | ins _ _=>cases e2
    | lst zs =>
      obtain ⟨rfl,rfl⟩:=Qi e2
      obtain ⟨v,rfl,rv⟩:=rl.oneI
      obtain ⟨a,rfl,_,ys,h1,l1⟩:=RepV.refW W rv e3
      exact YO pins s σ H _ us Q I r ⟨a,ys,rfl,.inl ⟨SqL.of h1,jS W l1 k⟩⟩
  . exact Qdn pins s σ H xs us Q I r ⟨ρ,B,hp,_,d,hp',W,rl,e,k⟩
end
end D
namespace D
open PySem PySem.Spec PyProof.Rows L2
theorem QbN {P:Program} {w:World} {K:PySem.W.Frag} {mg:Str->Option Value} {base:Heap} {x:Str} {stm:Stmt} {g:Addr} {fd:FuncData} {ps:List Str} {k:Nat} (F:Fun K x x stm g fd) (hm:mg x=some (.ref g))
  (hb:∀ (kV doc pm:Value) (an:Option Addr) (cdv ct:Value) (us:List Value),us.length=ps.length->bindArgs (PySem.W.fnOf x x (Jy stm) (ZF stm) (Qo stm) .none kV doc pm an cdv ct) ⟨us,[]⟩=pure (ps.zip us)) :
  Has P w K mg base x k ps.length (fun _=>failure):=by
 have no:∀ vs H Q E,¬ spD K ps.length (fun _=>failure) vs H Q E:=fun vs H Q E h=>by
  obtain ⟨_,ρ,B,hp,ds,d,hp',_,_,e,_⟩:=h
  cases e
 exact ⟨g,fd,ps,⟨fun vs H Q E h=>absurd h (no vs H Q E),fun A outer s H args us vs Q E _ _ _ _ h=>absurd h (no vs H Q E)⟩,F.binds hb,F.kp,hm⟩
end D
namespace D
open PySem PySem.Spec PyProof.Rows L2
section
variable {f g:DSx} {env env1 env2:En} {c ca cb:DTx} {e fa fb:DEx} {d x y:DV} {r:Fl×En}
end
theorem Qg {α β:Type} {m:M α} {k:α->M β} {x:α} {hp hp1:Hs} (h:m hp=some (x,hp1)):(m >>= k) hp=k x hp1:=by
 show (m hp).bind (fun p=>k p.1 p.2)=_
 rw [h];rfl
theorem Qj {f g:DSx} {env env1:En} {hp hp1:Hs} (h:f env hp=some ((.nx,env1),hp1)):Qr f g env hp=g env1 hp1:=Qg h
theorem Q0 {i:Nat} {f:DEx} {env:En} {d:DV} {hp hp1:Hs} (h:f env hp=some (d,hp1)):QM i f env hp=some ((.nx,env.set i (.val d)),hp1):=Qg h
theorem QdG {ds:List DV} {i:Int} {d:DV} (h:atI ds i=some d):ixD (.tup ds) (.int i)=pure d:=by simp only [ixD,h]
theorem Qbp (ds:List DV) (m:Nat):D.Ux ds none (some (m:Int))=ds.take m:=by
 unfold D.Ux
 rw [HT.sIx_nat]
 show (ds.drop 0).take (min m ds.length - 0)=ds.take m
 simp
theorem G4 (ds:List DV) (m:Nat):D.Ux ds (some (m:Int)) none=ds.drop m:=by
 unfold D.Ux
 rw [HT.sIx_nat]
 show (ds.drop (min m ds.length)).take (ds.length - min m ds.length)=ds.drop m
 rcases Nat.le_total m ds.length with h | h
 ·rw [Nat.min_eq_left h,List.take_of_length_le (by simp)]
 ·rw [Nat.min_eq_right h,List.drop_of_length_le h,List.drop_of_length_le (Nat.le_refl _)]
  simp
theorem V9 (ds:List DV) (m:Nat):slD (.tup ds) none (some (m:Int))=pure (.tup (ds.take m)):=by rw [<- Qbp];rfl
theorem V8 (ds:List DV) (m:Nat):slD (.tup ds) (some (m:Int)) none=pure (.tup (ds.drop m)):=by rw [<- G4];rfl
theorem vc {f g:DEx} {env:En} {ds:List DV} {m:Nat} (h:f env=pure (.tup ds)) (h':g env=pure (.int (m:Int))):eSl f ZN (ZO g) env=pure (.tup (ds.take m)):=by
 simp only [eSl,ZN,ZO,h,h',pure_bind,asI,V9]
theorem vb {f g:DEx} {env:En} {ds:List DV} {m:Nat} (h:f env=pure (.tup ds)) (h':g env=pure (.int (m:Int))):eSl f (ZO g) ZN env=pure (.tup (ds.drop m)):=by
 simp only [eSl,ZN,ZO,h,h',pure_bind,asI,V8]
end D
namespace L2
open PySem PySem.Spec PyProof.Rows
section
variable {X:Cx}
def Qib:R2:=fun x y H Q=>∃ a kvs k v,x=.ref a/\y=kV k/\H a=some (.dK kvs)/\qj kvs k=some v/\Q v H
theorem QdH (hu:X.A.units+1 < cLine):IxR X Qib:=by
 intro value slice pins s σ H x y v u Q I rx ry h hs
 obtain ⟨a,kvs,k,z,rfl,rfl,hH,hv,q⟩:=h
 cases rx
 have g:DGet H a (kV k) (some z):=hv▸DGet.k hH
 exact tail_any (G8 I g) PySem.F.slot_dict_getitem.lookup (Qar hu I g ry fun w' s' I' rw'=>⟨z,H,I',rw',q⟩) hs
theorem uP (hu:X.A.units+1 < cLine):OpR X (compareOp .In) (fun x y H Q=>∃ a kvs k,y=.ref a/\x=kV k/\H a=some (.dK kvs)/\Q (.bl (qj kvs k).isSome) H):=by
 intro pins s σ H x y v u Q I rx ry h
 obtain ⟨a,kvs,k,rfl,rfl,hH,q⟩:=h
 cases ry
 exact QhY hu I (DGet.k hH) rx fun s' I'=>⟨.bl _,H,I',rfl,q⟩
def Qhv:V->V->V->Hp->(Hp->Prop)->Prop:=fun o i v H Q=>∃ a kvs k,o=.ref a/\i=kV k/\H a=some (.dK kvs)/\kvs.length < sizeLine/\Q (upd H a (.dK (zA kvs k v)))
theorem QcM (hu:X.A.units+1 < cLine):Qde X Qhv:=fun pins s σ H o i v ov iv u Q I ro ri rv h=>by
 obtain ⟨a,kvs,k,rfl,rfl,hH,hl,q⟩:=h
 cases ro
 exact Qas hu I (DPut.k hH hl) ri rv fun s' I'=>⟨_,I',q⟩
def Qhu:V->List V->Hp->VK->Prop:=fun x vs H Q=>∃ a kvs k,x=.ref a/\H a=some (.dK kvs)/\((vs=[kV k]/\Q ((qj kvs k).getD .non) H)∨∃ z,vs=[kV k,z]/\Q ((qj kvs k).getD z) H)
theorem kz (hu:X.A.units+1 < cLine):MtR X "dict.get" Qhu:=by
 intro pins s σ H x vs v us Q I rx rv h
 obtain ⟨a,kvs,k,rfl,hH,h⟩:=h
 cases rx
 rcases h with ⟨rfl,q⟩ | ⟨z,rfl,q⟩
 ·obtain ⟨u,rfl,ru⟩:=Ui rv
  exact Qfg hu I (DGet.k hH) ru fun w' s' I' rw'=>⟨_,H,I',rw',q⟩
 ·obtain ⟨u,u2,rfl,ru,ru2⟩:=v8 rv
  exact Qfh hu I (DGet.k hH) ru ru2 fun w' s' I' rw'=>⟨_,H,I',rw',q⟩
def Qg5 (n:Nat) (i:Int):Nat:=if i < 0 then (i+(n:Int)).toNat else min i.toNat n
end
end L2
namespace D
open PySem PySem.Spec PyProof.Rows L2
def zh:DV->Option Key
 | .int i=>some (.inl i)
 | .str x=>some (.inr x)
 | _=>none
def Zq (kvs:List (Key×DV)) (k:Key):Option DV:=(kvs.find? fun kv=>decide (kv.1=k)).map (·.2)
def J2 (kvs:List (Key×DV)) (k:Key) (d:DV):List (Key×DV) :=
 if (kvs.any fun kv=>decide (kv.1=k))=true then kvs.map (fun kv=>if kv.1=k then (kv.1,d) else kv) else kvs++[(k,d)]
def QeT (kvs:List (Key×DV)) (k:Key):List (Key×DV):=kvs.filter fun kv=>decide (kv.1≠k)
section
variable {K:PySem.W.Frag} {ρ:List Addr} {B:Addr->Prop} {H:Hp} {hp:Hs}
theorem zi {d:DV} {k:Key} {v:V} (h:zh d=some k) (r:RepV K ρ B H d v):v=kV k:=by
 cases d<;>simp [zh] at h<;>subst h
 ·exact r.intI
 ·exact r.strI
abbrev RepK (K:PySem.W.Frag) (ρ:List Addr) (B:Addr->Prop) (H:Hp):List (Key×DV)->List (Key×V)->Prop:=Paired fun p q=>p.1=q.1/\RepV K ρ B H p.2 q.2
theorem kL:∀ {kvs:List (Key×DV)} {xs:List (Key×V)},xs.map (·.1)=kvs.map (·.1)->RepL K ρ B H (kvs.map (·.2)) (xs.map (·.2))->RepK K ρ B H kvs xs
  | [],[],_,_=>.nil
  | [],_::_,e,_=>by simp at e
  | _::_,[],e,_=>by simp at e
  | p::kvs,q::xs,e,r=>by
    simp only [List.map_cons,List.cons.injEq] at e
    simp only [List.map_cons] at r
    unfold RepL at r
    obtain ⟨x,t,e2,h1,h2⟩:=r
    simp only [List.cons.injEq] at e2
    obtain ⟨rfl,rfl⟩:=e2
    exact .cons ⟨e.1.symm,h1⟩ (kL e.2 h2)
theorem RepK.to {kvs:List (Key×DV)} {xs:List (Key×V)} (r:RepK K ρ B H kvs xs):xs.map (·.1)=kvs.map (·.1)/\RepL K ρ B H (kvs.map (·.2)) (xs.map (·.2)):=by
 induction r with
 | nil=>exact ⟨rfl,RepL.nil⟩
 | cons h _ ih=>exact ⟨by simp [ih.1,h.1],by simpa using RepL.cons h.2 ih.2⟩
theorem RepK.val {kvs:List (Key×DV)} {xs:List (Key×V)} (r:RepK K ρ B H kvs xs) (k:Key):(Zq kvs k=none/\qj xs k=none)∨∃ d v,Zq kvs k=some d/\qj xs k=some v/\RepV K ρ B H d v:=by
  induction r with
  | nil=>exact .inl ⟨rfl,rfl⟩
  | @cons p q _ _ h _ ih =>
    by_cases e:p.1=k
    . exact .inr ⟨p.2,q.2,by simp [Zq,List.find?_cons,e],by simp [qj,List.find?_cons,h.1▸e],h.2⟩
    . have e':¬ q.1=k:=h.1▸e
      simpa [Zq,qj,List.find?_cons,e,e'] using ih
theorem RepK.any {kvs:List (Key×DV)} {xs:List (Key×V)} (r:RepK K ρ B H kvs xs) (k:Key):(kvs.any fun kv=>decide (kv.1=k))=xs.any fun kv=>decide (kv.1=k):=by
 induction r with
 | nil=>rfl
 | cons h _ ih=>simp only [List.any_cons,ih,h.1]
theorem RepK.repl {kvs:List (Key×DV)} {xs:List (Key×V)} (r:RepK K ρ B H kvs xs) (k:Key) {d:DV} {v:V} (rd:RepV K ρ B H d v):RepK K ρ B H (kvs.map fun kv=>if kv.1=k then (kv.1,d) else kv) (xs.map fun kv=>if kv.1=k then (kv.1,v) else kv):=by
  induction r with
  | nil=>exact .nil
  | @cons p q _ _ h _ ih =>
    refine .cons ?_ ih
    dsimp only
    by_cases e:p.1=k
    . rw [if_pos e,if_pos (h.1▸e)];exact ⟨h.1,rd⟩
    . rw [if_neg e,if_neg (h.1▸e)];exact h
theorem RepK.snoc {kvs:List (Key×DV)} {xs:List (Key×V)} (r:RepK K ρ B H kvs xs) {k:Key} {d:DV} {v:V} (rd:RepV K ρ B H d v):RepK K ρ B H (kvs++[(k,d)]) (xs++[(k,v)]):=by
 induction r with
 | nil=>exact .cons ⟨rfl,rd⟩ .nil
 | cons h _ ih=>exact .cons h ih
theorem RepK.put {kvs:List (Key×DV)} {xs:List (Key×V)} (r:RepK K ρ B H kvs xs) (k:Key) {d:DV} {v:V} (rd:RepV K ρ B H d v):RepK K ρ B H (J2 kvs k d) (zA xs k v):=by
 unfold J2 zA
 rw [r.any k]
 split
 ·exact r.repl k rd
 ·exact r.snoc rd
theorem RepK.len {kvs:List (Key×DV)} {xs:List (Key×V)} (r:RepK K ρ B H kvs xs):kvs.length=xs.length:=Paired.length r
theorem RepK.gs {ρ':List Addr} {B':Addr->Prop} {H':Hp} {kvs:List (Key×DV)} {xs:List (Key×V)} (g:Gs K ρ B H ρ' B' H') (r:RepK K ρ B H kvs xs):RepK K ρ' B' H' kvs xs:=L2.Paired.mapP r fun _ _ h=>⟨h.1,RepV.gs g _ _ h.2⟩
theorem ORep.dic {a:Addr} {kvs:List (Key×DV)} (h:ORep K ρ B H a (.dic kvs)):∃ xs,H a=some (.dK xs)/\RepK K ρ B H kvs xs:=by
 obtain ⟨xs,e,ek,rl⟩:=h
 exact ⟨xs,e,kL ek rl⟩
theorem RepK.orep {a:Addr} {kvs:List (Key×DV)} {xs:List (Key×V)} (r:RepK K ρ B H kvs xs) (e:H a=some (.dK xs)):ORep K ρ B H a (.dic kvs):=⟨xs,e,r.to.1,r.to.2⟩
theorem Qc8 {n:Nat} {a:Addr} {xs xs':List (Key×V)} {kvs':List (Key×DV)} (W:WOk K ρ B hp H) (i:ρ[n]?=some a) (e:H a=some (.dK xs)) (r:RepK K ρ B H kvs' xs'):Gr K ρ B H ρ B (upd H a (.dK xs'))/\WOk K ρ B (hp.set n (.dic kvs')) (upd H a (.dK xs')):=by
 have g:Gr K ρ B H ρ B (upd H a (.dK xs')):=Gr.wset i e
 exact ⟨g,W.wset (o':=.dK xs') (v:=.dic kvs') i e ((r.gs (g.gs W.rb)).orep Zm)⟩
theorem Um {n:Nat} {a:Addr} {o:HO} {xs':List V} {ds':List DV} (W:WOk K ρ B hp H) (i:ρ[n]?=some a) (e:H a=some o) (r:RepL K ρ B H ds' xs'):Gr K ρ B H ρ B (upd H a (.lst xs'))/\WOk K ρ B (hp.set n (.lst ds')) (upd H a (.lst xs')):=by
 have g:Gr K ρ B H ρ B (upd H a (.lst xs')):=Gr.wset i e
 exact ⟨g,W.wset (o':=.lst xs') (v:=.lst ds') i e ⟨xs',Zm,RepL.grow W.rb g _ _ r⟩⟩
end
section
variable {X:Cx} {e a b c:Expr} {f fa fb fc:DEx} {pos:Pos}
def zx (o:Option DV):M DV:=match o with
 | some d=>pure d
 | none=>failure
theorem yf {o:Option DV} {d:DV} {hp hp':Hs} (h:zx o hp=some (d,hp')):o=some d/\hp=hp':=by
 cases o with
 | none=>cases h
 | some z=>obtain ⟨rfl,rfl⟩:=Qi h;exact ⟨rfl,rfl⟩
def XH (d:DV):M Key:=match zh d with
 | some k=>pure k
 | none=>failure
theorem Y7 {d:DV} {k:Key} {hp hp':Hs} (h:XH d hp=some (k,hp')):zh d=some k/\hp=hp':=by
 unfold XH at h
 cases q:zh d with
 | none=>rw [q] at h;cases h
 | some z=>rw [q] at h;obtain ⟨rfl,rfl⟩:=Qi h;exact ⟨rfl,rfl⟩
def ixG:DV->DV->M DV
  | .ref n,y=>do
    match <- ZG n with
    | .lst ds=>do let i <- asI y;zx (atI ds i)
    | .dic kvs=>do let k <- XH y;zx (Zq kvs k)
    | _=>failure
  | x,y=>ixD x y
theorem Qhl (hu:X.A.units+1 < cLine):IxR X (tP2 X.K ixG):=by
  intro value slice pins s σ H x y v u Q I rx ry h hsub
  obtain ⟨ρ,B,hp,dx,dy,d,hp',W,r1,r2,e,k⟩:=h
  unfold ixG at e
  split at e
  . rename_i n
    obtain ⟨o,hp1,e1,e2⟩:=Qf e
    obtain ⟨e3,rfl⟩:=ZC e1
    obtain ⟨a,rfl,i1,ro⟩:=RepV.refW W r1 e3
    cases o with
    | ins _ _=>cases e2
    | dic kvs =>
      obtain ⟨ky,hp2,e4,e5⟩:=Qf e2
      obtain ⟨hk,rfl⟩:=Y7 e4
      obtain ⟨hv,rfl⟩:=yf e5
      obtain ⟨xs,h1,rk⟩:=ro.dic
      rcases rk.val ky with ⟨z,_⟩ | ⟨d',v',z,zv,rz⟩
      . rw [hv] at z;cases z
      . rw [hv] at z;cases z
        exact QdH hu value slice pins s σ H _ _ v u Q I rx ry ⟨a,xs,ky,v',rfl,zi hk r2,h1,zv,k _ ρ B H Gr.refl W rz⟩ hsub
    | lst ds =>
      obtain ⟨i,hp2,e4,e5⟩:=Qf e2
      obtain ⟨rfl,rfl⟩:=Vh e4
      obtain ⟨hv,rfl⟩:=yf e5
      obtain ⟨xs,h1,l1⟩:=ro
      obtain ⟨z,hz,rz⟩:=KQ l1 hv
      exact kn value slice pins s σ H _ _ v u Q I rx ry ⟨a,xs,i,z,rfl,r2.intI,SqL.of h1,hz,k _ ρ B H Gr.refl W rz⟩ hsub
  . exact Qhk value slice pins s σ H x y v u Q I rx ry ⟨ρ,B,hp,_,_,d,hp',W,r1,r2,e,k⟩ hsub
theorem QO (hu:X.A.units+1 < cLine) (ha:DE X a fa) (hb:DE X b fb) (hs:KJ b:=by intro _ _;rfl):DE X (.Subscript a b pos) (Qk ixG fa fb):=L2.PE.imp (Qe0 (Qhl hu) ha hb hs) fun _ _ _ h=>zk h
def JD:List DV->M DV
  | [.ref n]=>do
    match <- ZG n with
    | .lst ds=>pure (.int ds.length)
    | .dic kvs=>pure (.int kvs.length)
    | _=>failure
  | xs=>qG xs
theorem Xg:CallR X (.builtin "len") (tPn X.K JD):=by
  intro pins s σ H xs us Q I r h
  obtain ⟨ρ,B,hp,ds,d,hp',W,rl,e,k⟩:=h
  unfold JD at e
  split at e
  . rename_i n
    obtain ⟨o,hp1,e1,e2⟩:=Qf e
    obtain ⟨e3,rfl⟩:=ZC e1
    obtain ⟨v,rfl,rv⟩:=rl.oneI
    obtain ⟨a,rfl,_,ro⟩:=RepV.refW W rv e3
    cases o with
    | ins _ _=>cases e2
    | lst zs =>
      obtain ⟨rfl,rfl⟩:=Qi e2
      obtain ⟨ys,h1,l1⟩:=ro
      exact qy pins s σ H _ us Q I r ⟨a,ys,rfl,.inl (SqL.of h1),by rw [<- l1.length];exact k _ ρ B H Gr.refl W JC⟩
    | dic kvs =>
      obtain ⟨rfl,rfl⟩:=Qi e2
      obtain ⟨ys,h1,l1⟩:=ro.dic
      exact Qam pins s σ H _ us Q I r ⟨a,ys,rfl,h1,by rw [<- l1.len];exact k _ ρ B H Gr.refl W JC⟩
  . exact gF pins s σ H xs us Q I r ⟨ρ,B,hp,_,d,hp',W,rl,e,k⟩
def QcK:DV->M (List DV)
  | .tup ds=>pure ds
  | .lst ds=>pure ds
  | .ref n=>do
    match <- ZG n with
    | .lst ds=>pure ds
    | _=>failure
  | _=>failure
theorem vO {d:DV} {ds:List DV} {hp hp':Hs} {K:PySem.W.Frag} {ρ:List Addr} {B:Addr->Prop} {H:Hp} {v:V} (W:WOk K ρ B hp H) (r:RepV K ρ B H d v) (h:QcK d hp=some (ds,hp')):hp=hp'/\∃ p xs,v=.ref p/\(SqL K H p xs∨SqT K H p xs)/\RepL K ρ B H ds xs:=by
  cases d with
  | tup xs =>
    obtain ⟨rfl,rfl⟩:=Qi h
    obtain ⟨a,ys,rfl,_,sq,l⟩:=r.tupI
    exact ⟨rfl,a,ys,rfl,.inr sq,l⟩
  | lst xs =>
    obtain ⟨rfl,rfl⟩:=Qi h
    obtain ⟨a,ys,rfl,_,sq,l⟩:=r.lstI
    exact ⟨rfl,a,ys,rfl,.inl sq,l⟩
  | ref n =>
    obtain ⟨o,hp1,e1,e2⟩:=Qf (show (ZG n >>= fun o=>(match o with | .lst ds=>pure ds | _=>failure:M (List DV))) hp=some (ds,hp') from h)
    obtain ⟨e3,rfl⟩:=ZC e1
    cases o with
    | lst zs =>
      obtain ⟨rfl,rfl⟩:=Qi e2
      obtain ⟨a,rfl,_,ys,h1,l1⟩:=RepV.refW W r e3
      exact ⟨rfl,a,ys,rfl,.inl (SqL.of h1),l1⟩
    | dic _=>cases e2
    | ins _ _=>cases e2
  | non=>cases h
  | bl _=>cases h
  | int _=>cases h
  | str _=>cases h
def QaO (g:DV->M DV):List DV->M DV
 | [d]=>g d
 | _=>failure
def QfG:List DV->M DV:=QaO fun d=>do let ds <- QcK d;pure (.lst ds)
def Qg7:List DV->M DV:=QaO fun d=>do let ds <- QcK d;Xf (.lst ds)
theorem zT {g:DV->M DV} {ds:List DV} {d:DV} {hp hp':Hs} (h:QaO g ds hp=some (d,hp')):∃ x,ds=[x]/\g x hp=some (d,hp'):=by
 unfold QaO at h
 split at h
 ·exact ⟨_,rfl,h⟩
 ·cases h
theorem Qfd:CallR X (.type "list") (tPn X.K QfG):=by
 intro pins s σ H xs us Q I r h
 obtain ⟨ρ,B,hp,ds,d,hp',W,rl,e,k⟩:=h
 obtain ⟨x,rfl,e⟩:=zT e
 obtain ⟨zs,hp1,e1,e2⟩:=Qf e
 obtain ⟨rfl,rfl⟩:=Qi e2
 obtain ⟨v,rfl,rv⟩:=rl.oneI
 obtain ⟨rfl,p,ys,rfl,sq,l⟩:=vO W rv e1
 exact call_list_of pins s σ H _ us Q I r ⟨p,ys,rfl,sq,jR W l k⟩
theorem _root_.L2.CallR.kf {f:Value} {r:List V->Hp->VK->Prop} (h:CallR X f r):CallR X f (fun xs H Q=>r xs H fun v H'=>GQ X.K H'->Q v H'):=by
 intro pins s σ H xs us Q I rv q
 refine thn (h pins s σ H xs us _ I rv q) fun v s' ⟨x,H',I',rx,q'⟩=>⟨x,H',I',rx,q' (Inv.kfree I')⟩
theorem Qdm:CallR X (.type "list") (tPn X.K Qg7):=by
 intro pins s σ H xs us Q I r h
 obtain ⟨ρ,B,hp,ds,d,hp',W,rl,e,k⟩:=h
 obtain ⟨x,rfl,e⟩:=zT e
 obtain ⟨zs,hp1,e1,e2⟩:=Qf e
 obtain ⟨v,rfl,rv⟩:=rl.oneI
 obtain ⟨rfl,p,ys,rfl,sq,l⟩:=vO W rv e1
 cases e2
 exact call_list_of.kf pins s σ H _ us Q I r ⟨p,ys,rfl,sq,K9 W l k⟩
end
end D
namespace D
open PySem PySem.Spec PyProof.Rows L2
def drf:Nat->Hs->DV->Option DV
  | 0,_,_=>none
  | n+1,hp,d=>match d with
    | .ref i=>match hp[i]? with
      | some (.lst ds)=>(ds.mapM (drf n hp)).map .lst
      | _=>none
    | .tup ds=>(ds.mapM (drf n hp)).map .tup
    | .lst ds=>(ds.mapM (drf n hp)).map .lst
    | d=>some d
theorem VE {α β:Type} {f:α->Option β} {x:α} {xs:List α} {ys:List β} (h:(x::xs).mapM f=some ys):∃ y zs,f x=some y/\xs.mapM f=some zs/\ys=y::zs:=by
  rw [List.mapM_cons] at h
  cases q:f x with
  | none=>rw [q] at h;cases h
  | some y =>
    cases q2:xs.mapM f with
    | none=>rw [q,q2] at h;cases h
    | some zs=>rw [q,q2] at h;exact ⟨y,zs,rfl,rfl,(Option.some.inj h).symm⟩
section
variable {X:Cx} {pins:List (Addr×Obj)} {σ:St} {H:Hp} {s:Shared} {ρ:List Addr} {B:Addr->Prop} {hp:Hs}
theorem Y9 (I:Inv X pins σ H s) (W:WOk X.K ρ B hp H):∀ (n:Nat) (d d':DV) (v:V) (u:Value),drf n hp d=some d'->RepV X.K ρ B H d v->RelV v u->∃ as,Reads s.heap u (toP d') as
  | 0,_,_,_,_,h,_,_=>by cases h
  | n+1,d,d',v,u,h,r,ru=>by
    have all:∀ (ds ds':List DV) (xs:List V) (us:List Value),ds.mapM (drf n hp)=some ds'->RepL X.K ρ B H ds xs->Vals xs us->∃ as,ReadsAll s.heap us (toPs ds') as:=by
      intro ds
      induction ds with
      | nil =>
        intro ds' xs us h r ru
        rw [List.mapM_nil] at h;cases h
        unfold RepL at r;subst r;cases ru
        exact ⟨[],by unfold toPs;exact .nil⟩
      | cons x ds ih =>
        intro ds' xs us h r ru
        obtain ⟨y,zs,h1,h2,rfl⟩:=VE h
        unfold RepL at r
        obtain ⟨z,t,rfl,r1,r2⟩:=r
        cases ru with
        | cons q1 q2 =>
          obtain ⟨as,a1⟩:=Y9 I W n x y z _ h1 r1 q1
          obtain ⟨bs,a2⟩:=ih zs t _ h2 r2 q2
          exact ⟨_,by unfold toPs;exact .cons a1 a2⟩
    have lst:∀ (ds ds':List DV) (a:Addr) (xs:List V),ds.mapM (drf n hp)=some ds'->SqL X.K H a xs->RepL X.K ρ B H ds xs->∃ as,Reads s.heap (.ref a) (toP (.lst ds')) as:=by
      intro ds ds' a xs h sq rl
      obtain ⟨its,rv,⟨o,k,e,hc,_,hd⟩,_⟩:=I.list sq
      obtain ⟨as,q⟩:=all ds ds' xs its h rl rv
      exact ⟨_,by unfold toP;exact reads_list_at e hc hd (by simpa using q)⟩
    unfold drf at h
    cases d with
    | non=>cases h;obtain rfl:=r.nonI;cases ru;exact ⟨[],by unfold toP;exact .none⟩
    | bl b=>cases h;obtain rfl:=r.blI;cases ru;exact ⟨[],by unfold toP;exact .bool b⟩
    | int i=>cases h;obtain rfl:=r.intI;obtain ⟨t,rfl⟩:=ru;exact ⟨[],by unfold toP;exact .int i t⟩
    | str x=>cases h;obtain rfl:=r.strI;obtain ⟨t,rfl⟩:=ru;exact ⟨[],by unfold toP;exact .str x t⟩
    | tup ds =>
      obtain ⟨ds',h1,rfl⟩:=Option.map_eq_some_iff.mp h
      obtain ⟨a,xs,rfl,_,sq,rl⟩:=r.tupI
      cases ru
      obtain ⟨its,rv,⟨o,e,hc,k,hd⟩,_⟩:=I.tuple sq
      obtain ⟨as,q⟩:=all ds ds' xs its h1 rl rv
      exact ⟨_,by unfold toP;exact reads_tuple_at e hc hd (by simpa using q)⟩
    | lst ds =>
      obtain ⟨ds',h1,rfl⟩:=Option.map_eq_some_iff.mp h
      obtain ⟨a,xs,rfl,_,sq,rl⟩:=r.lstI
      cases ru
      exact lst ds ds' a xs h1 sq rl
    | ref i =>
      cases q:hp[i]? with
      | none=>simp only [q] at h;cases h
      | some o =>
        simp only [q] at h
        cases o with
        | dic _=>cases h
        | ins _ _=>cases h
        | lst ds =>
          obtain ⟨ds',h1,rfl⟩:=Option.map_eq_some_iff.mp h
          obtain ⟨a,rfl,_,xs,h2,l⟩:=RepV.refW W r q
          cases ru
          exact lst ds ds' a xs h1 (SqL.of h2) l
end
def Qat (d:DV):M DV:=fun hp=>(drf 40 hp d).map fun x=>(x,hp)
theorem U3 {d d':DV} {hp hp':Hs} (h:Qat d hp=some (d',hp')):drf 40 hp d=some d'/\hp=hp':=by
 obtain ⟨x,h1,h2⟩:=Option.map_eq_some_iff.mp h
 cases h2;exact ⟨h1,rfl⟩
def Uy (x y:DV):M Bool:=do
 let x' <- Qat x
 let y' <- Qat y
 Qv (SeqAt.shaped (toP x')&&SeqAt.shaped (toP y'))
 pure (PyData.eqv (toP x') (toP y'))
def eqG:DV->DV->M DV:=fun x y=>do let b <- Uy x y;pure (.bl b)
def neG:DV->DV->M DV:=fun x y=>do let b <- Uy x y;pure (.bl (!b))
section
variable {X:Cx} {e a b c:Expr} {f fa fb fc:DEx} {ca cb:DTx} {pos:Pos}
theorem U7 {x y:DV} {k:Bool} {hp hp':Hs} (h:Uy x y hp=some (k,hp')):∃ x' y',drf 40 hp x=some x'/\drf 40 hp y=some y'/\SeqAt.shaped (toP x')=true/\SeqAt.shaped (toP y')=true/\k=PyData.eqv (toP x') (toP y')/\hp=hp':=by
 obtain ⟨x',hp1,e1,h⟩:=Qf h
 obtain ⟨y',hp2,e2,h⟩:=Qf h
 obtain ⟨_,hp3,e3,h⟩:=Qf h
 obtain ⟨q1,rfl⟩:=U3 e1
 obtain ⟨q2,rfl⟩:=U3 e2
 obtain ⟨hs,rfl⟩:=QC e3
 obtain ⟨rfl,rfl⟩:=Qi h
 rw [Bool.and_eq_true] at hs
 exact ⟨x',y',q1,q2,hs.1,hs.2,rfl,rfl⟩
theorem jg (hu:X.A.units+64 < cLine):P2 X (compareOp .Eq) eqG:=by
 intro pins s σ H x y v u Q I rx ry h
 obtain ⟨ρ,B,hp,dx,dy,d,hp',W,r1,r2,e,k⟩:=h
 obtain ⟨b,hp1,e1,e2⟩:=Qf e
 obtain ⟨rfl,rfl⟩:=Qi e2
 obtain ⟨x',y',q1,q2,s1,s2,rfl,rfl⟩:=U7 e1
 obtain ⟨as,a1⟩:=Y9 I W _ _ _ _ _ q1 r1 rx
 obtain ⟨bs,a2⟩:=Y9 I W _ _ _ _ _ q2 r2 ry
 exact eq_dataH a1 a2 s1 s2 hu ⟨.bl _,H,I,rfl,k _ ρ B H Gr.refl W Jg⟩
theorem Qck (hu:X.A.units+64 < cLine):P2 X (compareOp .NotEq) neG:=by
 intro pins s σ H x y v u Q I rx ry h
 obtain ⟨ρ,B,hp,dx,dy,d,hp',W,r1,r2,e,k⟩:=h
 obtain ⟨b,hp1,e1,e2⟩:=Qf e
 obtain ⟨rfl,rfl⟩:=Qi e2
 obtain ⟨x',y',q1,q2,s1,s2,rfl,rfl⟩:=U7 e1
 obtain ⟨as,a1⟩:=Y9 I W _ _ _ _ _ q1 r1 rx
 obtain ⟨bs,a2⟩:=Y9 I W _ _ _ _ _ q2 r2 ry
 exact ne_dataH a1 a2 s1 s2 hu ⟨.bl _,H,I,rfl,k _ ρ B H Gr.refl W Jg⟩
def Xa:DV->Bool
 | .non=>true
 | .bl _=>true
 | .int _=>true
 | .str _=>true
 | _=>false
def eqF:DV->DV->Bool
 | .non,.non=>true
 | .bl a,.bl b=>a==b
 | .bl a,.int b=>(if a then 1 else 0)==b
 | .int a,.bl b=>a==(if b then 1 else 0)
 | .int a,.int b=>a==b
 | .str a,.str b=>a==b
 | _,_=>false
def vOf:DV->V
 | .non=>.non
 | .bl b=>.bl b
 | .int i=>.int i
 | .str x=>.str x
 | _=>.non
theorem kU {K:PySem.W.Frag} {ρ:List Addr} {B:Addr->Prop} {H:Hp} {d:DV} {v:V} (h:Xa d=true) (r:RepV K ρ B H d v):v=vOf d:=by
 cases d<;>simp [Xa] at h
 ·exact r.nonI
 ·exact r.blI
 ·exact r.intI
 ·exact r.strI
theorem ve {d:DV} (h:Xa d=true):Yz (vOf d)=true:=by cases d<;>simp [Xa] at h<;>rfl
theorem Qdv {d e:DV} (h:Xa d=true) (h':Xa e=true):eqV (vOf d) (vOf e)=eqF d e:=by cases d<;>simp [Xa] at h<;>cases e<;>simp [Xa] at h'<;>rfl
theorem kT {K:PySem.W.Frag} {ρ:List Addr} {B:Addr->Prop} {H:Hp}:∀ {ds:List DV} {xs:List V},ds.all Xa=true->RepL K ρ B H ds xs->xs=ds.map vOf
  | [],_,_,r=>by unfold RepL at r;exact r
  | d::ds,_,h,r=>by
    unfold RepL at r
    obtain ⟨x,t,rfl,r1,r2⟩:=r
    rw [List.all_cons,Bool.and_eq_true] at h
    rw [kU h.1 r1,kT h.2 r2];rfl
def inB (d:DV) (ds:List DV):Bool:=ds.any fun y=>eqF y d
theorem g9 {d:DV} (h:Xa d=true):∀ {ds:List DV},ds.all Xa=true->inV (vOf d) (ds.map vOf)=inB d ds
  | [],_=>rfl
  | x::ds,h'=>by
    rw [List.all_cons,Bool.and_eq_true] at h'
    have ih:=g9 h h'.2
    unfold inV inB at ih ⊢
    rw [List.map_cons,List.any_cons,List.any_cons,ih,Qdv h'.1 h]
theorem GR:∀ {ds:List DV},ds.all Xa=true->(ds.map vOf).all Yz=true
  | [],_=>rfl
  | x::ds,h=>by
    rw [List.all_cons,Bool.and_eq_true] at h
    rw [List.map_cons,List.all_cons,ve h.1,GR h.2];rfl
def Qg8 (x:DV):DV->M Bool
  | .ref n=>do
    match <- ZG n with
    | .lst ds=>do Qv (Xa x&&ds.all Xa);pure (inB x ds)
    | .dic kvs=>do let k <- XH x;pure (Zq kvs k).isSome
    | _=>failure
  | .tup ds=>do Qv (Xa x&&ds.all Xa);pure (inB x ds)
  | .lst ds=>do Qv (Xa x&&ds.all Xa);pure (inB x ds)
  | _=>failure
def inG:DV->DV->M DV:=fun x y=>do let b <- Qg8 x y;pure (.bl b)
theorem uN {x y:DV} {k:Bool} {hp hp':Hs} {K:PySem.W.Frag} {ρ:List Addr} {B:Addr->Prop} {H:Hp} {vx vy:V} (W:WOk K ρ B hp H) (r1:RepV K ρ B H x vx) (r2:RepV K ρ B H y vy) (h:Qg8 x y hp=some (k,hp')):hp=hp' /\
    ((∃ p xs,vy=.ref p/\(SqL K H p xs∨SqT K H p xs)/\Yz vx=true/\xs.all Yz=true/\k=inV vx xs)∨∃ a kvs ky,vy=.ref a/\vx=kV ky/\H a=some (.dK kvs)/\k=(qj kvs ky).isSome):=by
  have seq:∀ (ds:List DV) (xs:List V) (p:Addr),(do Qv (Xa x&&ds.all Xa);pure (inB x ds):M Bool) hp=some (k,hp')->RepL K ρ B H ds xs->(SqL K H p xs∨SqT K H p xs)->vy=.ref p->hp=hp'/\(∃ p xs,vy=.ref p/\(SqL K H p xs∨SqT K H p xs)/\Yz vx=true/\xs.all Yz=true/\k=inV vx xs):=by
    intro ds xs p h rl sq ev
    obtain ⟨_,hp1,e1,e2⟩:=Qf h
    obtain ⟨hs,rfl⟩:=QC e1
    obtain ⟨rfl,rfl⟩:=Qi e2
    rw [Bool.and_eq_true] at hs
    have ex:=kT hs.2 rl
    have e0:=kU hs.1 r1
    subst ex e0
    exact ⟨rfl,p,_,ev,sq,ve hs.1,GR hs.2,(g9 hs.1 hs.2).symm⟩
  cases y with
  | tup ds =>
    obtain ⟨a,xs,rfl,_,sq,rl⟩:=r2.tupI
    exact (seq ds xs a h rl (.inr sq) rfl).imp id .inl
  | lst ds =>
    obtain ⟨a,xs,rfl,_,sq,rl⟩:=r2.lstI
    exact (seq ds xs a h rl (.inl sq) rfl).imp id .inl
  | ref n =>
    obtain ⟨o,hp1,e1,e2⟩:=Qf h
    obtain ⟨e3,rfl⟩:=ZC e1
    obtain ⟨a,rfl,_,ro⟩:=RepV.refW W r2 e3
    cases o with
    | lst ds =>
      obtain ⟨xs,h1,rl⟩:=ro
      exact (seq ds xs a e2 rl (.inl (SqL.of h1)) rfl).imp id .inl
    | dic kvs =>
      obtain ⟨ky,hp2,e4,e5⟩:=Qf e2
      obtain ⟨hk,rfl⟩:=Y7 e4
      obtain ⟨rfl,rfl⟩:=Qi e5
      obtain ⟨xs,h1,rk⟩:=ro.dic
      refine ⟨rfl,.inr ⟨a,xs,ky,rfl,zi hk r1,h1,?_⟩⟩
      rcases rk.val ky with ⟨z1,z2⟩ | ⟨_,_,z1,z2,_⟩<;>rw [z1,z2]<;>rfl
    | ins _ _=>cases e2
  | non=>cases h
  | bl _=>cases h
  | int _=>cases h
  | str _=>cases h
theorem kE (hu:X.A.units+1 < cLine):P2 X (compareOp .In) inG:=by
 intro pins s σ H x y v u Q I rx ry h
 obtain ⟨ρ,B,hp,dx,dy,d,hp',W,r1,r2,e,k⟩:=h
 obtain ⟨b,hp1,e1,e2⟩:=Qf e
 obtain ⟨rfl,rfl⟩:=Qi e2
 obtain ⟨rfl,h⟩:=uN W r1 r2 e1
 have fin:=k _ ρ B H Gr.refl W (Jg (b:=b))
 rcases h with ⟨p,xs,rfl,sq,f1,f2,rfl⟩ | ⟨a,kvs,ky,rfl,rfl,h1,rfl⟩
 ·exact QaP pins s σ H _ _ v u Q I rx ry ⟨p,xs,rfl,sq,f1,f2,fin⟩
 ·exact uP hu pins s σ H _ _ v u Q I rx ry ⟨a,kvs,ky,rfl,rfl,h1,fin⟩
def yh (o i d:DV):M Unit:=match o with
  | .ref n=>do
    match <- ZG n with
    | .lst ds=>do
      let k <- asI i
      match ixN ds.length k with
      | some j=>xA n (.lst (ds.set j d))
      | none=>failure
    | .dic kvs=>do
      let k <- XH i
      Qv (decide (kvs.length < lim))
      xA n (.dic (J2 kvs k d))
    | _=>failure
  | _=>failure
def tP3 (K:PySem.W.Frag) (g:DV->DV->DV->M Unit):Qdf:=fun o i v H Q=>∃ ρ B hp dO di dv hp',WOk K ρ B hp H/\RepV K ρ B H dO o/\RepV K ρ B H di i/\RepV K ρ B H dv v/\g dO di dv hp=some ((),hp')/\∀ ρ' B' H',Gr K ρ B H ρ' B' H'->WOk K ρ' B' hp' H'->Q H'
theorem RepL.set {K:PySem.W.Frag} {ρ:List Addr} {B:Addr->Prop} {H:Hp} {d:DV} {x:V} (r:RepV K ρ B H d x):∀ {ds:List DV} {xs:List V} (i:Nat),RepL K ρ B H ds xs->RepL K ρ B H (ds.set i d) (xs.set i x)
  | [],_,i,h=>by unfold RepL at h;subst h;exact RepL.nil
  | _::ds,_,0,h=>by
    unfold RepL at h
    obtain ⟨y,t,rfl,_,h2⟩:=h
    exact RepL.cons r h2
  | _::ds,_,i+1,h=>by
    unfold RepL at h
    obtain ⟨y,t,rfl,h1,h2⟩:=h
    exact RepL.cons h1 (RepL.set r i h2)
theorem Qhm (hu:X.A.units+1 < cLine):Qde X (tP3 X.K yh):=by
  intro pins s σ H o i v ov iv u Q I ro ri rv h
  obtain ⟨ρ,B,hp,dO,di,dv,hp',W,r1,r2,r3,e,k⟩:=h
  cases dO with
  | ref n =>
    obtain ⟨ob,hp1,e1,e2⟩:=Qf e
    obtain ⟨e3,rfl⟩:=ZC e1
    obtain ⟨a,rfl,i1,rob⟩:=RepV.refW W r1 e3
    cases ob with
    | ins _ _=>cases e2
    | lst ds =>
      obtain ⟨j,hp2,e4,e5⟩:=Qf e2
      obtain ⟨rfl,rfl⟩:=Vh e4
      obtain ⟨xs,h1,l1⟩:=rob
      cases q:ixN ds.length j with
      | none=>simp only [q] at e5;cases e5
      | some m =>
        simp only [q] at e5
        cases e5
        obtain ⟨g,W'⟩:=Um W i1 h1 (RepL.set r3 m l1)
        exact QcN pins s σ H _ _ v ov iv u Q I ro ri rv ⟨a,xs,j,m,rfl,r2.intI,h1,by rw [<- l1.length];exact q,k ρ B _ g W'⟩
    | dic kvs =>
      obtain ⟨ky,hp2,e4,e5⟩:=Qf e2
      obtain ⟨hk,rfl⟩:=Y7 e4
      obtain ⟨_,hp3,e6,e7⟩:=Qf e5
      obtain ⟨hl,rfl⟩:=QC e6
      cases e7
      obtain ⟨xs,h1,rk⟩:=rob.dic
      obtain ⟨g,W'⟩:=Qc8 W i1 h1 (rk.put ky r3)
      exact QcM hu pins s σ H _ _ v ov iv u Q I ro ri rv ⟨a,xs,ky,rfl,zi hk r2,h1,by rw [<- rk.len];exact Nat.lt_of_lt_of_le (of_decide_eq_true hl) Gq,k ρ B _ g W'⟩
  | non=>cases e
  | bl _=>cases e
  | int _=>cases e
  | str _=>cases e
  | tup _=>cases e
  | lst _=>cases e
def gSb (f g:DEx):DGx:=fun d env=>do
 let o <- f env
 let i <- g env
 yh o i d
 pure env
theorem xU {o i:Expr} {fo fi:DEx} (hu:X.A.units+1 < cLine) (ho:DE X o fo) (hi:DE X i fi)
  (ha:∀ v,assign (.Subscript o i pos) X.env v=(do
   let ov <- holding [v] (eval o X.env)
   let iv <- holding [v,ov] (eval i X.env)
   standAt pos
   holding [v,ov,iv] (setItem ov iv v)
   release [v,ov,iv] []):=by intro _;rfl):PG X (.Subscript o i pos) (tDG X.K (gSb fo fi)):=by
 intro pins s σ H v u Q I r h
 refine Qf8 ho hi (Qhm hu) ha pins s σ H v u Q I r ?_
 obtain ⟨Z,env,ρ,B,hp,d,env',hp',S,rd,e,k⟩:=h
 obtain ⟨x,hp1,e1,e⟩:=Qf e
 obtain ⟨y,hp2,e2,e⟩:=Qf e
 obtain ⟨z,hp3,e3,e⟩:=Qf e
 obtain ⟨rfl,rfl⟩:=Qi e
 refine tD.run S e1 fun vx ρ1 B1 H1 g1 S1 r1=>tD.run S1 e2 fun vy ρ2 B2 H2 g2 S2 r2=>?_
 exact ⟨ρ2,B2,hp2,x,y,d,hp3,S2.wo,RepV.grow S1.wo.rb g2 _ _ r1,r2,RepV.grow S.wo.rb (g1.trans g2) _ _ rd,e3,fun ρ3 B3 H3 g3 W3=>k _ ρ3 B3 H3 ((g1.trans (g2.trans g3)).gs S.wo.rb) (S2.grow g3 W3)⟩
def XI:String->DV->M Unit
  | "list", .lst _=>pure ()
  | "str", .str _=>pure ()
  | T,.ref n=>do
    match <- ZG n with
    | .lst _=>Qv (T == "list")
    | .dic _=>Qv (T == "dict")
    | _=>failure
  | _,_=>failure
theorem QbW {T:String} {d:DV} {hp hp':Hs} {K:PySem.W.Frag} {ρ:List Addr} {B:Addr->Prop} {H:Hp} {v:V} {u:Unit} (W:WOk K ρ B hp H) (r:RepV K ρ B H d v) (h:XI T d hp=some (u,hp')):hp=hp'/\tyV K T v H:=by
  unfold XI at h
  split at h
  . obtain ⟨_,rfl⟩:=Qi h
    obtain ⟨a,xs,rfl,_,sq,_⟩:=r.lstI
    exact ⟨rfl,.inl ⟨rfl,xs,sq⟩⟩
  . obtain ⟨_,rfl⟩:=Qi h
    obtain rfl:=r.strI
    exact ⟨rfl,rfl⟩
  . obtain ⟨o,hp1,e1,e2⟩:=Qf h
    obtain ⟨e3,rfl⟩:=ZC e1
    obtain ⟨a,rfl,_,ro⟩:=RepV.refW W r e3
    cases o with
    | lst ds =>
      obtain ⟨hT,rfl⟩:=QC e2
      obtain ⟨xs,h1,_⟩:=ro
      exact ⟨rfl,.inl ⟨by simpa using hT,xs,SqL.of h1⟩⟩
    | dic kvs =>
      obtain ⟨hT,rfl⟩:=QC e2
      obtain ⟨xs,h1,_⟩:=ro
      exact ⟨rfl,.inr (.inr (.inl ⟨by simpa using hT,.inl ⟨xs,h1⟩⟩))⟩
    | ins _ _=>cases e2
  . cases h
def tPm (K:PySem.W.Frag) (m:DV->List DV->M DV):V->List V->Hp->VK->Prop:=fun x vs H Q=>∃ ρ B hp dx ds d hp',WOk K ρ B hp H/\RepV K ρ B H dx x/\RepL K ρ B H ds vs/\m dx ds hp=some (d,hp')/\Fol K ρ B H d hp' Q
def Jf (T:String) (m:DV->List DV->M DV) (f:DEx) (a:DAx):DEx:=fun env=>do
 let x <- f env
 XI T x
 let ds <- a env
 m x ds
theorem Yp {T id:String} {name:Str} {o:Expr} {es:List Expr} {fo:DEx} {fs:DAx} {m:DV->List DV->M DV} {apos cpos:Pos} (hm:MtR X id (tPm X.K m)) (pa:PlainAttrs T) (slot:Slot T name id) (hty:typeOf (.builtin id)=pure (.type "method_descriptor")) (ho:DE X o fo) (ha:DA X (e::es) fs)
  (hbase:attributeBase o name X.env (eval o X.env)=eval o X.env:=by rfl)
  (hfew:((backTo cpos (starEach (e::es) X.env)).all (fun x=>!x.1)&&(backToKw cpos (keywordEach [] X.env)).all (fun x=>x.1.isSome)
   && decide ((e::es).length+([]:List Keyword).length+(if ([]:List Keyword).isEmpty then 0 else 1) < 30))=true:=by rfl)
  (hline:(apos.endLine==cpos.line)=true:=by rfl) (hs:starEach (e::es) X.env=(false,eval e X.env)::starEach es X.env:=by rfl) (hplain:(backTo cpos (starEach es X.env)).any (·.1)=false:=by rfl) :
  DE X (.Call (.Attribute o name apos) (e::es) [] cpos) (Jf T m fo fs) :=
 L2.PE.imp (Qho pa slot hty hm ho ha hbase hfew hline hs hplain) fun σ H Q ⟨Z,env,ρ,B,hp,d,hp',S,e,k⟩=>by
  obtain ⟨x,hp1,e1,ea⟩:=Qf e
  obtain ⟨_,hp2,e2,eb⟩:=Qf ea
  obtain ⟨ds,hp3,e3,ec⟩:=Qf eb
  refine tD.run S e1 fun v ρ1 B1 H1 g1 S1 r1=>?_
  obtain ⟨z,ty⟩:=QbW S1.wo r1 e2
  rw [<- z] at e3
  exact ⟨ty,tDA.run S1 e3 fun vs ρ2 B2 H2 g2 S2 r2=>⟨ρ2,B2,hp3,x,ds,d,hp',S2.wo,RepV.grow S1.wo.rb g2 _ _ r1,r2,ec,k.after (g1.trans g2)⟩⟩
def onL (x:DV) (k:Nat->List DV->M DV):M DV:=match x with
  | .ref n=>do
    match <- ZG n with
    | .lst ds=>k n ds
    | _=>failure
  | _=>failure
def onD (x:DV) (k:Nat->List (Key×DV)->M DV):M DV:=match x with
  | .ref n=>do
    match <- ZG n with
    | .dic ds=>k n ds
    | _=>failure
  | _=>failure
theorem VI {x d:DV} {k:Nat->List DV->M DV} {hp hp':Hs} (h:onL x k hp=some (d,hp')):∃ n ds,x=.ref n/\hp[n]?=some (.lst ds)/\k n ds hp=some (d,hp'):=by
  cases x with
  | ref n =>
    obtain ⟨o,hp1,e1,e2⟩:=Qf h
    obtain ⟨e3,rfl⟩:=ZC e1
    cases o with
    | lst ds=>exact ⟨n,ds,rfl,e3,e2⟩
    | dic _=>cases e2
    | ins _ _=>cases e2
  | _=>cases h
theorem vB {x d:DV} {k:Nat->List (Key×DV)->M DV} {hp hp':Hs} (h:onD x k hp=some (d,hp')):∃ n ds,x=.ref n/\hp[n]?=some (.dic ds)/\k n ds hp=some (d,hp'):=by
  cases x with
  | ref n =>
    obtain ⟨o,hp1,e1,e2⟩:=Qf h
    obtain ⟨e3,rfl⟩:=ZC e1
    cases o with
    | dic ds=>exact ⟨n,ds,rfl,e3,e2⟩
    | lst _=>cases e2
    | ins _ _=>cases e2
  | _=>cases h
def Zh (x:DV):List DV->M DV
 | [d]=>onL x fun n ds=>do Qv (decide (ds.length < lim));xA n (.lst (ds++[d]));pure .non
 | _=>failure
theorem XL:MtR X "list.append" (tPm X.K Zh):=by
 intro pins s σ H x vs v us Q I rx rv h
 obtain ⟨ρ,B,hp,dx,es,d,hp',W,r1,r2,e,k⟩:=h
 unfold Zh at e
 split at e
 ·rename_i y
  obtain ⟨n,ds,rfl,h0,e⟩:=VI e
  obtain ⟨_,hp1,e1,e2⟩:=Qf e
  obtain ⟨hl,rfl⟩:=QC e1
  cases e2
  obtain ⟨a,rfl,i1,xs,h1,l1⟩:=RepV.refW W r1 h0
  obtain ⟨w,rfl,rw'⟩:=r2.oneI
  obtain ⟨g,W'⟩:=Um W i1 h1 (RepL.append l1 (RepL.one rw'))
  exact Kg pins s σ H _ _ v us Q I rx rv ⟨a,xs,w,rfl,rfl,h1,by rw [<- l1.length];exact Nat.lt_of_lt_of_le (of_decide_eq_true hl) Gq,k _ ρ B _ g W' qL⟩
 ·cases e
def X8 (x:DV):List DV->M DV
 | [.int i,d]=>onL x fun n ds=>do Qv (decide (ds.length < lim)&&Ub i);xA n (.lst (ds.take (Qg5 ds.length i)++d::ds.drop (Qg5 ds.length i)));pure .non
 | _=>failure
def xb (x:DV):List DV->M DV
  | [y]=>onD x fun n kvs=>do
    let k <- XH y
    let d <- zx (Zq kvs k)
    xA n (.dic (QeT kvs k))
    pure d
  | [y,z]=>onD x fun n kvs=>do
    let k <- XH y
    match Zq kvs k with
    | some d=>do xA n (.dic (QeT kvs k));pure d
    | none=>pure z
  | _=>failure
def XJ (x:DV):List DV->M DV
  | [y]=>onD x fun n kvs=>do
    let k <- XH y
    pure ((Zq kvs k).getD .non)
  | [y,z]=>onD x fun n kvs=>do
    let k <- XH y
    pure ((Zq kvs k).getD z)
  | _=>failure
theorem Qb4 (hu:X.A.units+1 < cLine):MtR X "dict.get" (tPm X.K XJ):=by
 intro pins s σ H x vs v us Q I rx rv h
 obtain ⟨ρ,B,hp,dx,es,d,hp',W,r1,r2,e,k⟩:=h
 unfold XJ at e
 split at e
 ·rename_i y
  obtain ⟨n,kvs,rfl,h0,e⟩:=vB e
  obtain ⟨ky,hp1,e1,e⟩:=Qf e
  obtain ⟨hk,rfl⟩:=Y7 e1
  obtain ⟨rfl,rfl⟩:=Qi e
  obtain ⟨a,rfl,i1,ro⟩:=RepV.refW W r1 h0
  obtain ⟨xs,h1,rk⟩:=ro.dic
  obtain ⟨w,rfl,rw'⟩:=r2.oneI
  obtain rfl:=zi hk rw'
  refine kz hu pins s σ H _ _ v us Q I rx rv ⟨a,xs,ky,rfl,h1,.inl ⟨rfl,k _ ρ B H Gr.refl W ?_⟩⟩
  rcases rk.val ky with ⟨z1,zv⟩ | ⟨d'',v',z1,zv,rz⟩<;>rw [z1,zv]
  ·exact qL
  ·exact rz
 ·rename_i y z
  obtain ⟨n,kvs,rfl,h0,e⟩:=vB e
  obtain ⟨ky,hp1,e1,e⟩:=Qf e
  obtain ⟨hk,rfl⟩:=Y7 e1
  obtain ⟨rfl,rfl⟩:=Qi e
  obtain ⟨a,rfl,i1,ro⟩:=RepV.refW W r1 h0
  obtain ⟨xs,h1,rk⟩:=ro.dic
  unfold RepL at r2
  obtain ⟨w,t,rfl,rw',r2⟩:=r2
  obtain rfl:=zi hk rw'
  obtain ⟨w2,rfl,rw2⟩:=r2.oneI
  refine kz hu pins s σ H _ _ v us Q I rx rv ⟨a,xs,ky,rfl,h1,.inr ⟨w2,rfl,k _ ρ B H Gr.refl W ?_⟩⟩
  rcases rk.val ky with ⟨z1,zv⟩ | ⟨d'',v',z1,zv,rz⟩<;>rw [z1,zv]
  ·exact rw2
  ·exact rz
 ·cases e
end
end D
namespace L2
open PySem PySem.Spec PyProof.Rows
theorem Inv.kfresh {X:Cx} {pins:List (Addr×Obj)} {σ:St} {H:Hp} {s:Shared} (I:Inv X pins σ H s):X.K.lookup s.heap.objs.size=none:=by
 cases q:X.K.lookup s.heap.objs.size with
 | none=>rfl
 | some o=>exact absurd (Heap.lt_size (I.kIn _ o q)) (Nat.lt_irrefl _)
theorem QaT {X:Cx} {pos:Pos}:PE X (.Dict [] [] pos) (fun _ H Q=>∀ p,H p=none->X.K.lookup p=none->Q (.ref p) (upd H p (.dK []))):=fun pins s σ H Q I h =>
 wpAny_Dict_empty ⟨.ref s.heap.objs.size,_,I.laid (a:=s.heap.objs.size) (o:=.dK []) (t':=s.toks) (fun _ _ q=>Heap.get?_push_of_some _ q) (Nat.le_refl _) (Qbu s.heap I.big),rfl,h _ (I.hok.fresh (Nat.le_refl _)) I.kfresh⟩
end L2
namespace D
open PySem PySem.Spec PyProof.Rows L2
section
variable {X:Cx} {e a b c:Expr} {f fa fb fc:DEx} {ca cb:DTx} {pos:Pos}
def evP:List (DEx×DEx)->En->M (List (Key×DV))
  | [],_=>pure []
  | (f,g)::r,env=>do
    let x <- f env
    let k <- XH x
    let y <- g env
    let ps <- evP r env
    pure ((k,y)::ps)
def QfH (kvs more:List (Key×DV)):List (Key×DV):=more.foldl (fun acc kv=>J2 acc kv.1 kv.2) kvs
def jQ (ps:List (DEx×DEx)):DEx:=fun env=>do
 let kvs <- evP ps env
 Qv (decide (kvs.length<=15))
 Xf (.dic (QfH [] kvs))
def Xj:DEx:=fun _=>Xf (.dic [])
theorem G7:DE X (.Dict [] [] pos) Xj:=L2.PE.imp QaT fun σ H Q ⟨Z,env,ρ,B,hp,d,hp',S,e,k⟩=>by
 cases e
 intro p hn hk
 have g:Gr X.K ρ B H (ρ++[p]) (yQ B p) (upd H p (.dK [])):=Gr.wnew hn hk
 refine k _ _ _ _ g (S.wo.wnew hn hk (RepK.orep (xs:=[]) .nil Zm)) ?_
 unfold RepV
 exact ⟨p,rfl,by rw [<- S.wo.len];simp⟩
abbrev NX:=Nat->M (Option DV)
def gA (K:PySem.W.Frag) (ρ:List Addr) (B:Addr->Prop) (H:Hp) (nxt:NX) (J:It):Prop :=
  ∀ ρ1 B1 hp1 H1, Gs K ρ B H ρ1 B1 H1 -> WOk K ρ1 B1 hp1 H1 -> ∀ (i : Nat) (o : Option DV) (hp2 : Hs), nxt i hp1 = some (o, hp2) -> hp2 = hp1 /\ match o with
    | none=>J.stop i H1
    | some d=>J.go i H1/\∀ x H',J.yld i H1 x H'->RepV K ρ1 B1 H' d x/\(H'=H1∨∃ p o,H1 p=none/\H'=upd H1 p o)
abbrev DXx:=En->M NX
def tDX (K:PySem.W.Frag) (f:DXx):TI:=fun σ H R=>∃ Z env ρ B hp nxt hp',SOk K Z env σ ρ B hp H/\f env hp=some (nxt,hp')/\∀ J ρ' B' H',Gr K ρ B H ρ' B' H'->WOk K ρ' B' hp' H'->gA K ρ' B' H' nxt J->R J H'
def DX (X:Cx) (tg iter:Expr) (f:DXx):Prop:=PI X tg iter (tDX X.K f)
def nxD (ds:List DV):NX:=fun i=>if i<=ds.length then pure ds[i]? else failure
def nxW (n:Nat):NX:=fun i=>do
 match <- ZG n with
 | .lst ds=>pure ds[i]?
 | _=>failure
theorem uO {K:PySem.W.Frag} {ρ:List Addr} {B:Addr->Prop} {H:Hp} {ds:List DV} {J:It} (h:Qac K ρ B H ds J):gA K ρ B H (nxD ds) J:=fun ρ1 B1 hp1 H1 g W i o hp2 e=>by
  unfold nxD at e
  by_cases hi:i<=ds.length
  . rw [if_pos hi] at e
    obtain ⟨rfl,rfl⟩:=Qi e
    obtain ⟨h1,h2⟩:=h ρ1 B1 H1 g W.rb W.bt
    refine ⟨rfl,?_⟩
    cases q:ds[i]? with
    | none =>
      have:i=ds.length:=by have:=List.getElem?_eq_none_iff.mp q;omega
      subst this
      exact h2
    | some d=>exact h1 i d q
  . rw [if_neg hi] at e;cases e
theorem QfJ {K:PySem.W.Frag} {ρ:List Addr} {B:Addr->Prop} {H:Hp} {n:Nat} {a:Addr} (ha:ρ[n]?=some a) (kf:∀ H1:Hp,∀ xs ys,H1 a=some (.lst xs)->SqL K H1 a ys->ys=xs):gA K ρ B H (nxW n) (Itl K a):=fun ρ1 B1 hp1 H1 g W i o hp2 e=>by
  obtain ⟨ob,hp3,e1,e2⟩:=Qf e
  obtain ⟨e3,rfl⟩:=ZC e1
  have ha1:=kI g.pre ha
  cases ob with
  | dic _=>cases e2
  | ins _ _=>cases e2
  | lst ds =>
    obtain ⟨rfl,rfl⟩:=Qi e2
    obtain ⟨xs,h1,l1⟩:=W.obj n a _ ha1 e3
    refine ⟨rfl,?_⟩
    cases q:ds[i]? with
    | none=>exact ⟨xs,SqL.of h1,by rw [<- l1.length];exact List.getElem?_eq_none_iff.mp q⟩
    | some d =>
      obtain ⟨x,hx,rx⟩:=l1.get q
      refine ⟨⟨xs,x,SqL.of h1,hx⟩,fun y H' ⟨eH,hy⟩=>?_⟩
      subst eH
      have:=hy xs (SqL.of h1)
      rw [hx] at this;cases this
      exact ⟨rx,.inl rfl⟩
theorem QcU {K:PySem.W.Frag} {a:Addr} (hk:K.lookup a=none) (H:Hp) (xs ys:List V) (h:H a=some (.lst xs)) (h':SqL K H a ys):ys=xs:=by
 rcases h' with (h' | ⟨o,h'⟩) | ⟨o,_,_,h',_⟩
 ·rw [h] at h';cases h';rfl
 ·rw [h] at h';cases h'
 ·rw [hk] at h';cases h'
def xOf (f:DIx):DXx:=fun env=>do let ds <- f env;pure (nxD ds)
def xLs (f:DEx):DXx:=fun env=>do
  match <- f env with
  | .lst ds=>pure (nxD ds)
  | .ref n=>do
    match <- ZG n with
    | .lst _=>pure (nxW n)
    | _=>failure
  | _=>failure
variable {tg iter:Expr}
theorem U5 {g:DIx} (h:DI X tg iter g):DX X tg iter (xOf g):=L2.PI.imp h fun σ H R ⟨Z,env,ρ,B,hp,nxt,hp',S,e,k⟩=>by
 obtain ⟨ds,hp1,e1,e2⟩:=Qf e
 obtain ⟨rfl,rfl⟩:=Qi e2
 exact ⟨Z,env,ρ,B,hp,ds,hp1,S,e1,fun J ρ' B' H' g W it=>k J ρ' B' H' g W (uO it)⟩
theorem qz (h:DE X iter f):DX X tg iter (xLs f):=L2.PI.imp (Qd6 (L2.PE.kf h)) fun σ H R ⟨Z,env,ρ,B,hp,nxt,hp',S,e,k⟩=>by
  obtain ⟨d,hp1,e1,e2⟩:=Qf e
  refine tD.run S e1 fun v ρ1 B1 H1 g1 S1 r1 kf=>?_
  cases d with
  | lst ds =>
    obtain ⟨rfl,rfl⟩:=Qi e2
    obtain ⟨a,xs,rfl,nb,sq,rl⟩:=r1.lstI
    exact ⟨a,rfl,⟨xs,sq⟩,k _ ρ1 B1 H1 g1 S1.wo (uO (QdF nb sq rl))⟩
  | ref n =>
    obtain ⟨o,hp2,e3,e4⟩:=Qf (show (ZG n >>= fun o=>(match o with | .lst _=>pure (nxW n) | _=>failure:M NX)) hp1=some (nxt,hp') from e2)
    obtain ⟨e5,e6⟩:=ZC e3
    cases o with
    | lst ds =>
      obtain ⟨rfl,z⟩:=Qi e4
      rw [<- z,<- e6] at k
      obtain ⟨a,rfl,i1,xs,h1,_⟩:=RepV.refW S1.wo r1 e5
      exact ⟨a,rfl,⟨xs,SqL.of h1⟩,k _ ρ1 B1 H1 g1 S1.wo (QfJ i1 (QcU (kf a _ h1)))⟩
    | dic _=>cases e4
    | ins _ _=>cases e4
  | non=>cases e2
  | bl _=>cases e2
  | int _=>cases e2
  | str _=>cases e2
  | tup _=>cases e2
def qB (nxt:NX) (b:DV->DSx):Nat->Nat->DSx
  | 0,_,_=>failure
  | m+1,i,env=>do
    match <- nxt i with
    | none=>pure (.nx,env)
    | some d=>do
      let r <- b d env
      match r.1 with
      | .nx=>qB nxt b m (i+1) r.2
      | .ct=>qB nxt b m (i+1) r.2
      | .bk=>pure (.nx,r.2)
      | .rt x=>pure (.rt x,r.2)
def YE (f:DXx) (g:DGx) (body:DSx):DSx:=fun env=>do let nxt <- f env;qB nxt (fun d env=>do let env' <- g d env;body env') 100000 0 env
theorem zQ {body:List Stmt} {fi:DXx} {g:DGx} {sb:DSx} (hp:PassesOwn (model X.prog X.w) X.A X.env X.xe) (hc:X.calm=true) (hi:DX X tg iter fi) (hg:PG X tg (tDG X.K g)) (hb:DSs X body sb)
    (hs:∀ x,foldedSetIterable iter X.env x=pure x:=by intro _;rfl):DS X (.For tg iter body [] pos) (YE fi g sb) :=
  (Qge hp hc hi hg hb hs).imp fun D σ H ⟨Z,env,ρ,B,hp,fl,env',hp',S,e,k⟩=>by
    obtain ⟨nxt,hp1,e1,e2⟩:=Qf e
    refine ⟨Z,env,ρ,B,hp,nxt,hp1,S,e1,fun J ρ1 B1 H1 g1 W1 it=>?_⟩
    have k1:=k.after (g1.gs S.wo.rb)
    refine ⟨fun i m σ H=>∃ env ρ B hp,SOk X.K Z env σ ρ B hp H/\Gs X.K ρ1 B1 H1 ρ B H/\qB nxt (fun d env=>do let env' <- g d env;sb env') m i env hp=some ((fl,env'),hp'),
      ⟨100000,env,ρ1,B1,hp1,S.grow g1 W1,Gs.refl,e2⟩,?_⟩
    rintro i m σ H ⟨env2,ρ2,B2,hp2,S2,g2,e3⟩
    cases m with
    | zero=>cases e3
    | succ m =>
      obtain ⟨o,hpo,eo,e3⟩:=Qf e3
      obtain ⟨rfl,ito⟩:=it ρ2 B2 hp2 H g2 S2.wo i o hpo eo
      cases o with
      | none =>
        obtain ⟨z,rfl⟩:=Qi e3;cases z
        exact .inl ⟨ito,k1 σ ρ2 B2 H g2 S2⟩
      | some d =>
        obtain ⟨go,yl⟩:=ito
        obtain ⟨⟨f1,env4⟩,hp4,e4,e5⟩:=Qf e3
        obtain ⟨env3,hp3,e6,e7⟩:=Qf e4
        refine .inr ⟨go,fun σ' H'=>∃ env ρ B hp,SOk X.K Z env σ' ρ B hp H'/\Gs X.K ρ1 B1 H1 ρ B H'/\qB nxt (fun d env=>do let env' <- g d env;sb env') m (i+1) env hp=some ((fl,env'),hp'),
          fun σ' H' q=>⟨m,Nat.lt_succ_self m,q⟩,fun x H' y=>?_⟩
        obtain ⟨rx,hx⟩:=yl x H' y
        have S3:SOk X.K Z env2 σ ρ2 B2 hpo H'/\Gs X.K ρ2 B2 H ρ2 B2 H':=by
          rcases hx with rfl | ⟨p,o,hn,rfl⟩
          . exact ⟨S2,Gs.refl⟩
          . exact ⟨S2.grow (Gr.laid hn) (S2.wo.laid hn),gw S2.wo.rb hn⟩
        refine ⟨Z,env2,ρ2,B2,hpo,d,env3,hp3,S3.1,rx,e6,fun σ5 ρ5 B5 H5 g5 S5=>⟨Z,env3,ρ5,B5,hp3,f1,env4,hp4,S5,e7,fun σ6 ρ6 B6 H6 g6 S6=>?_⟩⟩
        have G6:=g2.trans (S3.2.trans (g5.trans g6))
        cases f1 with
        | nx=>exact ⟨env4,ρ6,B6,hp4,S6,G6,e5⟩
        | ct=>exact ⟨env4,ρ6,B6,hp4,S6,G6,e5⟩
        | bk=>obtain ⟨z,rfl⟩:=Qi e5;cases z;exact k1 σ6 ρ6 B6 H6 G6 S6
        | rt d=>obtain ⟨z,rfl⟩:=Qi e5;cases z;exact k1 σ6 ρ6 B6 H6 G6 S6
def Z9 (nxt:NX) (g:DV->M Bool) (f:DV->M DV):Nat->Nat->M (List DV)
  | 0,_=>failure
  | m+1,i=>do
    match <- nxt i with
    | none=>pure []
    | some d=>do
      if <- g d then
        let y <- f d
        let ys <- Z9 nxt g f m (i+1)
        pure (y::ys)
      else Z9 nxt g f m (i+1)
def Je (nw:Bool) (src:DXx) (idx:List Nat) (t:DTx) (f:DEx):DEx:=fun env=>do
 let nxt <- src env
 let out <- Z9 nxt (fun d=>t (cE idx env d)) (fun d=>f (cE idx env d)) lim 0
 if nw then Xf (.lst out) else pure (.lst out)
variable {elt:Expr} {x:Str} {px:Pos} {ifs:List Expr} {scope:Scope} {cl:List (Str×Addr)} {caps:List Str} {idx:List Nat} {src:DXx} {te:DTx} {nw:Bool}
theorem Vs {K:PySem.W.Frag} {σ:St} {H:Hp} {Q:VK} (h:tD K (Je nw src idx te f) σ H Q):kS K (tDX K src) (tDT K te) (tD K f) idx σ H Q:=by
  obtain ⟨Z,env,ρ,B,hp,d,hp',S,e,k⟩:=h
  obtain ⟨nxt,hp1,e1,e2⟩:=Qf e
  obtain ⟨out,hp3,e5,e6⟩:=Qf e2
  refine ⟨Z,env,ρ,B,hp,nxt,hp1,S,e1,fun J ρ1 B1 H1 g1 W1 it D hD hK=>?_⟩
  have g1s:=g1.gs S.wo.rb
  refine ⟨fun i m ys H2=>H2 D=some (.lst ys)/\i+m=lim/\∃ ρ2 B2 hp2 don rst,Gr K ρ1 B1 H1 ρ2 B2 H2/\WOk K ρ2 B2 hp2 H2/\B2 D/\D∉ρ2/\RepL K ρ2 B2 H2 don ys/\don.length<=i /\
    Z9 nxt (fun d=>te (cE idx env d)) (fun d=>f (cE idx env d)) m i hp2=some (rst,hp3)/\don++rst=out,?_,?_⟩
  . exact ⟨lim,Zm,Nat.zero_add _,ρ1,yQ B1 D,hp1,[],out,Gr.banned hD hK,W1.banned hD hK,.inr rfl,fun z=>W1.bt D (W1.rb D z) hD,RepL.nil,Nat.le_refl _,e5,rfl⟩
  . rintro i m ys H2 ⟨hDs,him,ρ2,B2,hp2,don,rst,g2,W2,bD,nD,rd,dn,e7,e8⟩
    refine ⟨hDs,?_⟩
    cases m with
    | zero=>cases e7
    | succ m =>
      obtain ⟨o,hpo,eo,e7⟩:=Qf e7
      obtain ⟨rfl,ito⟩:=it ρ2 B2 hp2 H2 (g2.gs W1.rb) W2 i o hpo eo
      cases o with
      | some d0 =>
        obtain ⟨go,yl⟩:=ito
        obtain ⟨b,hp4,e9,e10⟩:=Qf e7
        refine .inr ⟨go,fun x H3 y=>?_⟩
        obtain ⟨rx,hx⟩:=yl x H3 y
        have S3:Gr K ρ2 B2 H2 ρ2 B2 H3/\WOk K ρ2 B2 hpo H3:=by
          rcases hx with rfl | ⟨p,o,hn,rfl⟩
          . exact ⟨Gr.refl,W2⟩
          . exact ⟨Gr.laid hn,W2.laid hn⟩
        have g3:=g2.trans S3.1
        have C3:=cσ_ok (idx:=idx) S (g1s.trans (g3.gs W1.rb)) S3.2 rx
        refine tDT.run C3 e9 fun ρ4 B4 H4 g4 S4=>?_
        have hD4:H4 D=some (.lst ys):=g4.keep D _ nD (S3.1.keep D _ nD hDs)
        have nD4:D∉ρ4:=fun z=>(g4.rnew D z).elim nD fun q=>by rw [S3.1.keep D _ nD hDs] at q;cases q
        cases b with
        | false =>
          exact vn ⟨m,Nat.lt_succ_self m,hD4,by omega,ρ4,B4,hp4,don,rst,g3.trans g4,S4.wo,g4.ban D bD,nD4,RepL.grow W2.rb (S3.1.trans g4) _ _ rd,by omega,e10,e8⟩
        | true =>
          obtain ⟨z,hp5,e11,e12⟩:=Qf e10
          obtain ⟨zs,hp6,e13,e14⟩:=Qf e12
          obtain ⟨rfl,rfl⟩:=Qi e14
          refine vo (tD.run S4 e11 fun v ρ5 B5 H5 g5 S5 r5=>?_)
          have hD5:H5 D=some (.lst ys):=g5.keep D _ nD4 hD4
          have nD5:D∉ρ5:=fun z=>(g5.rnew D z).elim nD4 fun q=>by rw [hD4] at q;cases q
          have bD5:B5 D:=g5.ban D (g4.ban D bD)
          have G5:=g3.trans (g4.trans g5)
          have rd5:=RepL.grow W2.rb (S3.1.trans (g4.trans g5)) _ _ rd
          have trk:∀ b,(upd H5 D (.lst (ys++[v]))) b=none->H5 b=none:=fun b q=>by
            by_cases e:b=D
            . subst e;rw [Zm] at q;cases q
            . rw [Q4 e] at q;exact q
          have g6:Gs K ρ5 B5 H5 ρ5 B5 (upd H5 D (.lst (ys++[v]))):=⟨List.prefix_rfl,fun _ h=>.inl h,fun b o nb h=>by rw [Q4 (show b≠D from fun z=>nb (by rw [z];exact bD5))];exact h,trk⟩
          refine ⟨hD5,?_,m,Nat.lt_succ_self m,Zm,by omega,ρ5,B5,hp5,don++[z],zs,?_,?_,bD5,nD5,RepL.gs g6 _ _ (RepL.append rd5 (RepL.one r5)),by simp;omega,e13,by rw [<- e8];simp⟩
          . have h1:=rd5.length
            have h2:lim < sizeLine:=by decide
            omega
          . exact ⟨G5.pre,G5.ban,G5.new,G5.rnew,fun b o nb h=>by rw [Q4 (show b≠D from fun q=>by rw [q,hD] at h;cases h)];exact G5.keep b o nb h,fun b q=>G5.trk b (trk b q)⟩
          . exact ⟨S5.wo.len,S5.wo.nd,fun j b o q1 q2=>ORep.gs g6 (Q4 (show b≠D from fun z=>nD5 (by rw [<- z];exact List.mem_of_getElem? q1))) (S5.wo.obj j b o q1 q2),S5.wo.rb,fun b z q=>S5.wo.bt b z (trk b q),S5.wo.bk⟩
      | none =>
        obtain ⟨z,z'⟩:=Qi e7
        subst z
        subst z'
        refine .inl ⟨ito,?_⟩
        rw [List.append_nil] at e8
        subst e8
        cases nw with
        | false =>
          obtain ⟨rfl,rfl⟩:=Qi (show (pure (.lst don):M DV) hpo=some (d,hp') from e6)
          have gU:Gs K ρ2 B2 H2 ρ2 (fun b=>B2 b/\b≠D) H2:=⟨List.prefix_rfl,fun _ h=>.inl h.1,fun _ _ _ h=>h,fun _ h=>h⟩
          refine k (.ref D) ρ2 (fun b=>B2 b/\b≠D) H2 (g1.trans ⟨g2.pre,fun b z=>⟨g2.ban b z,fun q=>W1.bt b z (q▸hD)⟩,fun b z=>g2.new b z.1,g2.rnew,g2.keep,g2.trk⟩)
            ⟨W2.len,W2.nd,fun j b o q1 q2=>ORep.gs gU rfl (W2.obj j b o q1 q2),fun b z=>⟨W2.rb b z,fun q=>nD (q▸z)⟩,fun b z=>W2.bt b z.1,fun b z=>W2.bk b z.1⟩ (Gw (fun z=>z.2 rfl) (SqL.of hDs) (RepL.gs gU _ _ rd))
        | true =>
          cases (show some (DV.ref hpo.length,hpo++[OV.lst don])=some (d,hp') from e6)
          have gU:Gs K ρ2 B2 H2 (ρ2++[D]) B2 H2:=⟨List.prefix_append _ _,fun _ h=>.inl h,fun _ _ _ h=>h,fun _ h=>h⟩
          refine k (.ref D) (ρ2++[D]) B2 H2 (g1.trans ⟨g2.pre.trans (List.prefix_append _ _),g2.ban,g2.new,fun a z=>(List.mem_append.mp z).elim (g2.rnew a) fun q=>.inr (by rw [List.mem_singleton.mp q];exact hD),g2.keep,g2.trk⟩)
            ⟨by simp [W2.len],List.nodup_append.mpr ⟨W2.nd,by simp,fun a ha b hb=>by rw [List.mem_singleton.mp hb];exact fun z=>nD (z▸ha)⟩,fun j b o q1 q2=>?_,fun b z=>(List.mem_append.mp z).elim (W2.rb b) fun q=>by rw [List.mem_singleton.mp q];exact bD,W2.bt,W2.bk⟩ ?_
          . by_cases hi:j < ρ2.length
            . rw [List.getElem?_append_left hi] at q1
              rw [List.getElem?_append_left (by rw [<- W2.len];exact hi)] at q2
              exact ORep.gs gU rfl (W2.obj j b o q1 q2)
            . rw [List.getElem?_append_right (by omega)] at q1
              rw [List.getElem?_append_right (by rw [<- W2.len];omega)] at q2
              have hi0:j - ρ2.length=0:=by
                have:=(List.getElem?_eq_some_iff.mp q1).1
                simp at this;omega
              rw [hi0] at q1
              rw [<- W2.len,hi0] at q2
              simp at q1 q2
              subst q1 q2
              exact ⟨ys,hDs,RepL.gs gU _ _ rd⟩
          . unfold RepV
            exact ⟨D,rfl,by rw [<- W2.len];simp⟩
theorem Yo (S:GO X x scope cl caps idx) (hc:X.calm=true) (hi:DX X (.Name x px) iter src)
  (ht:∀ C s₀ H₀ ex,DTs (XT X scope cl C (x::caps) s₀ H₀ ex) ifs te) (he:∀ C s₀ H₀ ex,DE (XT X scope cl C (x::caps) s₀ H₀ ex) elt f)
  (hs:∀ x,foldedSetIterable iter X.env x=pure x:=by intro _;rfl):DE X (.ListComp elt [⟨.Name x px,iter,ifs,0⟩] scope pos) (Je nw src idx te f) :=
 L2.PE.imp (QdZ (tt:=tDT X.K te) (te:=tD X.K f) S hc hi ht he hs) fun _ _ _ h=>Vs h
theorem Qbw (i:Nat) {y:Str} {py spos:Pos} (hN:X.N.Nodup) (S:GO X x scope cl caps idx) (hc:X.calm=true) (hi:DX X (.Name x px) iter src)
  (ht:∀ C s₀ H₀ ex,DTs (XT X scope cl C (x::caps) s₀ H₀ ex) ifs te) (he:∀ C s₀ H₀ ex,DE (XT X scope cl C (x::caps) s₀ H₀ ex) elt f)
  (hy:X.N[i]?=some y:=by rfl) (hx:Loc X.env.scope y:=by first | exact Or.inl rfl | exact Or.inr rfl)
  (hsw:swapsWith (.ListComp elt [⟨.Name x px,iter,ifs,0⟩] scope pos) (some (.Name y py)) spos.line X.env=pure true:=by with_unfolding_all rfl)
  (hf:X.fn y=true∨X.env.scope.names.lookup y=some .local:=by first | exact .inl rfl | exact .inr rfl | assumption)
  (hs:∀ x,foldedSetIterable iter X.env x=pure x:=by intro _;rfl):DS X (.Assign [.Name y py] (.ListComp elt [⟨.Name x px,iter,ifs,0⟩] scope pos) spos) (QM i (Je nw src idx te f)) :=
 L2.PS.imp (Qed (tt:=tDT X.K te) (te:=tD X.K f) S hc hi ht he hN hy hx hsw hf hs) fun _ _ _ h=>vK (fun _ _ _ q=>Vs q) h
end
end D
namespace D
open PySem PySem.Spec PyProof.Rows L2
def WP {α:Type} (m:M α) (hp:Hs) (Q:α->Hs->Prop):Prop:=∃ x hp',m hp=some (x,hp')/\Q x hp'
section
variable {α β:Type} {m:M α} {k:α->M β} {hp:Hs} {Q:α->Hs->Prop} {R:β->Hs->Prop}
theorem WP_pure {x:α}:WP (pure x) hp Q↔Q x hp:=⟨fun ⟨y,h,e,q⟩=>by obtain ⟨rfl,rfl⟩:=Qi e;exact q,fun q=>⟨x,hp,rfl,q⟩⟩
theorem Va:WP (m >>= k) hp R↔WP m hp fun x h=>WP (k x) h R:=⟨fun ⟨y,h,e,q⟩=>by obtain ⟨x,h1,e1,e2⟩:=Qf e;exact ⟨x,h1,e1,y,h,e2,q⟩,fun ⟨x,h1,e1,y,h,e2,q⟩=>⟨y,h,(Qg e1).trans e2,q⟩⟩
theorem WP.mono {Q':α->Hs->Prop} (h:WP m hp Q) (hq:∀ x h,Q x h->Q' x h):WP m hp Q':=let ⟨x,h1,e,q⟩:=h;⟨x,h1,e,hq x h1 q⟩
theorem WP.of {x:α} {hp':Hs} (e:m hp=some (x,hp')) (q:Q x hp'):WP m hp Q:=⟨x,hp',e,q⟩
end
section
variable {hp:Hs} {env:En} {Q:Fl×En->Hs->Prop}
theorem QhR {b:DV->DSx} (I:Nat->En->Hs->Prop) (ds:List DV) (h0:I 0 env hp) (hs:∀ (i:Nat) d,ds[i]?=some d->∀ env hp,I i env hp->WP (b d env) hp fun r h=>match r.1 with
    | .nx=>I (i+1) r.2 h
    | .ct=>I (i+1) r.2 h
    | .bk=>Q (.nx,r.2) h
    | .rt x=>Q (.rt x,r.2) h) (he:∀ env hp,I ds.length env hp->Q (.nx,env) hp):WP (QbI b ds env) hp Q:=by
  suffices h:∀ (m i:Nat) env hp,m+i=ds.length->I i env hp->WP (QbI b (ds.drop i) env) hp Q by simpa using h ds.length 0 env hp rfl h0
  intro m
  induction m with
  | zero =>
    intro i env hp e hI
    have:i=ds.length:=by omega
    subst this
    rw [List.drop_length]
    exact WP_pure.mpr (he env hp hI)
  | succ m ih =>
    intro i env hp e hI
    have hlt:i < ds.length:=by omega
    rw [List.drop_eq_getElem_cons hlt,QbI,Va]
    refine (hs i ds[i] (List.getElem?_eq_getElem hlt) env hp hI).mono fun r h q=>?_
    obtain ⟨fl,env1⟩:=r
    cases fl with
    | nx=>exact ih (i+1) env1 h (by omega) q
    | ct=>exact ih (i+1) env1 h (by omega) q
    | bk=>exact WP_pure.mpr q
    | rt x=>exact WP_pure.mpr q
theorem KK {nxt:NX} {b:DV->DSx} (ds:List DV) (I:Nat->En->Hs->Prop) (hl:ds.length < 100000) (hn:∀ (i:Nat) env hp,i<=ds.length->I i env hp->nxt i hp=some (ds[i]?,hp)) (h0:I 0 env hp) (hs:∀ (i:Nat) d,ds[i]?=some d->∀ env hp,I i env hp->WP (b d env) hp fun r h=>match r.1 with
    | .nx=>I (i+1) r.2 h
    | .ct=>I (i+1) r.2 h
    | .bk=>Q (.nx,r.2) h
    | .rt x=>Q (.rt x,r.2) h) (he:∀ env hp,I ds.length env hp->Q (.nx,env) hp):WP (qB nxt b 100000 0 env) hp Q:=by
  suffices h:∀ (m i n:Nat) env hp,m+i=ds.length->m < n->I i env hp->WP (qB nxt b n i env) hp Q from h ds.length 0 100000 env hp rfl hl h0
  intro m
  induction m with
  | zero =>
    intro i n env hp e hn' hI
    have:i=ds.length:=by omega
    subst this
    obtain ⟨n,rfl⟩:∃ k,n=k+1:=⟨n - 1,by omega⟩
    rw [qB,Va]
    refine WP.of (hn _ env hp (Nat.le_refl _) hI) ?_
    rw [show ds[ds.length]?=none by simp]
    exact WP_pure.mpr (he env hp hI)
  | succ m ih =>
    intro i n env hp e hn' hI
    have hlt:i < ds.length:=by omega
    obtain ⟨n,rfl⟩:∃ k,n=k+1:=⟨n - 1,by omega⟩
    rw [qB,Va]
    refine WP.of (hn i env hp (by omega) hI) ?_
    simp only [List.getElem?_eq_getElem hlt]
    rw [Va]
    refine (hs i ds[i] (List.getElem?_eq_getElem hlt) env hp hI).mono fun r h q=>?_
    obtain ⟨fl,env1⟩:=r
    cases fl with
    | nx=>exact ih (i+1) n env1 h (by omega) (by omega) q
    | ct=>exact ih (i+1) n env1 h (by omega) (by omega) q
    | bk=>exact WP_pure.mpr q
    | rt x=>exact WP_pure.mpr q
theorem jx (ds:List DV) (i:Nat) (h:i<=ds.length) (hp:Hs):nxD ds i hp=some (ds[i]?,hp):=by unfold nxD;rw [if_pos h];rfl
theorem YS {n:Nat} {ds:List DV} {hp:Hs} (h:hp[n]?=some (.lst ds)) (i:Nat):nxW n i hp=some (ds[i]?,hp):=by
 unfold nxW
 have:ZG n hp=some (.lst ds,hp):=by unfold ZG;rw [h]
 rw [Qg this];rfl
theorem Qbd {b:DV->DSx} (ds:List DV) (I:Nat->En->Hs->Prop) (hl:ds.length < 100000) (h0:I 0 env hp) (hs:∀ (i:Nat) d,ds[i]?=some d->∀ env hp,I i env hp->WP (b d env) hp fun r h=>match r.1 with
  | .nx=>I (i+1) r.2 h
  | .ct=>I (i+1) r.2 h
  | .bk=>Q (.nx,r.2) h
  | .rt x=>Q (.rt x,r.2) h) (he:∀ env hp,I ds.length env hp->Q (.nx,env) hp):WP (qB (nxD ds) b 100000 0 env) hp Q :=
 KK ds I hl (fun i env hp h _=>jx ds i h hp) h0 hs he
end
theorem uv {nxt:NX} {t:DV->M Bool} {f:DV->M DV} {p:Int->Bool} {g:Int->Int} {hp:Hs} (ns:List Int) (hn:∀ i,i<=ns.length->nxt i hp=some ((ns.map DV.int)[i]?,hp)) (ht:∀ x,t (.int x) hp=some (p x,hp)) (hf:∀ x,f (.int x) hp=some (.int (g x),hp)) (hl:ns.length < 100000) :
    Z9 nxt t f 100000 0 hp=some (((ns.filter p).map g).map .int,hp):=by
  suffices h:∀ (m i n:Nat),m+i=ns.length->m < n->Z9 nxt t f n i hp=some ((((ns.drop i).filter p).map g).map .int,hp) by simpa using h ns.length 0 100000 rfl hl
  intro m
  induction m with
  | zero =>
    intro i n e hn'
    obtain ⟨n,rfl⟩:∃ k,n=k+1:=⟨n - 1,by omega⟩
    have:i=ns.length:=by omega
    subst this
    have e1:=hn ns.length (Nat.le_refl _)
    rw [show (ns.map DV.int)[ns.length]?=none by simp] at e1
    rw [Z9,Qg e1,List.drop_length]
    rfl
  | succ m ih =>
    intro i n e hn'
    obtain ⟨n,rfl⟩:∃ k,n=k+1:=⟨n - 1,by omega⟩
    have hlt:i < ns.length:=by omega
    have e1:=hn i (by omega)
    rw [List.getElem?_map,List.getElem?_eq_getElem hlt] at e1
    have hi:=ih (i+1) n (by omega) (by omega)
    rw [Z9,Qg e1]
    simp only [Option.map_some]
    rw [Qg (ht ns[i]),List.drop_eq_getElem_cons hlt]
    cases q:p ns[i] with
    | false=>rw [List.filter_cons_of_neg (by simp [q])];simpa using hi
    | true =>
      rw [List.filter_cons_of_pos q]
      simp only [if_true]
      rw [Qg (hf ns[i]),Qg hi]
      rfl
theorem gL (n:Nat) (hp:Hs) (i:Int):drf (n+1) hp (.int i)=some (.int i):=rfl
theorem gM (n:Nat) (hp:Hs) (b:Str):drf (n+1) hp (.str b)=some (.str b):=rfl
theorem yc {α:Type} {f:α->Option α}:∀ {xs:List α},(∀ x∈xs,f x=some x)->xs.mapM f=some xs
  | [],_=>rfl
  | x::xs,h=>by
    rw [List.mapM_cons,h x (by simp),yc fun y hy=>h y (List.mem_cons_of_mem _ hy)];rfl
theorem gK {d d':DV} {hp:Hs} (h:drf 40 hp d=some d'):Qat d hp=some (d',hp):=by unfold Qat;rw [h];rfl
theorem gQ {x y x' y':DV} {hp:Hs} (hx:drf 40 hp x=some x') (hy:drf 40 hp y=some y') (s1:okP x'=true) (s2:okP y'=true):Uy x y hp=some (PyData.eqv (toP x') (toP y'),hp):=by
 unfold Uy
 simp only [okP,Bool.and_eq_true] at s1 s2
 rw [Qg (gK hx),Qg (gK hy)]
 simp only [s1.2,s2.2,Bool.and_self,Qv,if_true,pure_bind]
 rfl
theorem vd (i j:Int) (hp:Hs):Uy (.int i) (.int j) hp=some (i==j,hp):=gQ (gL 39 hp i) (gL 39 hp j) (Vc i) (Vc j)
end D
namespace D
open PySem PySem.Spec PyProof.Rows L2
theorem Xx (p:Key×DV) (r:List (Key×DV)) (j:Key):Zq (p::r) j=if p.1=j then some p.2 else Zq r j:=by
 by_cases e:p.1=j
 ·simp [Zq,List.find?_cons,e]
 ·simp [Zq,List.find?_cons,e]
theorem Qc1 (a b:List (Key×DV)) (j:Key):Zq (a++b) j=match Zq a j with
    | some d=>some d
    | none=>Zq b j:=by
  induction a with
  | nil=>rfl
  | cons p r ih =>
    rw [List.cons_append,Xx,Xx]
    split
    . rfl
    . exact ih
theorem Qc0 (kvs:List (Key×DV)) (k:Key):(kvs.any fun kv=>decide (kv.1=k))=(Zq kvs k).isSome:=by
  induction kvs with
  | nil=>rfl
  | cons p r ih =>
    rw [List.any_cons,Xx,ih]
    by_cases e:p.1=k<;>simp [e]
theorem Qa8 (kvs:List (Key×DV)) (k j:Key) (d:DV):Zq (kvs.map fun kv=>if kv.1=k then (kv.1,d) else kv) j=(Zq kvs j).map fun x=>if j=k then d else x:=by
  induction kvs with
  | nil=>rfl
  | cons p r ih =>
    rw [List.map_cons,Xx,Xx,ih]
    by_cases e:p.1=k
    . rw [if_pos e]
      by_cases e2:p.1=j
      . have:j=k:=e2▸e
        simp [e2,this]
      . simp [e2]
    . rw [if_neg e]
      by_cases e2:p.1=j
      . have:¬ j=k:=e2▸e
        simp [e2,this]
      . simp [e2]
theorem v0 (kvs:List (Key×DV)) (k j:Key) (d:DV):Zq (J2 kvs k d) j=if j=k then some d else Zq kvs j:=by
  unfold J2
  rw [Qc0]
  cases q:Zq kvs k with
  | none =>
    rw [if_neg (by simp),Qc1,Xx]
    by_cases e:j=k
    . subst e;simp [q]
    . rw [if_neg e,if_neg (Ne.symm e)]
      cases Zq kvs j<;>rfl
  | some x =>
    rw [if_pos (show (some x).isSome=true from rfl),Qa8]
    by_cases e:j=k
    . subst e;simp [q]
    . simp only [if_neg e]
      cases Zq kvs j<;>rfl
theorem Zn {n:Nat} {o:OV} {hp:Hs} (h:hp[n]?=some o):ZG n hp=some (o,hp):=by unfold ZG;rw [h]
theorem vH {n:Nat} {kvs:List (Key×DV)} {hp:Hs} {i d:DV} {k:Key} (h:hp[n]?=some (.dic kvs)) (hk:zh i=some k) (hl:kvs.length < 100000):yh (.ref n) i d hp=some ((),hp.set n (.dic (J2 kvs k d))):=by
 show (ZG n >>= _) hp=_
 rw [Qg (Zn h)]
 have e1:XH i hp=some (k,hp):=by unfold XH;rw [hk];rfl
 have e2:Qv (decide (kvs.length < lim)) hp=some ((),hp):=by rw [show decide (kvs.length < lim)=true from decide_eq_true hl];rfl
 show (XH i >>= fun k=>Qv (decide (kvs.length < lim)) >>= fun _=>xA n (.dic (J2 kvs k d))) hp=_
 rw [Qg e1,Qg e2];rfl
theorem Gz {f:DEx} {g:DGx} {env env':En} {d:DV} {hp hp1 hp2:Hs} (h:f env hp=some (d,hp1)) (h':g d env hp1=some (env',hp2)):XM f g env hp=some ((.nx,env'),hp2):=by
 unfold XM
 rw [Qg h,Qg h'];rfl
theorem Zx {α:Type} {m:M α} {x:α} (h:m=pure x) (hp:Hs):m hp=some (x,hp):=by rw [h];rfl
theorem QcG {c:DTx} {f g:DSx} {env:En} {b:Bool} {hp hp1:Hs} (h:c env hp=some (b,hp1)):sIf c f g env hp=if b=true then f env hp1 else g env hp1:=by
 unfold sIf
 rw [Qg h]
 cases b<;>rfl
theorem QR {f:DEx} {env:En} {b:Bool} {hp hp1:Hs} (h:f env hp=some (.bl b,hp1)):eB f env hp=some (b,hp1):=by
 unfold eB
 rw [Qg h];rfl
theorem Ql {g:DV->DV->M DV} {f f':DEx} {env:En} {x y d:DV} {hp hp1 hp2 hp3:Hs} (h:f env hp=some (x,hp1)) (h':f' env hp1=some (y,hp2)) (hg:g x y hp2=some (d,hp3)):Qk g f f' env hp=some (d,hp3):=by
 unfold Qk
 rw [Qg h,Qg h',hg]
theorem QB {f:DEx} {env:En} {d:DV} {hp hp1:Hs} (h:f env hp=some (d,hp1)):QN f env hp=some ((.rt d,env),hp1):=by
 unfold QN
 rw [Qg h];rfl
theorem Zi {f g:DSx} {env env1:En} {d:DV} {hp hp1:Hs} (h:f env hp=some ((.rt d,env1),hp1)):Qr f g env hp=some ((.rt d,env1),hp1):=by
 unfold Qr
 rw [Qg h];rfl
theorem ZX {f:DEx} {env:En} {d:DV} {hp hp1:Hs} (h:f env hp=some (d,hp1)):Zu f env hp=some ((.nx,env),hp1):=by
 unfold Zu
 rw [Qg h];rfl
theorem Qy {n:Nat} {body:DSx} {ds:List DV} {d:DV} {env:En} {hp hp1:Hs} (h:body (ds.map .val++List.replicate (n - ds.length) .un) hp=some ((.rt d,env),hp1)):Q5 n body ds hp=some (d,hp1):=by
 unfold Q5
 rw [Qg h];rfl
theorem X7 {c:DTx} {env:En} {b:Bool} {hp hp1:Hs} (h:c env hp=some (b,hp1)):Xc c env hp=some (!b,hp1):=by
 unfold Xc
 rw [Qg h];rfl
theorem Vr {f g:DEx} {env:En} {b:Bool} {hp hp1:Hs} (h:f env hp=some (.bl b,hp1)):J0 f g env hp=if b=true then g env hp1 else some (.bl false,hp1):=by
 unfold J0
 rw [Qg h]
 cases b<;>rfl
end D
namespace D
open PySem PySem.Spec PyProof.Rows L2
variable {X:Cx}
def srt (ns:List Int):List Int:=ns.mergeSort (fun a b=>decide (a<=b))
theorem vU (ns:List Int):(srt ns).Perm ns:=List.mergeSort_perm _ _
theorem gk (ns:List Int):(srt ns).Pairwise (· <= ·):=by
 have:=List.pairwise_mergeSort (le:=fun a b:Int=>decide (a<=b)) (fun a b c h1 h2=>by simp at *;omega) (fun a b=>by simp;omega) ns
 exact this.imp fun h=>by simpa using h
theorem Uc {ns ms:List Int} (p:ms.Perm ns) (h:ms.Pairwise (· <= ·)):ms=srt ns :=
 (p.trans (vU ns).symm).eq_of_pairwise (fun a b _ _ h1 h2=>Int.le_antisymm h1 h2) h (gk ns)
theorem Ka:∀ {ns:List Int} {us:List Value},Vals (ns.map V.int) us->IntsAre us ns
 | [],_,.nil=>.nil
 | n::ns,_,.cons ⟨t,e⟩ r=>by subst e;exact .cons n t (Ka r)
theorem qk:∀ {us:List Value} {ns:List Int},IntsAre us ns->Vals (ns.map V.int) us
 | _,_,.nil=>.nil
 | _,_,.cons n t r=>.cons ⟨t,rfl⟩ (qk r)
theorem kc:∀ {us:List Value} {ns:List Int},us.length=ns.length->(∀ (j:Nat) (u:Value) (n:Int),us[j]?=some u->ns[j]?=some n->∃ t,u=.int n t)->IntsAre us ns
  | [],[],_,_=>.nil
  | u::us,n::ns,hl,h=>by
    obtain ⟨t,rfl⟩:=h 0 u n rfl rfl
    exact .cons n t (kc (by simpa using hl) fun j u n a b=>h (j+1) u n a b)
theorem ko:∀ {kvs:List (Key×V)} {vs:List (Key×Value)},KV kvs vs->vs.map (·.1)=kvs.map (·.1)
 | _,_,.nil=>rfl
 | _,_,.cons a b=>by rw [List.map_cons,List.map_cons,ko b,a.1]
def Qba (K:PySem.W.Frag) (H:Hp) (p:Addr) (ns:List Int):Prop:=SqL K H p (ns.map .int)∨∃ kvs:List (Key×V),H p=some (.dK kvs)/\kvs.map (·.1)=ns.map .inl
def ze:List DV->Option (List Int)
 | []=>some []
 | .int n::r=>(ze r).map (n :: ·)
 | _=>none
def vp:List (Key×DV)->Option (List Int)
 | []=>some []
 | (.inl n,_)::r=>(vp r).map (n :: ·)
 | _=>none
def uQ {α:Type}:Option α->M α
 | some d=>pure d
 | none=>failure
theorem yd {α:Type} {o:Option α} {d:α} {hp hp':Hs} (h:uQ o hp=some (d,hp')):o=some d/\hp=hp':=by
 cases o with
 | none=>cases h
 | some x=>obtain ⟨rfl,rfl⟩:=Qi h;exact ⟨rfl,rfl⟩
def QbR:DV->M (List Int)
  | .lst ds=>uQ (ze ds)
  | .ref n=>do
    match <- ZG n with
    | .lst ds=>uQ (ze ds)
    | .dic kvs=>uQ (vp kvs)
    | _=>failure
  | _=>failure
variable {K:PySem.W.Frag} {ρ:List Addr} {B:Addr->Prop} {H:Hp}
theorem xQ:∀ {ds:List DV} {ns:List Int} {xs:List V},ze ds=some ns->RepL K ρ B H ds xs->xs=ns.map .int
  | [],_,xs,h,r=>by cases h;exact r
  | .int n::ds,ns,xs,h,⟨x,q,e,r1,r2⟩=>by
    obtain ⟨ms,h1,rfl⟩:=Option.map_eq_some_iff.mp (show (ze ds).map (n :: ·)=some ns from h)
    rw [e,r1.intI,xQ h1 r2];rfl
theorem U9:∀ ns:List Int,RepL K ρ B H (ns.map .int) (ns.map .int)
 | []=>rfl
 | n::ns=>⟨_,_,rfl,JC,U9 ns⟩
theorem VB:∀ {kvs:List (Key×DV)} {ns:List Int},vp kvs=some ns->kvs.map (·.1)=ns.map .inl
  | [],_,h=>by cases h;rfl
  | (.inl n,d)::kvs,ns,h=>by
    obtain ⟨ms,h1,rfl⟩:=Option.map_eq_some_iff.mp (show (vp kvs).map (n :: ·)=some ns from h)
    rw [List.map_cons,List.map_cons,VB h1]
theorem zN:∀ (ns:List Int),ze (ns.map .int)=some ns
  | []=>rfl
  | n::ns=>by
    show (ze (ns.map .int)).map (n :: ·)=_
    rw [zN ns];rfl
end D
namespace D
open PySem PySem.Spec PyProof.Rows L2
abbrev ClsN (K:PySem.W.Frag) (c:Str) (C:Addr):Prop:=PySem.W.nsIn K mainGlobals c=some (some (.ref C))
theorem ClsN.uniq {K:PySem.W.Frag} {c:Str} {C C':Addr} (h:ClsN K c C) (h':ClsN K c C'):C=C':=by
 have e:=h.symm.trans h';cases e;rfl
structure X3 (K:PySem.W.Frag) (c f:Str):Prop where
 ex:∃ C,ClsN K c C/\Cls K C/\NoAttr K C f
structure J7 (P:Program) (w:World) (K:PySem.W.Frag) (mg:Str->Option Value) (base:Heap) (c m:Str) (k n:Nat) (F:List DV->M DV):Prop where
 ex:∃ (C f:Addr) (fd:FuncData) (ps:List Str),ClsN K c C/\Cls K C/\ud K C m f/\q8 P w K mg base CX0 k f fd ps (spD K n F)/\Binds K fd ps []
structure Qab (P:Program) (w:World) (K:PySem.W.Frag) (mg:Str->Option Value) (base:Heap) (c:Str) (k n:Nat) (F:List DV->M DV):Prop where
 ex:∃ (C f:Addr) (fd:FuncData) (ps:List Str),ClsN K c C/\mg c=some (.ref C)/\Mk K C f/\q8 P w K mg base CX0 k f fd ps (spD K n F)/\Binds K fd ps []
section
variable {K:PySem.W.Frag} {ρ:List Addr} {B:Addr->Prop} {H:Hp} {hp:Hs}
abbrev RepF (K:PySem.W.Frag) (ρ:List Addr) (B:Addr->Prop) (H:Hp):List (Str×DV)->List (Str×V)->Prop:=Paired fun p q=>p.1=q.1/\RepV K ρ B H p.2 q.2
theorem kK:∀ {fs:List (Str×DV)} {xs:List (Str×V)},xs.map (·.1)=fs.map (·.1)->RepL K ρ B H (fs.map (·.2)) (xs.map (·.2))->RepF K ρ B H fs xs
  | [],[],_,_=>.nil
  | [],_::_,e,_=>by simp at e
  | _::_,[],e,_=>by simp at e
  | p::fs,q::xs,e,r=>by
    simp only [List.map_cons,List.cons.injEq] at e
    simp only [List.map_cons] at r
    unfold RepL at r
    obtain ⟨x,t,e2,h1,h2⟩:=r
    simp only [List.cons.injEq] at e2
    obtain ⟨rfl,rfl⟩:=e2
    exact .cons ⟨e.1.symm,h1⟩ (kK e.2 h2)
theorem RepF.to {fs:List (Str×DV)} {xs:List (Str×V)} (r:RepF K ρ B H fs xs):xs.map (·.1)=fs.map (·.1)/\RepL K ρ B H (fs.map (·.2)) (xs.map (·.2)):=by
 induction r with
 | nil=>exact ⟨rfl,RepL.nil⟩
 | cons h _ ih=>exact ⟨by simp [ih.1,h.1],by simpa using RepL.cons h.2 ih.2⟩
theorem RepF.look {fs:List (Str×DV)} {xs:List (Str×V)} (r:RepF K ρ B H fs xs) (f:Str):(fs.lookup f=none/\xs.lookup f=none)∨∃ d v,fs.lookup f=some d/\xs.lookup f=some v/\RepV K ρ B H d v:=by
  induction r with
  | nil=>exact .inl ⟨rfl,rfl⟩
  | @cons p q _ _ h _ ih =>
    obtain ⟨p1,p2⟩:=p
    obtain ⟨q1,q2⟩:=q
    obtain ⟨h1,h2⟩:=h
    have h1:p1=q1:=h1
    subst h1
    cases e:f==p1 with
    | true=>exact .inr ⟨p2,q2,by simp [List.lookup,e],by simp [List.lookup,e],h2⟩
    | false=>simpa [List.lookup,e] using ih
def JI (f:Str) (d:DV):List (Str×DV)->List (Str×DV)
 | []=>[(f,d)]
 | (g,x)::r=>if g=f then (g,d)::r else (g,x)::JI f d r
theorem RepF.put {fs:List (Str×DV)} {xs:List (Str×V)} (r:RepF K ρ B H fs xs) (f:Str) {d:DV} {v:V} (rd:RepV K ρ B H d v):RepF K ρ B H (JI f d fs) (YU f v xs):=by
  induction r with
  | nil=>exact .cons ⟨rfl,rd⟩ .nil
  | @cons p q _ _ h t ih =>
    obtain ⟨p1,p2⟩:=p
    obtain ⟨q1,q2⟩:=q
    obtain ⟨h1,h2⟩:=h
    have h1:p1=q1:=h1
    subst h1
    unfold JI YU
    by_cases e:p1=f
    . rw [if_pos e,if_pos e];exact .cons ⟨rfl,rd⟩ t
    . rw [if_neg e,if_neg e];exact .cons ⟨rfl,h2⟩ ih
theorem RepF.len {fs:List (Str×DV)} {xs:List (Str×V)} (r:RepF K ρ B H fs xs):fs.length=xs.length:=Paired.length r
theorem RepF.gs {ρ':List Addr} {B':Addr->Prop} {H':Hp} {fs:List (Str×DV)} {xs:List (Str×V)} (g:Gs K ρ B H ρ' B' H') (r:RepF K ρ B H fs xs):RepF K ρ' B' H' fs xs:=L2.Paired.mapP r fun _ _ h=>⟨h.1,RepV.gs g _ _ h.2⟩
theorem ORep.ins {a:Addr} {c:Str} {fs:List (Str×DV)} (h:ORep K ρ B H a (.ins c fs)):∃ C dx xs,ClsN K c C/\H a=some (.ins C dx xs)/\RepF K ρ B H fs xs:=by
 obtain ⟨C,dx,xs,nc,e,ek,rl⟩:=h
 exact ⟨C,dx,xs,nc,e,kK ek rl⟩
theorem RepF.orep {a C dx:Addr} {c:Str} {fs:List (Str×DV)} {xs:List (Str×V)} (nc:ClsN K c C) (r:RepF K ρ B H fs xs) (e:H a=some (.ins C dx xs)):ORep K ρ B H a (.ins c fs):=⟨C,dx,xs,nc,e,r.to.1,r.to.2⟩
theorem Qc9 {n:Nat} {a C dx:Addr} {c:Str} {xs xs':List (Str×V)} {fs':List (Str×DV)} (W:WOk K ρ B hp H) (i:ρ[n]?=some a) (nc:ClsN K c C) (e:H a=some (.ins C dx xs)) (r:RepF K ρ B H fs' xs'):Gr K ρ B H ρ B (upd H a (.ins C dx xs'))/\WOk K ρ B (hp.set n (.ins c fs')) (upd H a (.ins C dx xs')):=by
 have g:Gr K ρ B H ρ B (upd H a (.ins C dx xs')):=Gr.wset i e
 exact ⟨g,W.wset (o':=.ins C dx xs') (v:=.ins c fs') i e ((r.gs (g.gs W.rb)).orep nc Zm)⟩
end
def onI {α:Type} (c:Str) (x:DV) (k:Nat->List (Str×DV)->M α):M α:=match x with
  | .ref n=>do
    match <- ZG n with
    | .ins c' fs=>do Qv (decide (c'=c));k n fs
    | _=>failure
  | _=>failure
theorem xi {α:Type} {c:Str} {x:DV} {d:α} {k:Nat->List (Str×DV)->M α} {hp hp':Hs} (h:onI c x k hp=some (d,hp')):∃ n fs,x=.ref n/\hp[n]?=some (.ins c fs)/\k n fs hp=some (d,hp'):=by
  cases x with
  | ref n =>
    obtain ⟨o,hp1,e1,e2⟩:=Qf (show (ZG n >>= fun o=>(match o with | .ins c' fs=>do Qv (decide (c'=c));k n fs | _=>failure:M α)) hp=some (d,hp') from h)
    obtain ⟨e3,rfl⟩:=ZC e1
    cases o with
    | ins c' fs =>
      obtain ⟨_,hp2,e4,e5⟩:=Qf e2
      obtain ⟨hl,rfl⟩:=QC e4
      obtain rfl:=of_decide_eq_true hl
      exact ⟨n,fs,rfl,e3,e5⟩
    | lst _=>cases e2
    | dic _=>cases e2
  | non=>cases h
  | bl _=>cases h
  | int _=>cases h
  | str _=>cases h
  | tup _=>cases h
  | lst _=>cases h
def js (c f:Str) (x:DV):M DV:=onI c x fun _ fs=>zx (fs.lookup f)
def jC (c f:Str) (x d:DV):M Unit:=onI c x fun n fs=>do Qv (decide (fs.length < 1000));xA n (.ins c (JI f d fs))
def Qw (c f:Str) (g:DEx):DEx:=fun env=>do let x <- g env;js c f x
def Q8 (c f:Str) (fo fv:DEx):DSx:=fun env=>do let y <- fv env;let x <- fo env;jC c f x y;pure (.nx,env)
def X0 (c f:Str) (op:DV->DV->M DV) (fo fv:DEx):DSx:=fun env=>do let x <- fo env;let v <- js c f x;let y <- fv env;let z <- op v y;jC c f x z;pure (.nx,env)
def zd:DV->DV->M DV
 | .int i,.int j=>pure (.int (i+j))
 | _,_=>failure
def GJ:DV->DV->M DV
 | .int i,.int j=>pure (.int (i - j))
 | _,_=>failure
def QD (c m:Str) (n:Nat) (F:List DV->M DV) (fo:DEx) (fa:DAx):DEx:=fun env=>do
 let x <- fo env
 onI c x fun _ fs=>Qv (fs.lookup m).isNone
 let ds <- fa env
 Qv (decide (ds.length+1=n))
 F (x::ds)
def J1 (c:Str) (n:Nat) (F:List DV->M DV) (fa:DAx):DEx:=fun env=>do
 let ds <- fa env
 Qv (decide (ds.length+1=n))
 let x <- Xf (.ins c [])
 let r <- F (x::ds)
 match r with
 | .non=>pure x
 | _=>failure
section
variable {X:Cx} {o e value:Expr} {c f m:Str} {pos pos' tpos apos:Pos} {fo fv:DEx}
theorem vg {K:PySem.W.Frag} {ρ:List Addr} {B:Addr->Prop} {H:Hp} {hp hp':Hs} {x d:DV} {v:V} (W:WOk K ρ B hp H) (r:RepV K ρ B H x v) (h:js c f x hp=some (d,hp')):hp=hp'/\∃ a C dx xs u,v=.ref a/\ClsN K c C/\H a=some (.ins C dx xs)/\xs.lookup f=some u/\RepV K ρ B H d u:=by
 obtain ⟨n,fs,rfl,e1,e2⟩:=xi h
 obtain ⟨hl,rfl⟩:=yf e2
 obtain ⟨a,rfl,i,ro⟩:=RepV.refW W r e1
 obtain ⟨C,dx,xs,nc,e,rf⟩:=ro.ins
 rcases rf.look f with ⟨z,_⟩ | ⟨d',u,z,zu,ru⟩
 ·rw [hl] at z;cases z
 ·rw [hl] at z;cases z
  exact ⟨rfl,a,C,dx,xs,u,rfl,nc,e,zu,ru⟩
theorem vP {K:PySem.W.Frag} {ρ:List Addr} {B:Addr->Prop} {H:Hp} {hp hp':Hs} {x d:DV} {v y:V} {z:Unit} (W:WOk K ρ B hp H) (r:RepV K ρ B H x v) (rd:RepV K ρ B H d y) (h:jC c f x d hp=some (z,hp')):∃ a C dx xs,v=.ref a/\ClsN K c C/\H a=some (.ins C dx xs)/\xs.length < 1000/\Gr K ρ B H ρ B (upd H a (.ins C dx (YU f y xs)))/\WOk K ρ B hp' (upd H a (.ins C dx (YU f y xs))):=by
 obtain ⟨n,fs,rfl,e1,e2⟩:=xi h
 obtain ⟨_,hp1,e3,e4⟩:=Qf e2
 obtain ⟨hl,rfl⟩:=QC e3
 cases e4
 obtain ⟨a,rfl,i,ro⟩:=RepV.refW W r e1
 obtain ⟨C,dx,xs,nc,e,rf⟩:=ro.ins
 obtain ⟨g,W'⟩:=Qc9 W i nc e (rf.put f rd)
 exact ⟨a,C,dx,xs,rfl,nc,e,by rw [<- rf.len];exact of_decide_eq_true hl,g,W'⟩
theorem Qt (hk:X3 X.K c f) (ho:DE X o fo) (hb:attributeBase o f X.env (eval o X.env)=eval o X.env:=by rfl):DE X (.Attribute o f pos) (Qw c f fo) :=
 L2.PE.imp (QfW ho hb) fun σ H Q ⟨Z,env,ρ,B,hp,d,hp',S,e,k⟩=>by
  obtain ⟨x,hp1,e1,e2⟩:=Qf e
  refine tD.run S e1 fun v ρ1 B1 H1 g1 S1 r1=>?_
  obtain ⟨rfl,a,C,dx,xs,u,rfl,nc,ea,hl,ru⟩:=vg S1.wo r1 e2
  obtain ⟨C',nc',cl,na⟩:=hk.ex
  obtain rfl:=nc.uniq nc'
  exact ⟨a,C,dx,xs,u,rfl,ea,cl,na,hl,k u ρ1 B1 H1 g1 S1.wo ru⟩
theorem Zd (hk:X3 X.K c f) (ho:DE X o fo) (hv:DE X value fv) (hs:swapsWith value (some (.Attribute o f pos')) pos.line X.env=pure false:=by rfl):DS X (.Assign [.Attribute o f pos'] value pos) (Q8 c f fo fv) :=
 L2.PS.imp (Qgd ho hv hs) fun D σ H ⟨Z,env,ρ,B,hp,fl,env',hp',S,e,k⟩=>by
  obtain ⟨y,hp1,e1,e⟩:=Qf e
  obtain ⟨x,hp2,e2,e⟩:=Qf e
  obtain ⟨z,hp3,e3,e⟩:=Qf e
  obtain ⟨q,rfl⟩:=Qi e
  cases q
  refine tD.run S e1 fun u ρ1 B1 H1 g1 S1 r1=>tD.run S1 e2 fun v ρ2 B2 H2 g2 S2 r2=>?_
  obtain ⟨a,C,dx,xs,rfl,nc,ea,hl,g,W⟩:=vP S2.wo r2 (RepV.grow S1.wo.rb g2 _ _ r1) e3
  obtain ⟨C',nc',cl,na⟩:=hk.ex
  obtain rfl:=nc.uniq nc'
  exact ⟨a,C,dx,xs,rfl,ea,cl,na,hl,k σ ρ2 B2 _ ((g1.trans (g2.trans g)).gs S.wo.rb) (S2.grow g W)⟩
theorem zP (hk:X3 X.K c f) (ho:DE X o fo) (hv:DE X value fv):DS X (.AugAssign (.Attribute o f tpos) .Add value pos) (X0 c f zd fo fv) :=
 L2.PS.imp (QaX ho hv Qfu) fun D σ H ⟨Z,env,ρ,B,hp,fl,env',hp',S,e,k⟩=>by
  obtain ⟨x,hp1,e1,e⟩:=Qf e
  obtain ⟨v,hp2,e2,e⟩:=Qf e
  obtain ⟨y,hp3,e3,e⟩:=Qf e
  obtain ⟨z,hp4,e4,e⟩:=Qf e
  obtain ⟨_,hp5,e5,e⟩:=Qf e
  obtain ⟨q,rfl⟩:=Qi e
  cases q
  refine tD.run S e1 fun vx ρ1 B1 H1 g1 S1 r1=>?_
  obtain ⟨rfl,a,C,dx,xs,u,rfl,nc,ea,hl,ru⟩:=vg S1.wo r1 e2
  obtain ⟨C',nc',cl,na⟩:=hk.ex
  obtain rfl:=nc.uniq nc'
  refine ⟨a,C,dx,xs,u,rfl,ea,cl,na,hl,tD.run S1 e3 fun w ρ2 B2 H2 g2 S2 r2=>?_⟩
  have ru2:=RepV.grow S1.wo.rb g2 _ _ ru
  have r12:=RepV.grow S1.wo.rb g2 _ _ r1
  unfold zd at e4
  split at e4
  ·obtain ⟨rfl,rfl⟩:=Qi e4
   refine ⟨_,_,ru2.intI,r2.intI,?_⟩
   obtain ⟨a',C2,dx',xs',q1,nc2,ea',hl',g,W⟩:=vP S2.wo r12 JC e5
   cases q1
   obtain rfl:=nc2.uniq nc
   exact ⟨dx',xs',ea',hl',k σ ρ2 B2 _ ((g1.trans (g2.trans g)).gs S.wo.rb) (S2.grow g W)⟩
  ·cases e4
theorem Qb9 {C:Addr} {n:Nat} {F:List DV->M DV} {fa:DAx} {σ:St} {H:Hp} {Q:VK} (nc:ClsN X.K c C) (h:tD X.K (QD c m n F fo fa) σ H Q):QcW C m (spD X.K n F) [] E0 (tD X.K fo) (tDA X.K fa) σ H Q:=by
 obtain ⟨Z,env,ρ,B,hp,d,hp',S,e,k⟩:=h
 obtain ⟨x,hp1,e1,e⟩:=Qf e
 obtain ⟨_,hp2,e2,e⟩:=Qf e
 obtain ⟨ds,hp3,e3,e⟩:=Qf e
 obtain ⟨_,hp4,e4,ef⟩:=Qf e
 obtain ⟨hl,rfl⟩:=QC e4
 refine tD.run S e1 fun v ρ1 B1 H1 g1 S1 r1=>?_
 obtain ⟨i,fs,rfl,w1,w2⟩:=xi e2
 obtain ⟨hn,rfl⟩:=QC w2
 obtain ⟨a,rfl,_,ro⟩:=RepV.refW S1.wo r1 w1
 obtain ⟨C',dx,xs,nc',ea,rf⟩:=ro.ins
 obtain rfl:=nc'.uniq nc
 have hx:xs.lookup m=none:=by
  rcases rf.look m with ⟨_,z⟩ | ⟨_,_,z,_,_⟩
  ·exact z
  ·rw [z] at hn;cases hn
 refine ⟨a,dx,xs,rfl,ea,hx,tDA.run S1 e3 fun vs ρ2 B2 H2 g2 S2 r2=>?_⟩
 refine ⟨?_,ρ2,B2,hp3,_,d,hp',S2.wo,?_,ef,k.after (g1.trans g2)⟩
 ·rw [List.append_nil,List.length_cons,<- r2.length];exact of_decide_eq_true hl
 ·rw [List.append_nil];exact RepL.cons (RepV.grow S1.wo.rb g2 _ _ r1) r2
theorem Zj {k j n:Nat} {F:List DV->M DV} {es:List Expr} {fa:DAx} {pl:Sem Bool} (h:J7 X.prog X.w X.K X.mg X.base c m j n F) (hr:Room k X.A) (hj:j<=k) (hx:YM CX0 X E0) (ho:DE X o fo) (ha:DA X (e::es) fa)
  (hst:starEach (e::es) X.env=(false,eval e X.env)::starEach es X.env:=by rfl) (hpl:(backTo pos (starEach es X.env)).any (·.1)=false:=by rfl)
  (ht:eval (.Call (.Attribute o m apos) (e::es) [] pos) X.env=(do
   let ov <- eval o X.env
   standAt apos.atName
   let (f,first) <- holding [ov] (getMethod ov m pl)
   callWith pos f first (backTo pos (starEach (e::es) X.env)) (backToKw pos (keywordEach [] X.env))):=by rfl):DE X (.Call (.Attribute o m apos) (e::es) [] pos) (QD c m n F fo fa):=by
 obtain ⟨C,g,fd,ps,nc,cl,hm,F',hb⟩:=h.ex
 exact L2.PE.imp (Qd0 (pl:=pl) ho cl hm F' (hr.mono hj) hb .nil hx ha hst hpl ht) fun σ H Q q=>Qb9 nc q
theorem JZ {k j n:Nat} {F:List DV->M DV} {pl:Sem Bool} (h:J7 X.prog X.w X.K X.mg X.base c m j n F) (hr:Room k X.A) (hj:j<=k) (hx:YM CX0 X E0) (ho:DE X o fo)
  (ht:eval (.Call (.Attribute o m apos) [] [] pos) X.env=(do
   let ov <- eval o X.env
   standAt apos.atName
   let (f,first) <- holding [ov] (getMethod ov m pl)
   callWith pos f first (backTo pos (starEach [] X.env)) (backToKw pos (keywordEach [] X.env))):=by rfl):DE X (.Call (.Attribute o m apos) [] [] pos) (QD c m n F fo Qn):=by
 obtain ⟨C,g,fd,ps,nc,cl,hm,F',hb⟩:=h.ex
 refine L2.PE.imp (Qcq (pl:=pl) ho cl hm F' (hr.mono hj) hb .nil hx ht) fun σ H Q q=>?_
 obtain ⟨Z,env,ρ,B,hp,d,hp',S,e,k⟩:=q
 obtain ⟨x,hp1,e1,e⟩:=Qf e
 obtain ⟨_,hp2,e2,e⟩:=Qf e
 obtain ⟨ds,hp3,e3,e⟩:=Qf e
 obtain ⟨_,hp4,e4,ef⟩:=Qf e
 obtain ⟨hl,rfl⟩:=QC e4
 obtain ⟨rfl,rfl⟩:=Qi e3
 refine tD.run S e1 fun v ρ1 B1 H1 g1 S1 r1=>?_
 obtain ⟨i,fs,rfl,w1,w2⟩:=xi e2
 obtain ⟨hn,rfl⟩:=QC w2
 obtain ⟨a,rfl,_,ro⟩:=RepV.refW S1.wo r1 w1
 obtain ⟨C',dx,xs,nc',ea,rf⟩:=ro.ins
 obtain rfl:=nc'.uniq nc
 have hx:xs.lookup m=none:=by
  rcases rf.look m with ⟨_,z⟩ | ⟨_,_,z,_,_⟩
  ·exact z
  ·rw [z] at hn;cases hn
 exact ⟨a,dx,xs,rfl,ea,hx,of_decide_eq_true hl,ρ1,B1,hp1,_,d,hp',S1.wo,RepL.cons r1 RepL.nil,ef,k.after g1⟩
theorem Qa2 {k:Nat} {C g:Addr} {fd:FuncData} {ps:List Str} {sp:Sp} {pins:List (Addr×Obj)} {σ:St} {H:Hp} {s:Shared} {Q:VK} {us:List Value} {vs:List V} (M:Mk X.K C g) (F:q8 X.prog X.w X.K X.mg X.base CX0 k g fd ps sp) (hr:Room (k+1) X.A) (hb:Binds X.K fd ps [])
    (hx:YM CX0 X E0) (I:Inv X pins σ H s) (r:Vals vs us)
    (h:∀ x dx,H x=none->H dx=none->dx≠x->X.K.lookup x=none->sp (.ref x::vs) (upd (upd H dx (.own x)) x (.ins C dx [])) (fun v H2=>v=.non/\Q (.ref x) H2) E0) :
    wpAny (model X.prog X.w) X.A (call (.ref C) us) (EP X pins σ Q) X.xe s:=by
  have kf:X.K.lookup (s.heap.objs.size+1)=none:=by
    cases q:X.K.lookup (s.heap.objs.size+1) with
    | none=>rfl
    | some o=>exact absurd (Heap.lt_size (I.kIn _ _ q)) (Nat.not_lt.mpr (Nat.le_succ _))
  have hq:=h _ _ (I.hok.fresh (Nat.le_succ _)) (I.hok.fresh (Nat.le_refl _)) (Nat.ne_of_lt (Nat.lt_succ_self _)) kf
  have J:=Inv.made (C:=C) I
  have rr:Vals (V.ref (s.heap.objs.size+1)::vs) (Value.ref (s.heap.objs.size+1)::us):=.cons rfl r
  have ll:((Value.ref (s.heap.objs.size+1)::us)++[]).length=ps.length:=by
    rw [List.append_nil,<- rr.length];exact F.len _ _ _ _ hq
  have bb:=hb _ (Value.ref (s.heap.objs.size+1)::us) J.kIn ll
  rw [List.append_nil] at bb
  refine wpAny_call (Qb7 (f:=g) I.kIn M.makes M.init (beq_iff_eq.mp M.fn) (codeAny_mono (F.run _ X.stack _ _ ⟨Value.ref (s.heap.objs.size+1)::us,[]⟩ _ _ _ E0 (hr.make C us []) (J.env0.make C us []) bb rr hq) fun q s' z=>?_))
  cases q with
  | error e=>exact hx pins σ _ _ e s' J z
  | ok fl =>
    cases fl with
    | ret u =>
      obtain ⟨v,H',I3,rv,ev,q3⟩:=J.after z
      subst ev
      exact ⟨rv,⟨V.ref (s.heap.objs.size+1),H',I3,rfl,q3⟩⟩
    | next=>exact z.elim
    | brk=>exact z.elim
    | cont=>exact z.elim
theorem Qb6 {C:Addr} {n:Nat} {F:List DV->M DV} {vs:List V} {K:PySem.W.Frag} {ρ:List Addr} {B:Addr->Prop} {hp hp':Hs} {H:Hp} {ds:List DV} {d:DV} {Q:VK} (nc:ClsN K c C) (hl:ds.length+1=n) (W:WOk K ρ B hp H) (r:RepL K ρ B H ds vs)
  (e:(do let x <- Xf (.ins c []);let r <- F (x::ds);match r with | .non=>pure x | _=>failure:M DV) hp=some (d,hp')) (k:Fol K ρ B H d hp' Q) :
  ∀ x dx,H x=none->H dx=none->dx≠x->K.lookup x=none->spD K n F (.ref x::vs) (upd (upd H dx (.own x)) x (.ins C dx [])) (fun v H2=>v=.non/\Q (.ref x) H2) E0:=by
 intro x dx hx hdx ne kf
 have e1:F (.ref hp.length::ds) (hp++[.ins c []])=some (.non,hp')/\d=.ref hp.length:=by
  obtain ⟨y,hp1,a1,a2⟩:=Qf e
  cases a1
  obtain ⟨y,hp2,a3,a4⟩:=Qf a2
  cases y with
  | non=>obtain ⟨rfl,rfl⟩:=Qi a4;exact ⟨a3,rfl⟩
  | bl _=>cases a4
  | int _=>cases a4
  | str _=>cases a4
  | tup _=>cases a4
  | lst _=>cases a4
  | ref _=>cases a4
 obtain ⟨e1,rfl⟩:=e1
 have hx':upd H dx (.own x) x=none:=by rw [Q4 (Ne.symm ne)];exact hx
 have g0:Gr K ρ B H ρ B (upd H dx (.own x)):=Gr.laid hdx
 have g1:Gr K ρ B (upd H dx (.own x)) (ρ++[x]) (yQ B x) (upd (upd H dx (.own x)) x (.ins C dx [])):=Gr.wnew hx' kf
 have W1:WOk K (ρ++[x]) (yQ B x) (hp++[.ins c []]) (upd (upd H dx (.own x)) x (.ins C dx [])):=(W.laid hdx).wnew hx' kf (RepF.orep nc .nil Zm)
 have rx:RepV K (ρ++[x]) (yQ B x) (upd (upd H dx (.own x)) x (.ins C dx [])) (.ref hp.length) (.ref x):=by
  unfold RepV
  exact ⟨x,rfl,by rw [<- W.len];simp⟩
 refine ⟨?_,ρ++[x],yQ B x,hp++[.ins c []],.ref hp.length::ds,.non,hp',W1,RepL.cons rx (RepL.grow W.rb (g0.trans g1) _ _ r),e1,fun v ρ' B' H' g' W' r'=>?_⟩
 ·rw [List.length_cons,<- r.length];exact hl
 ·exact ⟨r'.nonI,k _ ρ' B' H' ((g0.trans g1).trans g') W' (RepV.grow W1.rb g' _ _ rx)⟩
theorem K4 {k j n:Nat} {F:List DV->M DV} {es:List Expr} {fa:DAx} {p:Pos} (h:Qab X.prog X.w X.K X.mg X.base c j n F) (hr:Room k X.A) (hj:j+1<=k) (hx:YM CX0 X E0) (ha:DA X (e::es) fa) (hg:Gl X c:=by rfl)
  (hdb:(c==("__debug__" : Str))=false:=by decide) (he:starEach (e::es) X.env=(false,eval e X.env)::starEach es X.env:=by rfl) (hpl:(backTo pos (starEach es X.env)).any (·.1)=false:=by rfl):DE X (.Call (.Name c p) (e::es) [] pos) (J1 c n F fa):=by
 obtain ⟨C,g,fd,ps,nc,hm,M,F',hb⟩:=h.ex
 intro pins s σ H Q I q
 obtain ⟨Z,env,ρ,B,hp,d,hp',S,e,k⟩:=q
 obtain ⟨ds,hp1,e1,e2⟩:=Qf e
 obtain ⟨_,hp2,e3,e4⟩:=Qf e2
 obtain ⟨hl,rfl⟩:=QC e3
 refine wpAny_Call_Name_kw (Gp I hg hm ?_ hdb)
 refine PySem.W.callWith_K (h₀:=X.base) I.ok.mod.kin M.kp (thn (ha pos pins s σ H _ I (tDA.run S e1 fun vs ρ1 B1 H1 g1 S1 r1=>Qb6 (Q:=Q) nc (of_decide_eq_true hl) S1.wo r1 e4 (k.after g1))) fun us s1 ⟨vs,H1,I1,r,q⟩=>⟨I1.kIn,?_⟩) he hpl
 exact Qa2 M F' (hr.mono hj) hb hx I1 r q
end
theorem QbH {P:Program} {w:World} {K:PySem.W.Frag} {mg:Str->Option Value} {base:Heap} {x qual:Str} {stm:Stmt} {g:Addr} {fd:FuncData} {N ps:List Str} {k:Nat} {body:DSx} (F:Fun K x qual stm g fd) (Sc:Qs N ps (Qo stm))
  (h:∀ (cdv:Value) (A:Around) (outer:List Env) (s:Shared) (H:Hp) (E:XK),Room k (A.deeper (envOfC qual (Qo stm) s.heap.objs.size g cdv))->DSs (yR CX0 P w K mg base N qual (Qo stm) g cdv A outer s H E).nox (ZF stm) body) :
  q8 P w K mg base CX0 (k+1) g fd ps (spD K ps.length (Q5 N.length body)):=by
 refine F.ok Sc (fun vs H Q E h=>h.1) (fun cdv A outer s H vs Q E hr sp=>?_)
 obtain ⟨hn,ρ,B,hp,ds,d,hp',W,r,e,k⟩:=sp
 obtain ⟨⟨fl,env'⟩,hp1,e1,e2⟩:=Qf e
 refine ⟨_,h cdv A outer s H E hr,⟨ρ,B,H⟩,_,ρ,B,hp,fl,env',hp1,yi W r,e1,fun σ' ρ' B' H' g' S'=>?_⟩
 cases fl with
 | nx=>obtain ⟨rfl,rfl⟩:=Qi e2;exact k .non ρ' B' H' S'.gr S'.wo qL
 | rt x=>obtain ⟨rfl,rfl⟩:=Qi e2;exact fun v rv=>k v ρ' B' H' S'.gr S'.wo rv
 | bk=>cases e2
 | ct=>cases e2
theorem Qb8 {P:Program} {w:World} {K:PySem.W.Frag} {mg:Str->Option Value} {base:Heap} {c m qual:Str} {stm:Stmt} {C g:Addr} {fd:FuncData} {N ps:List Str} {k:Nat} {body:DSx} (nc:ClsN K c C) (cl:Cls K C) (me:ud K C m g) (F:Fun K m qual stm g fd) (Sc:Qs N ps (Qo stm))
  (hb:∀ (kV doc pm:Value) (an:Option Addr) (cdv ct:Value) (us:List Value),us.length=ps.length->bindArgs (PySem.W.fnOf m qual (Jy stm) (ZF stm) (Qo stm) .none kV doc pm an cdv ct) ⟨us,[]⟩=pure (ps.zip us))
  (h:∀ (cdv:Value) (A:Around) (outer:List Env) (s:Shared) (H:Hp) (E:XK),Room k (A.deeper (envOfC qual (Qo stm) s.heap.objs.size g cdv))->DSs (yR CX0 P w K mg base N qual (Qo stm) g cdv A outer s H E).nox (ZF stm) body) :
  J7 P w K mg base c m (k+1) ps.length (Q5 N.length body):=⟨C,g,fd,ps,nc,cl,me,QbH F Sc h,F.binds hb⟩
theorem QbQ {P:Program} {w:World} {K:PySem.W.Frag} {mg:Str->Option Value} {base:Heap} {c qual:Str} {stm:Stmt} {C g:Addr} {fd:FuncData} {N ps:List Str} {k:Nat} {body:DSx} (nc:ClsN K c C) (hm:mg c=some (.ref C)) (me:Mk K C g) (F:Fun K "__init__" qual stm g fd) (Sc:Qs N ps (Qo stm))
  (hb:∀ (kV doc pm:Value) (an:Option Addr) (cdv ct:Value) (us:List Value),us.length=ps.length->bindArgs (PySem.W.fnOf "__init__" qual (Jy stm) (ZF stm) (Qo stm) .none kV doc pm an cdv ct) ⟨us,[]⟩=pure (ps.zip us))
  (h:∀ (cdv:Value) (A:Around) (outer:List Env) (s:Shared) (H:Hp) (E:XK),Room k (A.deeper (envOfC qual (Qo stm) s.heap.objs.size g cdv))->DSs (yR CX0 P w K mg base N qual (Qo stm) g cdv A outer s H E).nox (ZF stm) body) :
  Qab P w K mg base c (k+1) ps.length (Q5 N.length body):=⟨C,g,fd,ps,nc,hm,me,QbH F Sc h,F.binds hb⟩
section
variable {X:Cx}
def QcF:DSx:=fun _=>failure
theorem gO {st:Stmt}:DS X st QcF:=L2.PS.imp Qcx fun D σ H ⟨Z,env,ρ,B,hp,fl,env',hp',S,e,k⟩=>by cases e
def GA (i:Nat) (op:DV->DV->M DV) (fe:DEx):DSx:=fun env=>do let v <- Qb i env;let y <- fe env;let z <- op v y;pure (.nx,env.set i (.val z))
end
end D
namespace D
open PySem PySem.Spec PyProof.Rows L2
theorem JJ {α β:Type} (m:M α) (k:α->M β) (hp:Hs):(m >>= k) hp=(m hp).bind fun p=>k p.1 p.2:=by
 show (StateT.bind m k hp)=_
 unfold StateT.bind
 cases m hp with
 | none=>rfl
 | some p=>obtain ⟨a,h⟩:=p;rfl
theorem Yb {α β:Type} (f:α->β) (m:M α) (hp:Hs):(f <$> m) hp=(m hp).map fun p=>(f p.1,p.2):=by
 show (StateT.map f m hp)=_
 unfold StateT.map
 cases m hp with
 | none=>rfl
 | some p=>obtain ⟨a,h⟩:=p;rfl
theorem JK {α:Type} (a:α) (hp:Hs):(pure a:M α) hp=some (a,hp):=rfl
theorem Xm {α:Type} (hp:Hs):(failure:M α) hp=none:=rfl
theorem JX (b:Bool) (hp:Hs):Qv b hp=if b=true then some ((),hp) else none:=by cases b<;>rfl
theorem Ya (n:Nat) (hp:Hs):ZG n hp=(hp[n]?).map fun o=>(o,hp):=by unfold ZG;cases hp[n]?<;>rfl
theorem Yd (n:Nat) (o:OV) (hp:Hs):xA n o hp=some ((),hp.set n o):=rfl
theorem Yc (o:OV) (hp:Hs):Xf o hp=some (.ref hp.length,hp++[o]):=rfl
theorem Zt (hp:Hs) (k:Nat) (X:OV) (h:(hp[k]?).isSome=true):(hp.set k X)[k]?=some X:=by
 have:k < hp.length:=by
  rcases Nat.lt_or_ge k hp.length with q | q
  ·exact q
  ·rw [List.getElem?_eq_none q] at h;cases h
 rw [List.getElem?_set_self this]
theorem QI (hp:Hs) (k n:Nat) (X:OV) (h:k≠n):(hp.set k X)[n]?=hp[n]?:=List.getElem?_set_ne h
theorem Jk (hp:Hs) (X:OV):(hp++[X])[hp.length]?=some X:=by simp
end D
namespace D
open PySem PySem.Spec PyProof.Rows L2
mutual
def KRep (K:PySem.W.Frag):DV->V->Prop
 | .non,v=>v=.non
 | .bl b,v=>v=.bl b
 | .int i,v=>v=.int i
 | .str x,v=>v=.str x
 | .tup ds,v=>∃ (a:Addr) (o:Obj) (its:Array Value) (n:Nat) (xs:List V),v=.ref a/\K.lookup a=some o/\o.cls=.type "tuple" /\ o.data=.seq its n/\its.size<=sizeLine/\Vals xs its.toList/\KRepL K ds xs
 | _,_=>False
def KRepL (K:PySem.W.Frag):List DV->List V->Prop
 | [],xs=>xs=[]
 | d::ds,xs=>∃ x r,xs=x::r/\KRep K d x/\KRepL K ds r
end
mutual
theorem KRep.rep {K:PySem.W.Frag} {ρ:List Addr} {B:Addr->Prop} {H:Hp} (hb:∀ a,B a->K.lookup a=none):∀ (d:DV) (v:V),KRep K d v->RepV K ρ B H d v
  | .non,_,h=>by unfold KRep at h;unfold RepV;exact h
  | .bl _,_,h=>by unfold KRep at h;unfold RepV;exact h
  | .int _,_,h=>by unfold KRep at h;unfold RepV;exact h
  | .str _,_,h=>by unfold KRep at h;unfold RepV;exact h
  | .lst _,_,h=>by unfold KRep at h;exact h.elim
  | .ref _,_,h=>by unfold KRep at h;exact h.elim
  | .tup ds,_,h=>by
    unfold KRep at h;unfold RepV
    obtain ⟨a,o,its,n,xs,rfl,h1,h2,h3,h4,h5,h6⟩:=h
    exact ⟨a,xs,rfl,fun z=>(by rw [hb a z] at h1;cases h1),.inr ⟨o,its,n,h1,h2,h3,h4,h5⟩,KRepL.rep hb ds xs h6⟩
theorem KRepL.rep {K:PySem.W.Frag} {ρ:List Addr} {B:Addr->Prop} {H:Hp} (hb:∀ a,B a->K.lookup a=none):∀ (ds:List DV) (xs:List V),KRepL K ds xs->RepL K ρ B H ds xs
  | [],_,h=>by unfold KRepL at h;unfold RepL;exact h
  | d::ds,_,h=>by
    unfold KRepL at h;unfold RepL
    obtain ⟨x,r,e,h1,h2⟩:=h
    exact ⟨x,r,e,KRep.rep hb d x h1,KRepL.rep hb ds r h2⟩
end
theorem uG {K:PySem.W.Frag} {ds:List DV} {a:Addr} {od:Option Addr} {its:Array Value} {n:Nat} {sl:Array (Option Value)} {xs:List V} (h:K.lookup a=some ⟨.type "tuple", od,.seq its n,sl⟩) (hs:its.size<=sizeLine) (hv:Vals xs its.toList) (hl:KRepL K ds xs):KRep K (.tup ds) (.ref a):=by
 unfold KRep;exact ⟨a,_,its,n,xs,rfl,h,rfl,rfl,hs,hv,hl⟩
theorem QbX {K:PySem.W.Frag}:KRep K .non .non:=by unfold KRep;rfl
theorem QfC {K:PySem.W.Frag} {i:Int}:KRep K (.int i) (.int i):=by unfold KRep;rfl
theorem Gj {K:PySem.W.Frag}:KRepL K [] []:=by unfold KRepL;rfl
theorem zt {K:PySem.W.Frag} {d:DV} {ds:List DV} {x:V} {r:List V} (h:KRep K d x) (h':KRepL K ds r):KRepL K (d::ds) (x::r):=by unfold KRepL;exact ⟨x,r,rfl,h,h'⟩
theorem Qdq {X:Cx} {x:Str} {ds:List DV} {a:Addr} {pos:Pos} (hg:Gl X x) (hm:X.mg x=some (.ref a)) (hk:KRep X.K (.tup ds) (.ref a)) (hd:(x==("__debug__" : Str))=false:=by decide):DE X (.Name x pos) (eC (.tup ds)) :=
 (kG (v:=.ref a) hg hm rfl hd).imp fun σ H Q ⟨Z,env,ρ,B,hp,d',hp',S,e,k⟩=>by
  obtain ⟨rfl,rfl⟩:=Qi e
  exact k _ ρ B H Gr.refl S.wo (KRep.rep S.wo.bk _ _ hk)
end D
namespace D
open PySem PySem.Spec PyProof.Rows L2
theorem QbJ (hp:Hs) (x:OV) (t:Hs):(hp++x::t)[hp.length]?=some x:=by simp
theorem QcL (hp:Hs) (x y:OV) (t:Hs):(hp++x::t).set hp.length y=hp++y::t:=by
 rw [List.set_append_right _ _ (Nat.le_refl _)];simp
theorem YK {hp:Hs} {n:Nat} {x:OV} (h:hp[n]?=some x):hp.set n x=hp:=by
 obtain ⟨hl,rfl⟩:=List.getElem?_eq_some_iff.mp h
 exact List.set_getElem_self hl
theorem kN {n i:Nat} {d:DV} (h:(ZR 0 n)[i]?=some d):i < n/\d=.int (i:Int):=by
 obtain ⟨h1,h2⟩:=uW h
 exact ⟨h1,by rw [h2];simp⟩
theorem Qa3 {n:Nat} (h:n<=1000000):Ub (n:Int)=true:=QcS (by omega) (by omega)
theorem Qcd {i:Int} (h:0<=i):∃ j:Nat,i=j:=⟨i.toNat,by omega⟩
theorem kj {n i:Nat} (h:i < n):ixN n (i:Int)=some i:=by unfold ixN;rw [if_pos (by omega),if_pos (by omega)];simp
theorem Qeq {m:Nat} (h:m<=1000000) (hp:Hs):QaZ [.int (m:Int)] hp=some (ZR 0 m,hp):=by
 have e:QaZ [.int (m:Int)]=pure (ZR 0 (m:Int).toNat):=by
  simp only [QaZ,Qa3 h,Qv,if_true,pure_bind]
 rw [e,Int.toNat_natCast];rfl
theorem Ge {f:DAx} {env:En} {hp hp1:Hs} {m:Nat} (h:f env hp=some ([.int (m:Int)],hp1)) (hm:m<=1000000):uE f env hp=some (ZR 0 m,hp1):=by
 unfold uE
 rw [Qg h];exact Qeq hm hp1
end D
namespace D
open PySem PySem.Spec PyProof.Rows L2
section
variable {X:Cx}
def xc (x:DV):List DV->M DV
 | [y]=>onL x fun n ds=>onL y fun _ es=>do Qv (decide (ds.length+es.length<=lim));xA n (.lst (ds++es));pure .non
 | _=>failure
theorem Qb5:MtR X "list.extend" (tPm X.K xc):=by
 intro pins s σ H x vs v us Q I rx rv h
 obtain ⟨ρ,B,hp,dx,es,d,hp',W,r1,r2,e,k⟩:=h
 unfold xc at e
 split at e
 ·rename_i y
  obtain ⟨n,ds,rfl,h0,e⟩:=VI e
  obtain ⟨m,zs,rfl,h0',e⟩:=VI e
  obtain ⟨_,hp1,e1,e2⟩:=Qf e
  obtain ⟨hl,rfl⟩:=QC e1
  cases e2
  obtain ⟨a,rfl,i1,xs,h1,l1⟩:=RepV.refW W r1 h0
  obtain ⟨w,rfl,rw'⟩:=r2.oneI
  obtain ⟨b,rfl,i2,ys,h2,l2⟩:=RepV.refW W rw' h0'
  obtain ⟨g,W'⟩:=Um W i1 h1 (RepL.append l1 l2)
  exact QaJ pins s σ H _ _ v us Q I rx rv ⟨a,b,xs,ys,rfl,rfl,h1,h2,by rw [<- l1.length,<- l2.length];exact Nat.le_trans (of_decide_eq_true hl) Gq,k _ ρ B _ g W' qL⟩
 ·cases e
end
end D
namespace L2
open PySem PySem.Spec PyProof.Rows
abbrev XR (h:Heap) (z p o:Addr) (f:Value) (b:Bool):Prop:=h.get? z=some { cls:=Value.type "zip", data:=Data.fields #[f,Value.bool b,Value.bool false,Value.ref p,Value.ref o] }
structure ZU (h:Heap) (z p o i j a b:Addr) (n:Nat):Prop where
 zz:∃ f fl,XR h z p o f fl/\(f=.none∨∃ T:Nat,f=rawInt T)
 pp:IsPair h p (.ref i) (.ref j)
 oo:∃ x y,IsPair h o x y
 ii:h.IsTupleIter i a n
 jj:h.IsTupleIter j b n
section
variable {prog:Program} {w:World} {A:Around} {E:Value->Shared->Prop} {s:Shared}
theorem ub {a:Addr} {Q:Option Obj->Shared->Prop} (h:Q (s.heap.get? a) s):wpAny (model prog w) A (loadIfAlive a) Q E s:=by
 intro Γ p hΓ
 unfold loadIfAlive
 rw [Sem.wp_loadIfAlive]
 exact wpAny_pure (M:=model prog w) (A:=A) (E:=E) h Γ p hΓ
theorem Qaa {z p o:Addr} {f:Value} {fl:Bool} {Q:Bool->Shared->Prop} (zz:XR s.heap z p o f fl) (hf:f=.none∨∃ T:Nat,f=rawInt T) (q1:Q true s) (q2:∀ g,XR g z p o f true->Heap.ExtBut z s.heap g->g.objs.size=s.heap.objs.size->Q false { s with heap:=g }) :
    wpAny (model prog w) A (Builtin.SmallTypes.ownedTupleIsFree (.ref z)) Q E s:=by
  unfold Builtin.SmallTypes.ownedTupleIsFree
  rcases hf with rfl | ⟨T,rfl⟩
  . exact wpAny_bind (wpAny_field zz rfl (x:=.none) rfl (wpAny_pure q1))
  . refine wpAny_bind (wpAny_field zz rfl (x:=rawInt T) rfl ?_)
    show wpAny _ _ (loadIfAlive (T:Int).toNat >>= _) _ _ _
    refine wpAny_bind (ub ?_)
    cases hT:s.heap.get? (T:Int).toNat with
    | none=>exact wpAny_pure q1
    | some ob =>
      show wpAny _ _ (field (.ref z) 1 >>= _) _ _ _
      refine wpAny_bind (wpAny_field zz rfl (x:=.bool fl) rfl ?_)
      cases fl with
      | true=>exact wpAny_pure (q2 _ zz (fun _ _ _ e=>e) rfl)
      | false =>
        show wpAny _ _ (setField (.ref z) 1 (.bool true) >>= _) _ _ _
        exact wpAny_bind (wpAny_setField_rec zz (by simp) fun g z1 k1=>wpAny_pure (q2 g z1 k1.extBut k1.1))
theorem QeM {z p o i j a b:Addr} {n:Nat} {xs ys:Array Value} {x y:Value} {Q:Value->Shared->Prop} (D:ZA z p o i j a b) (S:ZU s.heap z p o i j a b n) (ha:s.heap.IsTuple a xs) (hb:s.heap.IsTuple b ys) (hx:xs[n]?=some x) (hy:ys[n]?=some y)
  (k:∀ g,ZU g z p o i j a b (n+1)->IsPair g s.heap.objs.size x y->g.objs.size=s.heap.objs.size+1->(∀ c u,c≠z->c≠o->c≠i->c≠j->s.heap.get? c=some u->g.get? c=some u)->Q (.ref s.heap.objs.size) { s with heap:=g }) :
  wpAny (model prog w) A (Builtin.«zip.__next__» ⟨[.ref z],[]⟩) (fun fin s'=>∃ v,fin=.done (.ret v)/\Q v s') E s:=by
 obtain ⟨⟨f,fl,zz,hf⟩,pp,⟨u1,u2,oo⟩,ii,jj⟩:=S
 have ht:∀ {g g':Heap} {q c:Addr} {vs:Array Value},Heap.SameBut q g g'->c≠q->g.IsTuple c vs->g'.IsTuple c vs:=fun {g g' q c vs} sb hc ⟨ob,e,r⟩=>⟨ob,sb.extBut _ _ hc e,r⟩
 show wpAny _ _ (field (.ref z) 2 >>= _) _ _ _
 refine wpAny_bind (wpAny_field zz rfl (x:=.bool false) rfl ?_)
 show wpAny _ _ (field (.ref z) 3 >>= _) _ _ _
 refine wpAny_bind (wpAny_field zz rfl (x:=.ref p) rfl ?_)
 refine wpAny_bind (wpAny_seqItems pp rfl ?_)
 show wpAny _ _ (Builtin.SmallTypes.ownedTupleIsFree (.ref z) >>= _) _ _ _
 refine wpAny_bind (Qaa zz hf ?_ ?_)
 ·simp only [if_true]
  refine wpAny_bind (wpAny_rule ?_)
  refine wpAny_bind (wpAny_field zz rfl (x:=.ref o) rfl ?_)
  refine wpAny_bind (wpAny_setField_rec zz (by simp) fun g1 z1 k1=>?_)
  replace z1:XR g1 z p o .ellipsis fl:=z1
  refine wpAny_bind ?_
  simp only [List.zipIdx_cons,List.zipIdx_nil,List.forIn_cons,List.forIn_nil]
  refine wpAny_bind (wpAny_bind (wpAny_onRaise ?_))
  show wpAny _ _ (Builtin.SmallTypes.nextOf (.ref i) >>= _) _ _ _
  refine wpAny_bind (zW (ii.extBut k1.extBut D.iz) (ht k1 D.az ha) hx fun g2 i2 k2=>wpAny_pure ?_)
  have o2:IsPair g2 o u1 u2:=k2.extBut _ _ D.oi (k1.extBut _ _ D.oz oo)
  refine wpAny_bind (wpAny_seqItems o2 rfl ?_)
  refine wpAny_bind (wpAny_updateSeq_pair o2 fun g3 o3 k3=>?_)
  replace o3:IsPair g3 o x u2:=o3
  refine wpAny_bind (wpAny_letGo (wpAny_pure ?_))
  refine wpAny_bind (wpAny_bind (wpAny_onRaise ?_))
  show wpAny _ _ (Builtin.SmallTypes.nextOf (.ref j) >>= _) _ _ _
  refine wpAny_bind (zW (((jj.extBut k1.extBut D.jz).extBut k2.extBut D.ij.symm).extBut k3.extBut D.oj.symm) (ht k3 D.bo (ht k2 D.bi (ht k1 D.bz hb))) hy fun g4 j4 k4=>wpAny_pure ?_)
  have o4:IsPair g4 o x u2:=k4.extBut _ _ D.oj o3
  refine wpAny_bind (wpAny_seqItems o4 rfl ?_)
  refine wpAny_bind (wpAny_updateSeq_pair o4 fun g5 o5 k5=>?_)
  replace o5:IsPair g5 o x y:=o5
  refine wpAny_bind (wpAny_letGo (wpAny_pure (wpAny_pure ?_)))
  refine wpAny_bind (wpAny_seqItems o5 rfl ?_)
  refine wpAny_bind (wpAny_newTuple ?_)
  have sz:g5.objs.size=s.heap.objs.size:=by rw [k5.1,k4.1,k3.1,k2.1,k1.1]
  have z5:XR g5 z p o .ellipsis fl:=k5.extBut _ _ D.oz.symm (k4.extBut _ _ D.jz.symm (k3.extBut _ _ D.oz.symm (k2.extBut _ _ D.iz.symm z1)))
  have kk:∀ c u,c≠z->c≠o->c≠i->c≠j->s.heap.get? c=some u->g5.get? c=some u:=fun c u c1 c2 c3 c4 e=>k5.extBut _ _ c2 (k4.extBut _ _ c4 (k3.extBut _ _ c2 (k2.extBut _ _ c3 (k1.extBut _ _ c1 e))))
  have i5:g5.IsTupleIter i a (n+1):=((i2.extBut k3.extBut D.oi.symm).extBut k4.extBut D.ij).extBut k5.extBut D.oi.symm
  have j5:g5.IsTupleIter j b (n+1):=j4.extBut k5.extBut D.oj.symm
  have zl:z < g5.objs.size:=Heap.lt_size z5
  show wpAny _ _ (Builtin.SmallTypes.ownedTupleHandOut (.ref z) (.ref g5.objs.size) >>= _) _ _ _
  refine wpAny_bind ?_
  unfold Builtin.SmallTypes.ownedTupleHandOut
  have z6:XR (g5.push { cls:=.type "tuple", data:=.seq #[x,y] }) z p o .ellipsis fl:=Heap.get?_push_of_some _ z5
  refine wpAny_bind (wpAny_setField_rec z6 (by simp) fun g7 z7 k7=>?_)
  replace z7:XR g7 z p o (rawInt g5.objs.size) fl:=z7
  refine wpAny_setField_rec z7 (by simp) fun g8 z8 k8=>?_
  replace z8:XR g8 z p o (rawInt g5.objs.size) false:=z8
  have up:∀ c u,c≠z->g5.get? c=some u->g8.get? c=some u:=fun c u c1 e=>k8.extBut _ _ c1 (k7.extBut _ _ c1 (Heap.get?_push_of_some _ e))
  have t8:IsPair g8 g5.objs.size x y:=k8.extBut _ _ (Nat.ne_of_gt zl) (k7.extBut _ _ (Nat.ne_of_gt zl) (Heap.get?_push_size _ rfl))
  have s8:g8.objs.size=g5.objs.size+1:=by rw [k8.1,k7.1,Heap.size_push]
  refine wpAny_pure ⟨_,rfl,?_⟩
  show Q (.ref g5.objs.size) _
  rw [sz] at z8 t8 s8
  rw [sz]
  exact k g8 ⟨⟨_,_,z8,.inr ⟨_,rfl⟩⟩,up _ _ D.pz (kk _ _ D.pz D.po D.pi D.pj pp),⟨x,y,up _ _ D.oz o5⟩,i5.at fun u e=>up _ u D.iz e,j5.at fun u e=>up _ u D.jz e⟩ t8 s8 fun c u c1 c2 c3 c4 e=>up c u c1 (kk c u c1 c2 c3 c4 e)
 ·intro g1 z1 k1 sz1
  simp only [Bool.false_eq_true,if_false]
  refine wpAny_bind ?_
  have ia1:g1.IsTuple a xs:=let ⟨ob,e,r⟩:=ha;⟨ob,k1 _ _ D.az e,r⟩
  have ib1:g1.IsTuple b ys:=let ⟨ob,e,r⟩:=hb;⟨ob,k1 _ _ D.bz e,r⟩
  simp only [List.forIn_toArray,List.forIn_cons,List.forIn_nil]
  refine wpAny_bind (wpAny_bind (wpAny_holding ?_))
  show wpAny _ _ (Builtin.SmallTypes.nextOf (.ref i) >>= _) _ _ _
  refine wpAny_bind (zW (s:={ s with heap:=g1 }) (ii.extBut k1 D.iz) ia1 hx fun g2 i2 k2=>wpAny_pure (wpAny_pure ?_))
  refine wpAny_bind (wpAny_bind (wpAny_holding ?_))
  show wpAny _ _ (Builtin.SmallTypes.nextOf (.ref j) >>= _) _ _ _
  refine wpAny_bind (zW (s:={ s with heap:=g2 }) ((jj.extBut k1 D.jz).extBut k2.extBut D.ij.symm) (ht k2 D.bi ib1) hy fun g3 j3 k3=>wpAny_pure (wpAny_pure ?_))
  refine wpAny_pure ?_
  refine wpAny_bind (wpAny_newTuple ?_ (show (2:Nat)<=sizeLine by decide))
  have sz:g3.objs.size=s.heap.objs.size:=by rw [k3.1,k2.1,sz1]
  have kk:∀ c u,c≠z->c≠i->c≠j->s.heap.get? c=some u->(g3.push { cls:=.type "tuple", data:=.seq #[x,y] }).get? c=some u:=fun c u c1 c3 c4 e=>Heap.get?_push_of_some _ (k3.extBut _ _ c4 (k2.extBut _ _ c3 (k1 _ _ c1 e)))
  have z3:XR (g3.push { cls:=.type "tuple", data:=.seq #[x,y] }) z p o f true:=Heap.get?_push_of_some _ (k3.extBut _ _ D.jz.symm (k2.extBut _ _ D.iz.symm z1))
  refine wpAny_pure ⟨_,rfl,?_⟩
  show Q (.ref g3.objs.size) _
  rw [sz]
  refine k _ ⟨⟨f,true,z3,hf⟩,kk _ _ D.pz D.pi D.pj pp,⟨u1,u2,kk _ _ D.oz D.oi D.oj oo⟩,(i2.extBut k3.extBut D.ij).at fun u e=>Heap.get?_push_of_some _ e,j3.at fun u e=>Heap.get?_push_of_some _ e⟩ ?_ (by rw [Heap.size_push,sz]) fun c u c1 _ c3 c4 e=>kk c u c1 c3 c4 e
  rw [<- sz];exact Heap.get?_push_size _ rfl
theorem QeN {z p o i j a b:Addr} {n:Nat} {xs ys:Array Value} {Q:PySem.Fin->Shared->Prop} (hh:A.handled=none) (D:ZA z p o i j a b) (S:ZU s.heap z p o i j a b n) (ha:s.heap.IsTuple a xs) (hb:s.heap.IsTuple b ys) (he:xs[n]?=none∨ys[n]?=none)
    (k:∀ g x,(∀ c u,c≠z->c≠o->c≠i->c≠j->s.heap.get? c=some u->g.get? c=some u)->(∃ u,g.get? x=some u/\u.cls=.type "StopIteration")->E (.ref x) { s with heap:=g }) :
    wpAny (model prog w) A (Builtin.«zip.__next__» ⟨[.ref z],[]⟩) Q E s:=by
  obtain ⟨⟨f,fl,zz,hf⟩,pp,⟨u1,u2,oo⟩,ii,jj⟩:=S
  have ht:∀ {g g':Heap} {q c:Addr} {vs:Array Value},Heap.SameBut q g g'->c≠q->g.IsTuple c vs->g'.IsTuple c vs:=fun {g g' q c vs} sb hc ⟨ob,e,r⟩=>⟨ob,sb.extBut _ _ hc e,r⟩
  show wpAny _ _ (field (.ref z) 2 >>= _) _ _ _
  refine wpAny_bind (wpAny_field zz rfl (x:=.bool false) rfl ?_)
  show wpAny _ _ (field (.ref z) 3 >>= _) _ _ _
  refine wpAny_bind (wpAny_field zz rfl (x:=.ref p) rfl ?_)
  refine wpAny_bind (wpAny_seqItems pp rfl ?_)
  show wpAny _ _ (Builtin.SmallTypes.ownedTupleIsFree (.ref z) >>= _) _ _ _
  refine wpAny_bind (Qaa zz hf ?_ ?_)
  . simp only [if_true]
    refine wpAny_bind (wpAny_rule ?_)
    refine wpAny_bind (wpAny_field zz rfl (x:=.ref o) rfl ?_)
    refine wpAny_bind (wpAny_setField_rec zz (by simp) fun g1 z1 k1=>?_)
    replace z1:XR g1 z p o .ellipsis fl:=z1
    refine wpAny_bind ?_
    simp only [List.zipIdx_cons,List.zipIdx_nil,List.forIn_cons,List.forIn_nil]
    refine wpAny_bind (wpAny_bind (wpAny_onRaise ?_))
    show wpAny _ _ (Builtin.SmallTypes.nextOf (.ref i) >>= _) _ _ _
    cases hx:xs[n]? with
    | none =>
      refine wpAny_bind (GN hh (ii.extBut k1.extBut D.iz) (ht k1 D.az ha) hx fun g2 x k2 h2=>?_)
      obtain ⟨oe,h3,h4⟩:=h2
      have z2:XR g2 z p o .ellipsis fl:=k2 _ _ D.iz.symm z1
      have xz:x≠z:=fun q=>by subst q;rw [z2] at h3;cases h3;simp at h4
      exact wpAny_setField_rec z2 (by simp) fun g3 _ k3=>k g3 x (fun c u c1 _ c3 _ e=>k3.extBut _ _ c1 (k2 _ _ c3 (k1.extBut _ _ c1 e))) ⟨oe,k3.extBut _ _ xz h3,h4⟩
    | some x0 =>
      have hy:ys[n]?=none:=by rcases he with h | h;rw [hx] at h;cases h;exact h
      refine wpAny_bind (zW (ii.extBut k1.extBut D.iz) (ht k1 D.az ha) hx fun g2 i2 k2=>wpAny_pure ?_)
      have o2:IsPair g2 o u1 u2:=k2.extBut _ _ D.oi (k1.extBut _ _ D.oz oo)
      refine wpAny_bind (wpAny_seqItems o2 rfl ?_)
      refine wpAny_bind (wpAny_updateSeq_pair o2 fun g3 o3 k3=>?_)
      refine wpAny_bind (wpAny_letGo (wpAny_pure ?_))
      refine wpAny_bind (wpAny_bind (wpAny_onRaise ?_))
      show wpAny _ _ (Builtin.SmallTypes.nextOf (.ref j) >>= _) _ _ _
      refine wpAny_bind (GN hh (((jj.extBut k1.extBut D.jz).extBut k2.extBut D.ij.symm).extBut k3.extBut D.oj.symm) (ht k3 D.bo (ht k2 D.bi (ht k1 D.bz hb))) hy fun g4 x k4 h2=>?_)
      obtain ⟨oe,h3,h4⟩:=h2
      have z4:XR g4 z p o .ellipsis fl:=k4 _ _ D.jz.symm (k3.extBut _ _ D.oz.symm (k2.extBut _ _ D.iz.symm z1))
      have xz:x≠z:=fun q=>by subst q;rw [z4] at h3;cases h3;simp at h4
      exact wpAny_setField_rec z4 (by simp) fun g5 _ k5=>k g5 x (fun c u c1 c2 c3 c4 e=>k5.extBut _ _ c1 (k4 _ _ c4 (k3.extBut _ _ c2 (k2.extBut _ _ c3 (k1.extBut _ _ c1 e))))) ⟨oe,k5.extBut _ _ xz h3,h4⟩
  . intro g1 z1 k1 sz1
    simp only [Bool.false_eq_true,if_false]
    refine wpAny_bind ?_
    have ia1:g1.IsTuple a xs:=let ⟨ob,e,r⟩:=ha;⟨ob,k1 _ _ D.az e,r⟩
    have ib1:g1.IsTuple b ys:=let ⟨ob,e,r⟩:=hb;⟨ob,k1 _ _ D.bz e,r⟩
    simp only [List.forIn_toArray,List.forIn_cons,List.forIn_nil]
    refine wpAny_bind (wpAny_bind (wpAny_holding ?_))
    show wpAny _ _ (Builtin.SmallTypes.nextOf (.ref i) >>= _) _ _ _
    cases hx:xs[n]? with
    | none =>
      exact wpAny_bind (GN (s:={ s with heap:=g1 }) hh (ii.extBut k1 D.iz) ia1 hx fun g2 x k2 h2=>k g2 x (fun c u c1 _ c3 _ e=>k2 _ _ c3 (k1 _ _ c1 e)) h2)
    | some x0 =>
      have hy:ys[n]?=none:=by rcases he with h | h;rw [hx] at h;cases h;exact h
      refine wpAny_bind (zW (s:={ s with heap:=g1 }) (ii.extBut k1 D.iz) ia1 hx fun g2 i2 k2=>wpAny_pure (wpAny_pure ?_))
      refine wpAny_bind (wpAny_bind (wpAny_holding ?_))
      show wpAny _ _ (Builtin.SmallTypes.nextOf (.ref j) >>= _) _ _ _
      exact wpAny_bind (GN (s:={ s with heap:=g2 }) hh ((jj.extBut k1 D.jz).extBut k2.extBut D.ij.symm) (ht k2 D.bi ib1) hy fun g3 x k3 h2=>k g3 x (fun c u c1 _ c3 c4 e=>k3 _ _ c4 (k2.extBut _ _ c3 (k1 _ _ c1 e))) h2)
end
theorem ZU.at {h h':Heap} {z p o i j a b:Addr} {n:Nat} (S:ZU h z p o i j a b n) (k:∀ c∈[z,p,o,i,j],∀ u,h.get? c=some u->h'.get? c=some u):ZU h' z p o i j a b n:=by
 obtain ⟨⟨f,fl,zz,hf⟩,pp,⟨u1,u2,oo⟩,ii,jj⟩:=S
 exact ⟨⟨f,fl,k z (by simp) _ zz,hf⟩,k p (by simp) _ pp,⟨u1,u2,k o (by simp) _ oo⟩,ii.at fun u e=>k i (by simp) u e,jj.at fun u e=>k j (by simp) u e⟩
inductive Qbc:Expr->Prop
 | nm (x:Str) (p:Pos):Qbc (.Name x p)
 | tp (l:List Expr) (k:Nat) (p:Pos):Qbc (.Tuple l k p)
theorem QhQ {prog:Program} {w:World} {A:Around} {E:Value->Shared->Prop} {s:Shared} {tg:Expr} (ht:Qbc tg) {z p o i j a b T:Addr} {n:Nat} {Q:Unit->Shared->Prop} (D:ZA z p o i j a b) (S:ZU s.heap z p o i j a b n) (hQ:∀ h',ZU h' z p o i j a b n->Heap.ExtBut z s.heap h'->Q () { s with heap:=h' }):wpAny (model prog w) A (letOwnedTupleGo tg (.ref z) (.ref T)) Q E s:=by
  cases ht with
  | nm x p'=>exact wpAny_pure (hQ s.heap S fun _ _ _ e=>e)
  | tp l k p' =>
    obtain ⟨f,fl,zz,hf⟩:=S.zz
    unfold letOwnedTupleGo
    refine wpAny_bind (wpAny_load zz ?_)
    dsimp only
    split
    . refine wpAny_bind (wpAny_rule ?_)
      show wpAny _ _ (setField (.ref z) 0 .none) Q E s
      obtain ⟨_,pp,⟨u1,u2,oo⟩,ii,jj⟩:=S
      exact wpAny_setField_rec zz (by simp) fun h' z' k'=>hQ h' ⟨⟨.none,fl,z',.inl rfl⟩,k'.extBut _ _ D.pz pp,⟨u1,u2,k'.extBut _ _ D.oz oo⟩,ii.extBut k'.extBut D.iz,jj.extBut k'.extBut D.jz⟩ k'.extBut
    . exact wpAny_pure (hQ s.heap S fun _ _ _ e=>e)
theorem KB {P:Program} {w:World} {K:PySem.W.Frag} {tg:Expr} (ht:Qbc tg) {z p o i j a b:Addr} (D:ZA z p o i j a b):Qad P w K tg (Itz K a b) [z,p,o,i,j] z (fun n h=>ZU h z p o i j a b n) where
 mem:=by simp
 obj:=fun n h S c hc=>by
  obtain ⟨⟨f,fl,zz,hf⟩,pp,⟨u1,u2,oo⟩,⟨oi,ei,ci,di⟩,⟨oj,ej,cj,dj⟩⟩:=S
  simp only [List.mem_cons,List.not_mem_nil,or_false] at hc
  rcases hc with rfl | rfl | rfl | rfl | rfl
  ·exact ⟨_,zz,fun v q=>by have q':Data.fields _=Data.cell v:=q;cases q'⟩
  ·exact ⟨_,pp,fun v q=>by have q':Data.seq _ _=Data.cell v:=q;cases q'⟩
  ·exact ⟨_,oo,fun v q=>by have q':Data.seq _ _=Data.cell v:=q;cases q'⟩
  ·exact ⟨oi,ei,fun v q=>by rw [di] at q;cases q⟩
  ·exact ⟨oj,ej,fun v q=>by rw [dj] at q;cases q⟩
 keep:=fun n h h' S k=>S.at k
 item:=by
  intro X hP hw hK hc n pins s σ H E I hf S hg
  subst hP hw hK
  obtain ⟨xs,ys,x,y,qa,qb,hx,hy⟩:=hg
  obtain ⟨ia,ra,pa,_⟩:=I.tuple qa
  obtain ⟨ib,rb,pb,_⟩:=I.tuple qb
  obtain ⟨u,hu,ru⟩:=ra.get hx
  obtain ⟨v,hv,rv⟩:=rb.get hy
  obtain ⟨f0,fl0,zz0,hf0⟩:=S.zz
  have hT:s.TypeIs (.ref z) "zip" := ⟨_,zz0,rfl⟩
  unfold pyNext
  refine wpAny_bind (wpAny_attempt (wpAny_callSpecial?_slot (name:=Str.ofString "__next__") hT F.slot_zip_next (wpAny_call_entry F.slot_zip_next hT F.entry_zip_next
   (QeM D S (show s.heap.IsTuple a ia.toArray from pa) (show s.heap.IsTuple b ib.toArray from pb) (by simpa using hu) (by simpa using hv) fun g' S' tp sz kp=>wpAny_pure ?_) (F.args_zip_next_1 _))))
  refine ⟨_,rfl,QhQ (s:={ s with heap:=g' }) ht D S' fun g2 S' kx=>?_⟩
  replace tp:=kx _ _ (Nat.ne_of_gt (Heap.lt_size zz0)) tp
  have kp':∀ c q,c∉[z,p,o,i,j]->s.heap.get? c=some q->g2.get? c=some q:=fun c q hc e=>by
   simp only [List.mem_cons,List.not_mem_nil,or_false,not_or] at hc
   refine kx _ _ hc.1 (kp c q hc.1 hc.2.2.1 hc.2.2.2.1 hc.2.2.2.2 e)
  have ne:∀ c∈[z,p,o,i,j],c≠s.heap.objs.size:=fun c hc e=>by
   obtain ⟨_,pp,⟨u1,u2,oo⟩,⟨oi,ei,_⟩,⟨oj,ej,_⟩⟩:=S
   simp only [List.mem_cons,List.not_mem_nil,or_false] at hc
   rcases hc with rfl | rfl | rfl | rfl | rfl
   ·exact Nat.ne_of_lt (Heap.lt_size zz0) e
   ·exact Nat.ne_of_lt (Heap.lt_size pp) e
   ·exact Nat.ne_of_lt (Heap.lt_size oo) e
   ·exact Nat.ne_of_lt (Heap.lt_size ei) e
   ·exact Nat.ne_of_lt (Heap.lt_size ej) e
  refine ⟨.ref s.heap.objs.size,upd H s.heap.objs.size (.tup [x,y]),I.turnNew (t':=s.toks) hf kp' (us:=[u,v]) (.cons ru (.cons rv .nil)) (show 2<=sizeLine by decide) ⟨_,tp,rfl,_,rfl⟩,rfl,
   ⟨_,x,y,I.hok.fresh (Nat.le_refl _),fun xs' h=>by rw [I.tuple_inj h qa];exact hx,fun ys' h=>by rw [I.tuple_inj h qb];exact hy,rfl,rfl⟩,S',fun c hc=>?_⟩
  rw [Q4 (ne c hc)];exact (hf c hc).1
 done:=by
  intro X hP hw hK hc n pins s σ H E I hf S hg
  subst hP hw hK
  obtain ⟨xs,ys,qa,qb,hs⟩:=hg
  obtain ⟨ia,ra,pa,_⟩:=I.tuple qa
  obtain ⟨ib,rb,pb,_⟩:=I.tuple qb
  have l1:=ra.length
  have l2:=rb.length
  obtain ⟨f0,fl0,zz0,hf0⟩:=S.zz
  have hT:s.TypeIs (.ref z) "zip" := ⟨_,zz0,rfl⟩
  unfold pyNext
  refine wpAny_bind (wpAny_attempt (wpAny_callSpecial?_slot (name:=Str.ofString "__next__") hT F.slot_zip_next (wpAny_call_entry F.slot_zip_next hT F.entry_zip_next
   (QeN (I.ok.hd hc) D S (show s.heap.IsTuple a ia.toArray from pa) (show s.heap.IsTuple b ib.toArray from pb) (by rcases hs with q | q;exact .inl (by simp;omega);exact .inr (by simp;omega)) fun g x kp hx=>?_) (F.args_zip_next_1 _))))
  obtain ⟨ox,h1,h2⟩:=hx
  refine wpAny_bind (wpAny_isInstance (T := "StopIteration") (b:=true) ⟨ox,h1,h2⟩ isSubtype_stop ?_)
  refine wpAny_pure ⟨rfl,I.turnL (t':=s.toks) hf fun c q hc e=>?_⟩
  simp only [List.mem_cons,List.not_mem_nil,or_false,not_or] at hc
  exact kp c q hc.1 hc.2.2.1 hc.2.2.2.1 hc.2.2.2.2 e
 self:=fun _ _ _ _ _ S h=>by
  obtain ⟨f0,fl0,zz0,hf0⟩:=S.zz
  have hT:Shared.TypeIs _ (Value.ref z) "zip" := ⟨_,zz0,rfl⟩
  refine wpAny_pyIter_slot hT F.slot_zip_iter (wpAny_call_entry F.slot_zip_iter hT F.entry_zip_iter ?_ (F.args_zip_iter_1 _))
  exact wpAny_pure ⟨_,rfl, "zip", _,hT,(F.slot_zip_next).1,h⟩
section
variable {X:Cx} {xn:Str} {p2:Pos} {pins:List (Addr×Obj)} {σ:L2.St}
theorem QgH {H:Hp} {s:Shared} {E:Value->Shared->Prop} {Q:Value->Shared->Prop} {a b:Addr} {xs ys:List V} (I:Inv X pins σ H s) (qa:SqT X.K H a xs) (qb:SqT X.K H b ys)
  (k:∀ (s':Shared) (z p o i j:Addr),Inv X pins σ H s'->ZA z p o i j a b->ZU s'.heap z p o i j a b 0->(∀ c∈[z,p,o,i,j],Uo X pins H c)->Q (.ref z) s'):wpAny (model X.prog X.w) X.A (call (.type "zip") [.ref a,.ref b]) Q E s:=by
 obtain ⟨ia,ra,pa,_⟩:=I.tuple qa
 obtain ⟨ib,rb,pb,_⟩:=I.tuple qb
 refine callType_new F.called_zip (by decide) (F.typeCall_zip_2 _ _) (F.newCall_zip_2 _ _) (fun obj=>F.args_object_init_3 obj _ _) F.entry_zip_new (QeL a b ia.toArray ib.toArray) ⟨show s.heap.IsTuple a ia.toArray from pa,show s.heap.IsTuple b ib.toArray from pb,?_⟩
 have z1:(zt1 s.heap a).objs.size=s.heap.objs.size+1:=Heap.size_push ..
 have z2:(zt2 s.heap a b).objs.size=s.heap.objs.size+2:=by rw [Heap.size_push,z1]
 have z3:(zt3 s.heap a b).objs.size=s.heap.objs.size+3:=by rw [Heap.size_push,z2]
 have z4:(zt4 s.heap a b).objs.size=s.heap.objs.size+4:=by rw [Heap.size_push,z3]
 have g5:(zt5 s.heap a b).get? (zt4 s.heap a b).objs.size=some _:=Heap.get?_push_size _ rfl
 have g4:(zt5 s.heap a b).get? (zt3 s.heap a b).objs.size=some _:=Heap.get?_push_of_some _ (Heap.get?_push_size _ rfl)
 have g3:(zt5 s.heap a b).get? (zt2 s.heap a b).objs.size=some _:=Heap.get?_push_of_some _ (Heap.get?_push_of_some _ (Heap.get?_push_size _ rfl))
 have g2:(zt5 s.heap a b).get? (zt1 s.heap a).objs.size=some _:=Heap.get?_push_of_some _ (Heap.get?_push_of_some _ (Heap.get?_push_of_some _ (Heap.get?_push_size _ rfl)))
 have g1:(zt5 s.heap a b).get? s.heap.objs.size=some _:=Heap.get?_push_of_some _ (Heap.get?_push_of_some _ (Heap.get?_push_of_some _ (Heap.get?_push_of_some _ (Heap.get?_push_size _ rfl))))
 show _/\_
 have kp:∀ c o,s.heap.get? c=some o->(zt5 s.heap a b).get? c=some o:=fun c o e=>Heap.get?_push_of_some _ (Heap.get?_push_of_some _ (Heap.get?_push_of_some _ (Heap.get?_push_of_some _ (Heap.get?_push_of_some _ e))))
 refine ⟨⟨_,g5,rfl⟩,?_⟩
 rw [z2,z3,z4] at g5
 rw [z1,z2] at g3
 rw [z3] at g4
 rw [z1] at g2
 rw [z4]
 have la:a < s.heap.objs.size:=by obtain ⟨o,e,_⟩:=pa;exact Heap.lt_size e
 have lb:b < s.heap.objs.size:=by obtain ⟨o,e,_⟩:=pb;exact Heap.lt_size e
 have D:ZA (s.heap.objs.size+4) (s.heap.objs.size+2) (s.heap.objs.size+3) s.heap.objs.size (s.heap.objs.size+1) a b:=by constructor<;>first | exact Nat.ne_of_lt la | exact Nat.ne_of_lt lb | exact Nat.ne_of_lt (Nat.lt_of_lt_of_le la (Nat.le_add_right _ _)) | exact Nat.ne_of_lt (Nat.lt_of_lt_of_le lb (Nat.le_add_right _ _)) | exact Nat.ne_of_lt (by omega) | exact Nat.ne_of_gt (by omega)
 have I1:Inv X pins σ H { s with heap:=zt5 s.heap a b }:=I.kept (t':=s.toks) kp
 have S:ZU (zt5 s.heap a b) (s.heap.objs.size+4) (s.heap.objs.size+2) (s.heap.objs.size+3) s.heap.objs.size (s.heap.objs.size+1) a b 0:=⟨⟨_,_,g5,.inl rfl⟩,g3,⟨_,_,g4⟩,⟨_,g1,rfl,rfl⟩,⟨_,g2,rfl,rfl⟩⟩
 refine k { s with heap:=zt5 s.heap a b } _ _ _ _ _ I1 D S fun c hc=>?_
 have hc':s.heap.objs.size<=c:=by
  simp only [List.mem_cons,List.not_mem_nil,or_false] at hc
  rcases hc with rfl | rfl | rfl | rfl | rfl<;>first | exact Nat.le_refl _ | exact Nat.le_add_right _ _
 exact I.fpOk hc' (I.hok.fresh hc')
theorem kY {tg:Expr} (ht:Qbc tg) {H:Hp} {s:Shared} {R:It->Hp->Prop} {E:Value->Shared->Prop} {a b:Addr} {xs ys:List V} (I:Inv X pins σ H s) (qa:SqT X.K H a xs) (qb:SqT X.K H b ys) (q:R (Itz X.K a b) H) :
  wpAny (model X.prog X.w) X.A (call (.type "zip") [.ref a,.ref b]) (fun v s1=>wpAny (model X.prog X.w) X.A (pyIter v) (PIE X pins σ tg R) E s1) E s :=
 QgH I qa qb fun s' z p o i j I1 D S hf=>(KB (K:=X.K) ht D).self _ _ _ _ _ S ⟨_,[z,p,o,i,j],_,Itz X.K a b,H,rfl,I1,KB ht D,S,hf,q⟩
theorem Qd8 {x y:Expr} {ta:TA} {p pos:Pos} (hg:Gl X "zip") (hm:X.mg "zip" = none) (ha:PA X [x,y] ta) (hs:starEach [x,y] X.env=[(false,eval x X.env),(false,eval y X.env)]:=by rfl) (hs2:starEach [y] X.env=[(false,eval y X.env)]:=by rfl) :
    PI X (.Name xn p2) (.Call (.Name "zip" p) [x,y] [] pos) (Qg4 X.K ta):=by
  intro pins s σ H R I h
  refine Call_ (yb I hg hm boot_zip (PyProof.Rows.callWith_type1 (thn (ha pos pins s σ H _ I h) fun us s1 ⟨vs,H1,I1,r1,q1⟩=>?_) (by rw [hs,hs2]) (by rw [hs2];rfl)))
  obtain ⟨a,b,xs,ys,e,qa,qb,q⟩:=q1
  subst e
  cases r1 with
  | cons r rr =>
    cases rr with
    | cons r' rr =>
      cases rr
      cases r
      cases r'
      exact kY (.nm ..) I1 qa qb q
end
end L2
namespace D
open PySem PySem.Spec PyProof.Rows L2
section
variable {X:Cx} {xn:Str} {p2:Pos} {f g:DEx}
theorem Qds {x y:Expr} {p pos:Pos} (hg:Gl X "zip") (hm:X.mg "zip" = none) (hx:DE X x f) (hy:DE X y g) (hs:starEach [x,y] X.env=[(false,eval x X.env),(false,eval y X.env)]:=by rfl) (hs2:starEach [y] X.env=[(false,eval y X.env)]:=by rfl) :
  DI X (.Name xn p2) (.Call (.Name "zip" p) [x,y] [] pos) (QbP f g) :=
 L2.PI.imp (Qd8 hg hm (X9 hx (X9 hy pa_nil (by rw [hs2];rfl)) (by rw [hs,hs2])) hs hs2) fun σ H R ⟨Z,env,ρ,B,hp,ds,hp',S,e,k⟩=>by
  obtain ⟨d1,hp1,e1,e⟩:=Qf e
  obtain ⟨xs,hp2,e2,e⟩:=Qf e
  obtain ⟨rfl,rfl⟩:=zU e2
  obtain ⟨d2,hp3,e3,e⟩:=Qf e
  obtain ⟨ys,hp4,e4,e⟩:=Qf e
  obtain ⟨rfl,rfl⟩:=zU e4
  obtain ⟨rfl,rfl⟩:=Qi e
  refine tD.run S e1 fun v ρ1 B1 H1 g1 S1 r1=>tD.run S1 e3 fun u ρ2 B2 H2 g2 S2 r2=>?_
  obtain ⟨a,vs,rfl,na,qa,la⟩:=(RepV.grow S1.wo.rb g2 _ _ r1).tupI
  obtain ⟨b,us,rfl,nb,qb,lb⟩:=r2.tupI
  exact ⟨a,b,vs,us,rfl,qa,qb,k _ ρ2 B2 H2 (g1.trans g2) S2.wo (QbU na qa la nb qb lb)⟩
end
end D
namespace TR
structure Pg where
 lv:Nat
 ks:List Int
 ps:List Int
 hi:Option Int
 sd:Option Nat
structure Sh where
 room:Nat
 pg:List Pg
 top:Nat
 rd:Int
 wr:Int
inductive Deed where
 | find (k:Int) | put (k w:Int) | cut (k:Int) | stretch (l h:Int)
def Deed.key:Deed->Int
 | .find k=>k
 | .put k _=>k
 | .cut k=>k
 | .stretch l _=>l
structure Wk where
 deed:Deed
 aim:Int
 goal:Nat
 place:Option Nat
 forks:List (Nat×Nat)
 newp:Option Nat
 worth:Option Int
 pairs:List (Int×Int)
 ended:Bool
inductive Row where
 | non
 | side (n t:Nat)
 | down (n t:Nat)
 | found (n:Nat) (w:Option Int)
 | put (n:Nat) (w:Option Int) (k:Option Nat)
 | cut (n:Nat) (w:Option Int)
 | read (n:Nat) (ps:List (Int×Int)) (t:Option (Nat×Int))
 | told (n:Nat) (k:Option Nat)
 | raised (n t:Nat)
def cLe (ks:List Int) (k:Int):Nat:=(ks.filter fun x=>decide (x<=k)).length
def cLt (ks:List Int) (k:Int):Nat:=(ks.filter fun x=>decide (x < k)).length
def JU (fs:List (Nat×Nat)) (k:Nat):Option Nat:=(fs.find? fun p=>decide (p.1=k)).map (·.2)
def zB (fs:List (Nat×Nat)) (k v:Nat):List (Nat×Nat):=if (fs.any fun p=>decide (p.1=k))=true then fs.map (fun p=>if p.1=k then (p.1,v) else p) else fs++[(k,v)]
def JQ (p:Pg) (k:Int):Bool:=match p.hi with
 | none=>false
 | some h=>decide (h<=k)
def QY (p:Pg) (k:Int):Option Int:=if cLt p.ks k=cLe p.ks k then none else p.ps[cLt p.ks k]?
def QX (p:Pg) (k w:Int):Pg:={ p with ks:=p.ks.take (cLt p.ks k)++k::p.ks.drop (cLe p.ks k),ps:=p.ps.take (cLt p.ks k)++w::p.ps.drop (cLe p.ks k) }
def without (p:Pg) (k:Int):Pg:={ p with ks:=p.ks.take (cLt p.ks k)++p.ks.drop (cLe p.ks k),ps:=p.ps.take (cLt p.ks k)++p.ps.drop (cLe p.ks k) }
def Zv (p:Pg) (k:Int) (c:Nat):Pg:={ p with ks:=p.ks.take (cLe p.ks k)++k::p.ks.drop (cLe p.ks k),ps:=p.ps.take (cLe p.ks k+1)++(c:Int)::p.ps.drop (cLe p.ks k+1) }
def mid (p:Pg):Nat:=p.ks.length / 2
def Zr (p:Pg):Nat:=if p.lv=0 then mid p else mid p+1
def J9 (p:Pg):Int:=p.ks.getD (mid p) 0
def Q7 (p:Pg) (n:Nat):Pg:=⟨p.lv,p.ks.take (mid p),p.ps.take (Zr p),some (J9 p),some n⟩
def QP (p:Pg):Pg:=⟨p.lv,p.ks.drop (Zr p),p.ps.drop (Zr p),p.hi,p.sd⟩
def Qx (S:Sh) (w:Wk) (n:Nat) (p:Pg):Option Nat×Sh×Wk :=
 if p.ks.length<=S.room then (none,{ S with pg:=S.pg.set n p,wr:=S.wr+1 },{ w with ended:=true })
 else (some S.pg.length,{ S with pg:=(S.pg++[QP p]).set n (Q7 p S.pg.length),wr:=S.wr+1+1 },{ w with newp:=some S.pg.length,aim:=J9 p,goal:=p.lv+1,place:=JU w.forks (p.lv+1) })
def QW (p:Pg) (l h:Int):List (Int×Int):=(p.ks.zip p.ps).filter fun q=>decide (l<=q.1)&&decide (q.1 < h)
def Z7 (S:Sh) (w:Wk) (n:Nat) (p:Pg):Row×Sh×Wk:=match w.deed with
  | .find _=>(.found n (QY p w.aim),S,{ w with worth:=QY p w.aim,ended:=true })
  | .put _ x=>match Qx S { w with worth:=QY p w.aim } n (QX p w.aim x) with
    | (r,S2,w2)=>(.put n (QY p w.aim) r,S2,w2)
  | .cut _=>(.cut n (QY p w.aim),if (QY p w.aim).isSome=true then { S with pg:=S.pg.set n (without p w.aim),wr:=S.wr+1 } else S,{ w with worth:=QY p w.aim,ended:=true })
  | .stretch l h=>match p.hi,p.sd with
    | some x,some s=>if h<=x then (.read n (QW p l h) none,S,{ w with pairs:=w.pairs++QW p l h,ended:=true })
        else (.read n (QW p l h) (some (s,x)),S,{ w with pairs:=w.pairs++QW p l h,aim:=x,place:=some s })
    | _,_=>(.read n (QW p l h) none,S,{ w with pairs:=w.pairs++QW p l h,ended:=true })
def Jh (S:Sh) (w:Wk):Option (Row×Sh×Wk) :=
  if w.ended=true then some (.non,S,w) else
  match S.pg[w.place.getD S.top]? with
  | none=>none
  | some p =>
    if w.place=none/\p.lv < w.goal then
      match w.newp with
      | none=>none
      | some k=>some (.raised S.top S.pg.length,{ S with rd:=S.rd+1,pg:=S.pg++[⟨p.lv+1,[w.aim],[(S.top:Int),(k:Int)],none,none⟩],top:=S.pg.length,wr:=S.wr+1 },{ w with ended:=true })
    else if JQ p w.aim=true then
      match p.sd with
      | none=>none
      | some s=>some (.side (w.place.getD S.top) s,{ S with rd:=S.rd+1 },{ w with place:=some s })
    else if w.goal < p.lv then
      match p.ps[cLe p.ks w.aim]? with
      | none=>none
      | some c=>some (.down (w.place.getD S.top) c.toNat,{ S with rd:=S.rd+1 },{ w with forks:=zB w.forks p.lv (w.place.getD S.top),place:=some c.toNat })
    else if 0 < w.goal then
      match w.newp with
      | none=>none
      | some k=>match Qx { S with rd:=S.rd+1 } w (w.place.getD S.top) (Zv p w.aim k) with
        | (r,S2,w2)=>some (.told (w.place.getD S.top) r,S2,w2)
    else some (Z7 { S with rd:=S.rd+1 } w (w.place.getD S.top) p)
theorem zH {ks:List Int} (h:ks.Pairwise (· < ·)) (k:Int):ks.take (cLe ks k)=ks.filter (fun x=>decide (x<=k))/\ks.drop (cLe ks k)=ks.filter (fun x=>decide (k < x)):=by
  unfold cLe
  induction ks with
  | nil=>simp
  | cons x xs ih =>
    obtain ⟨h1,h2⟩:=List.pairwise_cons.mp h
    by_cases q:x<=k
    . obtain ⟨i1,i2⟩:=ih h2
      have q':¬ k < x:=by omega
      simp [List.filter_cons,q,q',i1,i2]
    . have e:xs.filter (fun y=>decide (y<=k))=[]:=by
        rw [List.filter_eq_nil_iff]
        intro y hy;have:=h1 y hy;simp;omega
      have e2:xs.filter (fun y=>decide (k < y))=xs:=by
        rw [List.filter_eq_self]
        intro y hy;have:=h1 y hy;simp;omega
      have q':k < x:=by omega
      simp [List.filter_cons,q,q',e,e2]
theorem xF {ks:List Int} (h:ks.Pairwise (· < ·)) (k:Int):ks.take (cLt ks k)=ks.filter (fun x=>decide (x < k))/\ks.drop (cLt ks k)=ks.filter (fun x=>decide (k<=x)):=by
  unfold cLt
  induction ks with
  | nil=>simp
  | cons x xs ih =>
    obtain ⟨h1,h2⟩:=List.pairwise_cons.mp h
    by_cases q:x < k
    . obtain ⟨i1,i2⟩:=ih h2
      have q':¬ k<=x:=by omega
      simp [List.filter_cons,q,q',i1,i2]
    . have e:xs.filter (fun y=>decide (y < k))=[]:=by
        rw [List.filter_eq_nil_iff]
        intro y hy;have:=h1 y hy;simp;omega
      have e2:xs.filter (fun y=>decide (k<=y))=xs:=by
        rw [List.filter_eq_self]
        intro y hy;have:=h1 y hy;simp;omega
      have q':k<=x:=by omega
      simp [List.filter_cons,q,q',e,e2]
theorem Xv (ks:List Int) (k:Int):cLe ks k<=ks.length:=List.length_filter_le _ _
theorem xO (ks:List Int) (k:Int):cLt ks k<=ks.length:=List.length_filter_le _ _
theorem KS (ks:List Int) (k:Int):cLt ks k<=cLe ks k:=by
  unfold cLt cLe
  induction ks with
  | nil=>simp
  | cons x xs ih =>
    by_cases q:x < k
    . have:x<=k:=by omega
      simp [List.filter_cons,q,this,ih]
    . by_cases q2:x<=k
      . simp [List.filter_cons,q,q2];omega
      . simp [List.filter_cons,q,q2,ih]
theorem QgN {ks:List Int} (h:ks.Pairwise (· < ·)) (k:Int):cLe ks k<=cLt ks k+1:=by
  unfold cLt cLe
  induction ks with
  | nil=>simp
  | cons x xs ih =>
    obtain ⟨h1,h2⟩:=List.pairwise_cons.mp h
    by_cases q:x < k
    . have:x<=k:=by omega
      have:=ih h2
      simp [List.filter_cons,q, *]
    . have e:xs.filter (fun y=>decide (y<=k))=[]:=by
        rw [List.filter_eq_nil_iff]
        intro y hy;have:=h1 y hy;simp;omega
      by_cases q2:x<=k<;>simp [List.filter_cons,q,q2,e]
theorem Vz {ks:List Int} (h:ks.Pairwise (· < ·)) (k:Int):(ks.take (cLt ks k)++k::ks.drop (cLe ks k)).Pairwise (· < ·):=by
 rw [(xF h k).1,(zH h k).2]
 rw [List.pairwise_append]
 refine ⟨h.filter _,List.pairwise_cons.mpr ⟨fun y hy=>?_,h.filter _⟩,fun x hx y hy=>?_⟩
 ·simpa using (List.mem_filter.mp hy).2
 ·have h1:x < k:=by simpa using (List.mem_filter.mp hx).2
  rcases List.mem_cons.mp hy with rfl | hy
  ·exact h1
  ·have h2:k < y:=by simpa using (List.mem_filter.mp hy).2
   omega
theorem jY {ks:List Int} (h:ks.Pairwise (· < ·)) {k x:Int} (hx:x∈ks.take (cLt ks k)++k::ks.drop (cLe ks k)):x=k∨x∈ks:=by
 rcases List.mem_append.mp hx with hx | hx
 ·exact .inr (List.mem_of_mem_take hx)
 ·rcases List.mem_cons.mp hx with rfl | hx
  ·exact .inl rfl
  ·exact .inr (List.mem_of_mem_drop hx)
theorem uw {ks:List Int} (h:ks.Pairwise (· < ·)) (k:Int):(ks.take (cLt ks k)++ks.drop (cLe ks k)).Pairwise (· < ·):=by
 rw [(xF h k).1,(zH h k).2]
 rw [List.pairwise_append]
 refine ⟨h.filter _,h.filter _,fun x hx y hy=>?_⟩
 have h1:x < k:=by simpa using (List.mem_filter.mp hx).2
 have h2:k < y:=by simpa using (List.mem_filter.mp hy).2
 omega
theorem gJ {ks:List Int} {k x:Int} (hx:x∈ks.take (cLt ks k)++ks.drop (cLe ks k)):x∈ks:=by
 rcases List.mem_append.mp hx with hx | hx
 ·exact List.mem_of_mem_take hx
 ·exact List.mem_of_mem_drop hx
theorem Qfb {ks:List Int} (h:k∉ks):cLt ks k=cLe ks k:=by
 unfold cLt cLe
 congr 1
 apply List.filter_congr
 intro x hx
 have:x≠k:=fun e=>h (e▸hx)
 by_cases q:x < k
 ·have:x<=k:=by omega
  simp [q,this]
 ·have:¬ x<=k:=by omega
  simp [q,this]
theorem zm (fs:List (Nat×Nat)) (k v j:Nat):JU (zB fs k v) j=if j=k then some v else JU fs j:=by
  unfold zB JU
  by_cases h:(fs.any fun p=>decide (p.1=k))=true
  . rw [if_pos h]
    induction fs with
    | nil=>simp at h
    | cons p fs ih =>
      simp only [List.map_cons,List.find?_cons]
      by_cases q:p.1=k
      . by_cases e:j=k
        . subst e;simp [q]
        . have:¬ k=j:=fun z=>e z.symm
          simp only [q,if_true,this,decide_false]
          by_cases h2:(fs.any fun p=>decide (p.1=k))=true
          . have:=ih h2;simpa [e] using this
          . have hid:fs.map (fun p=>if p.1=k then (p.1,v) else p)=fs:=by
              conv=>rhs;rw [<- List.map_id fs]
              apply List.map_congr_left
              intro x hx
              have:¬ x.1=k:=fun z=>h2 (by rw [List.any_eq_true];exact ⟨x,hx,by simpa using z⟩)
              simp [this]
            rw [hid,if_neg e]
      . have h2:(fs.any fun p=>decide (p.1=k))=true:=by simpa [List.any_cons,q] using h
        have:=ih h2
        simp only [q,if_false]
        by_cases e:p.1=j
        . have:¬ j=k:=fun z=>q (e.trans z)
          simp [e,this]
        . simpa [e] using this
  . rw [if_neg h,List.find?_append]
    have hn:∀ p∈fs,¬ p.1=k:=fun p hp z=>h (by rw [List.any_eq_true];exact ⟨p,hp,by simpa using z⟩)
    by_cases e:j=k
    . subst e
      have:fs.find? (fun p=>decide (p.1=j))=none:=by
        rw [List.find?_eq_none];intro p hp;simpa using hn p hp
      simp [this]
    . have:¬ k=j:=fun z=>e z.symm
      simp [this,e]
end TR
namespace TR
abbrev Bg:=Nat->Option Int
def leB (b:Option Int) (x:Int):Prop:=∀ v,b=some v->v<=x
def ltB (b:Option Int) (x:Int):Prop:=∀ v,b=some v->v < x
def ltH (x:Int) (h:Option Int):Prop:=∀ v,h=some v->x < v
def leBB (b c:Option Int):Prop:=∀ v,b=some v->∃ u,c=some u/\v<=u
theorem leBB.refl (b:Option Int):leBB b b:=fun v h=>⟨v,h,Int.le_refl _⟩
theorem leBB.trans {a b c:Option Int} (h:leBB a b) (g:leBB b c):leBB a c:=fun v e=>by
 obtain ⟨u,e1,l1⟩:=h v e
 obtain ⟨x,e2,l2⟩:=g u e1
 exact ⟨x,e2,by omega⟩
def Jd (b:Option Int) (ks:List Int):Nat->Option Int
 | 0=>b
 | j+1=>ks[j]?
structure JE (room:Nat) (b:Option Int) (p:Pg):Prop where
 sorted:p.ks.Pairwise (· < ·)
 few:p.ks.length<=room
 parts:p.ps.length=p.ks.length+(if p.lv=0 then 0 else 1)
 low:∀ k∈p.ks,leB b k
 lowF:0 < p.lv->∀ k∈p.ks,ltB b k
 high:∀ k∈p.ks,ltH k p.hi
 wide:∀ h,p.hi=some h->ltB b h
structure Tree (S:Sh) (bg:Bg):Prop where
 room2:2<=S.room
 root:∃ r:Pg,S.pg[S.top]?=some r/\∀ (n:Nat) (p:Pg),S.pg[n]?=some p->p.lv<=r.lv
 rbg:bg S.top=none
 page:∀ (n:Nat) (p:Pg),S.pg[n]?=some p->JE S.room (bg n) p
 link:∀ (n:Nat) (p:Pg),S.pg[n]?=some p->(p.hi=none/\p.sd=none)∨∃ (h:Int) (s:Nat) (q:Pg),p.hi=some h/\p.sd=some s/\S.pg[s]?=some q/\q.lv=p.lv/\bg s=some h
 kid:∀ (n:Nat) (p:Pg),S.pg[n]?=some p->0 < p.lv->∀ j k,p.ps[j]?=some k->∃ (c:Nat) (q:Pg),k=(c:Int)/\S.pg[c]?=some q/\q.lv+1=p.lv/\bg c=Jd (bg n) p.ks j
 dis:∀ (n m:Nat) (p q:Pg),S.pg[n]?=some p->S.pg[m]?=some q->p.lv=q.lv->n≠m->(∃ h v,p.hi=some h/\bg m=some v/\h<=v)∨(∃ h v,q.hi=some h/\bg n=some v/\h<=v)
 pred:∀ (n:Nat) (p:Pg),S.pg[n]?=some p->∀ v,bg n=some v->∃ (m:Nat) (q:Pg),S.pg[m]?=some q/\q.lv=p.lv/\q.hi=some v
theorem Tree.uniq {S:Sh} {bg:Bg} (T:Tree S bg) {n m:Nat} {p q:Pg} (hn:S.pg[n]?=some p) (hm:S.pg[m]?=some q) (hl:p.lv=q.lv) (hb:bg n=bg m):n=m:=by
 rcases Nat.decEq n m with h | h
 ·exfalso
  rcases T.dis n m p q hn hm hl h with ⟨x,v,h1,h2,h3⟩ | ⟨x,v,h1,h2,h3⟩
  ·have:=(T.page n p hn).wide x h1 v (hb.trans h2);omega
  ·have:=(T.page m q hm).wide x h1 v (hb.symm.trans h2);omega
 ·exact h
structure YX (S:Sh) (bg:Bg) (S':Sh) (bg':Bg):Prop where
 old:∀ (n:Nat) (p:Pg),S.pg[n]?=some p->bg' n=bg n/\∃ p':Pg,S'.pg[n]?=some p'/\p'.lv=p.lv
def Untold (S:Sh) (k:Nat):Prop:=∀ (n:Nat) (p:Pg),S.pg[n]?=some p->0 < p.lv->(k:Int)∉p.ps
structure WOk (S:Sh) (bg:Bg) (w:Wk):Prop where
 at_:∀ n:Nat,w.place=some n->∃ p:Pg,S.pg[n]?=some p/\w.goal<=p.lv/\leB (bg n) w.aim
 none_:w.place=none->∀ l f,JU w.forks l=some f->l < w.goal
 kept:∀ l f,JU w.forks l=some f->∃ p:Pg,S.pg[f]?=some p/\p.lv=l
 above:∀ (n:Nat) (p:Pg),w.place=some n->S.pg[n]?=some p->∀ l f,JU w.forks l=some f->p.lv < l->leBB (bg f) (bg n)
 chain:∀ l f l' f',JU w.forks l=some f->JU w.forks l'=some f'->w.goal<=l->l < l'->leBB (bg f') (bg f)
 gap:∀ (n:Nat) (p:Pg),w.place=some n->S.pg[n]?=some p->w.goal < p.lv->∀ l f,JU w.forks l=some f->l < w.goal∨p.lv < l
 full:∀ (n:Nat) (p:Pg),w.place=some n->S.pg[n]?=some p->∀ l' f',JU w.forks l'=some f'->∀ l,p.lv < l->l<=l'->∃ f,JU w.forks l=some f
 tell:0 < w.goal->∃ (k:Nat) (q:Pg),w.newp=some k/\S.pg[k]?=some q/\q.lv+1=w.goal/\bg k=some w.aim
theorem WOk.grow {S S':Sh} {bg bg':Bg} {w:Wk} (W:WOk S bg w) (g:YX S bg S' bg'):WOk S' bg' w where
 at_:=fun n h=>by
  obtain ⟨p,h1,h2,h3⟩:=W.at_ n h
  obtain ⟨e,p',h4,h5⟩:=g.old n p h1
  exact ⟨p',h4,by omega,by rw [e];exact h3⟩
 none_:=W.none_
 kept:=fun l f h=>by
  obtain ⟨p,h1,h2⟩:=W.kept l f h
  obtain ⟨e,p',h4,h5⟩:=g.old f p h1
  exact ⟨p',h4,by omega⟩
 above:=fun n p' hp hn l f hf hl=>by
  obtain ⟨p,h1,_⟩:=W.at_ n hp
  obtain ⟨e,p2,h4,h5⟩:=g.old n p h1
  rw [h4] at hn;cases hn
  obtain ⟨pf,h6,_⟩:=W.kept l f hf
  rw [e,(g.old f pf h6).1]
  exact W.above n p hp h1 l f hf (by omega)
 chain:=fun l f l' f' h h' a b=>by
  obtain ⟨p,h1,_⟩:=W.kept l f h
  obtain ⟨p',h1',_⟩:=W.kept l' f' h'
  rw [(g.old f p h1).1,(g.old f' p' h1').1]
  exact W.chain l f l' f' h h' a b
 gap:=fun n p' hp hn a l f hf=>by
  obtain ⟨p,h1,_⟩:=W.at_ n hp
  obtain ⟨e,p2,h4,h5⟩:=g.old n p h1
  rw [h4] at hn;cases hn
  rw [h5]
  exact W.gap n p hp h1 (by omega) l f hf
 full:=fun n p' hp hn l' f' hf l a b=>by
  obtain ⟨p,h1,_⟩:=W.at_ n hp
  obtain ⟨e,p2,h4,h5⟩:=g.old n p h1
  rw [h4] at hn;cases hn
  exact W.full n p hp h1 l' f' hf l (by omega) b
 tell:=fun h=>by
  obtain ⟨k,q,h1,h2,h3,h4⟩:=W.tell h
  obtain ⟨e,p',h5,h6⟩:=g.old k q h2
  exact ⟨k,p',h1,h5,by omega,by rw [e];exact h4⟩
theorem WOk.fresh {S:Sh} {bg:Bg} {w:Wk} (h1:w.place=none) (h2:w.forks=[]) (h3:w.goal=0):WOk S bg w where
 at_:=fun n h=>by rw [h1] at h;cases h
 none_:=fun _ l f h=>by rw [h2] at h;cases h
 kept:=fun l f h=>by rw [h2] at h;cases h
 above:=fun n p h=>by rw [h1] at h;cases h
 chain:=fun l f l' f' h=>by rw [h2] at h;cases h
 gap:=fun n p h=>by rw [h1] at h;cases h
 full:=fun n p h=>by rw [h1] at h;cases h
 tell:=fun h=>by omega
theorem QL {α:Type} {xs:List α} {n m:Nat} {x y:α} (h:(xs.set n x)[m]?=some y):(m=n/\y=x/\n < xs.length)∨(m≠n/\xs[m]?=some y):=by
 by_cases e:m=n
 ·subst e
  by_cases hl:m < xs.length
  ·rw [List.getElem?_set_self hl] at h;cases h;exact .inl ⟨rfl,rfl,hl⟩
  ·rw [List.getElem?_eq_none (by simpa using hl)] at h;cases h
 ·rw [List.getElem?_set_ne (Ne.symm e)] at h;exact .inr ⟨e,h⟩
theorem kO {α:Type} {xs:List α} {n m:Nat} {x y:α} (h:xs[m]?=some y):(xs.set n x)[m]?=some (if m=n then x else y):=by
 have hl:=(List.getElem?_eq_some_iff.mp h).1
 by_cases e:m=n
 ·subst e;rw [List.getElem?_set_self hl,if_pos rfl]
 ·rw [List.getElem?_set_ne (Ne.symm e),h,if_neg e]
theorem Tree.write {S:Sh} {bg:Bg} (T:Tree S bg) {n:Nat} {p p':Pg} {x y:Int} (hn:S.pg[n]?=some p) (hl:p'.lv=p.lv) (hh:p'.hi=p.hi) (hs:p'.sd=p.sd) (ok:JE S.room (bg n) p')
  (hk:0 < p.lv->∀ j k,p'.ps[j]?=some k->∃ (c:Nat) (q:Pg),k=(c:Int)/\S.pg[c]?=some q/\q.lv+1=p.lv/\bg c=Jd (bg n) p'.ks j) :
  Tree { S with pg:=S.pg.set n p',rd:=x,wr:=y } bg/\YX S bg { S with pg:=S.pg.set n p',rd:=x,wr:=y } bg:=by
 have old:∀ (m:Nat) (q:Pg),S.pg[m]?=some q->∃ q':Pg,(S.pg.set n p')[m]?=some q'/\q'.lv=q.lv/\q'.hi=q.hi/\q'.sd=q.sd:=fun m q h=>by
  refine ⟨_,kO h,?_⟩
  by_cases e:m=n
  ·subst e;rw [hn] at h;cases h;simp [hl,hh,hs]
  ·simp [e]
 have new:∀ (m:Nat) (q':Pg),(S.pg.set n p')[m]?=some q'->∃ q:Pg,S.pg[m]?=some q/\q'.lv=q.lv/\q'.hi=q.hi/\q'.sd=q.sd:=fun m q' h=>by
  rcases QL h with ⟨rfl,rfl,_⟩ | ⟨_,h⟩
  ·exact ⟨p,hn,hl,hh,hs⟩
  ·exact ⟨q',h,rfl,rfl,rfl⟩
 refine ⟨⟨T.room2,?_,T.rbg,fun m q h=>?_,fun m q h=>?_,fun m q h h0 j k hj=>?_,fun a b q r ha hb hab e=>?_,fun m q h v hv=>?_⟩,⟨fun m q h=>⟨rfl,by obtain ⟨q',h1,h2,_⟩:=old m q h;exact ⟨q',h1,h2⟩⟩⟩⟩
 ·obtain ⟨r,h1,h2⟩:=T.root
  obtain ⟨r',h3,h4,_⟩:=old _ _ h1
  exact ⟨r',h3,fun m q h=>by obtain ⟨q0,h5,h6,_⟩:=new m q h;rw [h6,h4];exact h2 m q0 h5⟩
 ·rcases QL h with ⟨rfl,rfl,_⟩ | ⟨_,h⟩
  ·exact ok
  ·exact T.page m q h
 ·obtain ⟨q0,h1,h2,h3,h4⟩:=new m q h
  rcases T.link m q0 h1 with ⟨a,b⟩ | ⟨x,s,r,a,b,c,d,e⟩
  ·exact .inl ⟨h3.trans a,h4.trans b⟩
  ·obtain ⟨r',c1,c2,_⟩:=old s r c
   exact .inr ⟨x,s,r',h3.trans a,h4.trans b,c1,by rw [c2,d,h2],e⟩
 ·rcases QL h with ⟨rfl,rfl,_⟩ | ⟨_,h⟩
  ·obtain ⟨c,r,h1,h2,h3,h4⟩:=hk (by omega) j k hj
   obtain ⟨r',c1,c2,_⟩:=old c r h2
   exact ⟨c,r',h1,c1,by omega,h4⟩
  ·obtain ⟨c,r,h1,h2,h3,h4⟩:=T.kid m q h h0 j k hj
   obtain ⟨r',c1,c2,_⟩:=old c r h2
   exact ⟨c,r',h1,c1,by omega,h4⟩
 ·obtain ⟨q0,h1,h2,h3,_⟩:=new a q ha
  obtain ⟨r0,h5,h6,h7,_⟩:=new b r hb
  rw [h3,h7]
  exact T.dis a b q0 r0 h1 h5 (by omega) e
 ·obtain ⟨q0,h1,h2,_⟩:=new m q h
  obtain ⟨a,r,h3,h4,h5⟩:=T.pred m q0 h1 v hv
  obtain ⟨r',c1,c2,c3,_⟩:=old a r h3
  exact ⟨a,r',c1,by omega,c3.trans h5⟩
end TR
namespace TR
theorem JV {α:Type} {xs:List α} {x:α} {m:Nat} {y:α} (h:(xs++[x])[m]?=some y):(m=xs.length/\y=x)∨xs[m]?=some y:=by
 rcases Nat.lt_or_ge m xs.length with q | q
 ·rw [List.getElem?_append_left q] at h;exact .inr h
 ·rw [List.getElem?_append_right q] at h
  by_cases e:m - xs.length=0
  ·rw [e] at h;simp at h;exact .inl ⟨by omega,h.symm⟩
  ·rw [List.getElem?_eq_none (by simp;omega)] at h;cases h
theorem X4 {α:Type} {xs:List α} {x:α} {m:Nat} {y:α} (h:xs[m]?=some y):(xs++[x])[m]?=some y:=by
 rw [List.getElem?_append_left (List.getElem?_eq_some_iff.mp h).1];exact h
theorem QJ {α:Type} {xs:List α} {m:Nat} {y:α} (h:xs[m]?=some y):m < xs.length:=(List.getElem?_eq_some_iff.mp h).1
def XY (bg:Bg) (l:Nat) (k:Option Int):Bg:=fun i=>if i=l then k else bg i
theorem UU {bg:Bg} {l:Nat} {k:Option Int} {i:Nat} (h:i < l):XY bg l k i=bg i:=by unfold XY;rw [if_neg (by omega)]
theorem Z3 {bg:Bg} {l:Nat} {k:Option Int}:XY bg l k l=k:=by unfold XY;rw [if_pos rfl]
section
variable {S:Sh} {bg:Bg} {n:Nat} {p P:Pg}
theorem qE (h3:1<=P.ks.length):P.ks[mid P]?=some (J9 P):=by
 have:mid P < P.ks.length:=by unfold mid;omega
 unfold J9
 rw [List.getD_eq_getElem?_getD,List.getElem?_eq_getElem this];rfl
theorem qN {ks:List Int} (h:ks.Pairwise (· < ·)) {i j:Nat} {x y:Int} (hi:ks[i]?=some x) (hj:ks[j]?=some y) (hij:i < j):x < y:=by
 obtain ⟨a,rfl⟩:=List.getElem?_eq_some_iff.mp hi
 obtain ⟨b,rfl⟩:=List.getElem?_eq_some_iff.mp hj
 exact List.pairwise_iff_getElem.mp h i j a b hij
theorem Gh (ok:JE P.ks.length (bg n) P) (h3:3<=P.ks.length):ltB (bg n) (J9 P):=by
 intro v hv
 have h0:P.ks[0]?=some (P.ks[0]'(by omega)):=List.getElem?_eq_getElem _
 have a:=ok.low _ (List.getElem_mem (by omega:0 < P.ks.length)) v hv
 have b:=qN ok.sorted h0 (qE (P:=P) (by omega)) (by unfold mid;omega)
 omega
theorem QfL (ok:JE P.ks.length (bg n) P) (h3:3<=P.ks.length) (hr:P.ks.length<=S.room+1) (l:Nat):JE S.room (bg n) (Q7 P l) where
 sorted:=ok.sorted.sublist (List.take_sublist _ _)
 few:=by show (P.ks.take (mid P)).length<=_;rw [List.length_take];unfold mid;omega
 parts:=by
  show (P.ps.take (Zr P)).length=(P.ks.take (mid P)).length+(if P.lv=0 then 0 else 1)
  have:=ok.parts
  rw [List.length_take,List.length_take]
  unfold Zr mid
  split at this<;>split<;>simp_all<;>omega
 low:=fun k hk=>ok.low k (List.mem_of_mem_take hk)
 lowF:=fun h k hk=>ok.lowF h k (List.mem_of_mem_take hk)
 high:=fun k hk v hv=>by
  cases hv
  obtain ⟨i,hi,e⟩:=List.mem_iff_getElem.mp hk
  simp only [Q7,List.getElem_take] at e
  have hi':i < mid P:=by have:=hi;rw [show (Q7 P l).ks=P.ks.take (mid P) from rfl,List.length_take] at this;omega
  exact qN ok.sorted (i:=i) (by rw [<- e];exact List.getElem?_eq_getElem _) (qE (P:=P) (by omega)) hi'
 wide:=fun h hh=>by cases hh;exact Gh ok h3
theorem QfI (ok:JE P.ks.length (bg n) P) (h3:3<=P.ks.length) (hr:P.ks.length<=S.room+1):JE S.room (some (J9 P)) (QP P) where
 sorted:=ok.sorted.sublist (List.drop_sublist _ _)
 few:=by show (P.ks.drop (Zr P)).length<=_;rw [List.length_drop];unfold Zr mid;split<;>omega
 parts:=by
  show (P.ps.drop (Zr P)).length=(P.ks.drop (Zr P)).length+(if P.lv=0 then 0 else 1)
  have:=ok.parts
  rw [List.length_drop,List.length_drop]
  unfold Zr mid
  split at this<;>split<;>simp_all<;>omega
 low:=fun k hk v hv=>by
  cases hv
  obtain ⟨i,hi,e⟩:=List.mem_iff_getElem.mp hk
  rw [show (QP P).ks=P.ks.drop (Zr P) from rfl] at hi
  have hi2:Zr P+i < P.ks.length:=by rw [List.length_drop] at hi;omega
  have e':P.ks[Zr P+i]?=some k:=by rw [<- e];rw [List.getElem?_eq_getElem hi2];simp [QP]
  rcases Nat.lt_or_ge (mid P) (Zr P+i) with q | q
  ·exact Int.le_of_lt (qN ok.sorted (qE (P:=P) (by omega)) e' q)
  ·have:mid P=Zr P+i:=by unfold Zr at q ⊢;split<;>simp_all<;>omega
   rw [<- this,qE (P:=P) (by omega)] at e';cases e';omega
 lowF:=fun h k hk v hv=>by
  cases hv
  obtain ⟨i,hi,e⟩:=List.mem_iff_getElem.mp hk
  rw [show (QP P).ks=P.ks.drop (Zr P) from rfl] at hi
  have hi2:Zr P+i < P.ks.length:=by rw [List.length_drop] at hi;omega
  have e':P.ks[Zr P+i]?=some k:=by rw [<- e];rw [List.getElem?_eq_getElem hi2];simp [QP]
  have h':0 < P.lv:=h
  exact qN ok.sorted (qE (P:=P) (by omega)) e' (by unfold Zr;rw [if_neg (by omega)];omega)
 high:=fun k hk=>ok.high k (List.mem_of_mem_drop hk)
 wide:=fun h hh v hv=>by
  cases hv
  exact ok.high _ (List.mem_of_getElem? (qE (P:=P) (by omega))) h hh
theorem Tree.split (T:Tree S bg) {x y:Int} (hn:S.pg[n]?=some p) (hl:P.lv=p.lv) (hh:P.hi=p.hi) (hs:P.sd=p.sd) (ok:JE P.ks.length (bg n) P) (h1:S.room < P.ks.length) (h2:P.ks.length<=S.room+1)
  (hk:0 < p.lv->∀ j k,P.ps[j]?=some k->∃ (c:Nat) (q:Pg),k=(c:Int)/\S.pg[c]?=some q/\q.lv+1=p.lv/\bg c=Jd (bg n) P.ks j) :
  Tree { S with pg:=(S.pg++[QP P]).set n (Q7 P S.pg.length),rd:=x,wr:=y } (XY bg S.pg.length (some (J9 P)))/\YX S bg { S with pg:=(S.pg++[QP P]).set n (Q7 P S.pg.length),rd:=x,wr:=y } (XY bg S.pg.length (some (J9 P))):=by
 have r2:=T.room2
 have h3:3<=P.ks.length:=by omega
 have hnl:=QJ hn
 have kg:=qE (P:=P) (by omega)
 have kl:=Gh ok h3
 have kh:∀ h,p.hi=some h->J9 P < h:=fun h e=>ok.high _ (List.mem_of_getElem? kg) h (hh.trans e)
 have bo:∀ m q,S.pg[m]?=some q->XY bg S.pg.length (some (J9 P)) m=bg m:=fun m q h=>UU (QJ h)
 have old:∀ (m:Nat) (q:Pg),S.pg[m]?=some q->∃ q':Pg,((S.pg++[QP P]).set n (Q7 P S.pg.length))[m]?=some q'/\q'.lv=q.lv/\(m≠n->q'=q)/\(m=n->q'=Q7 P S.pg.length):=fun m q h=>by
  refine ⟨_,kO (X4 h),?_,fun e=>by rw [if_neg e],fun e=>by rw [if_pos e]⟩
  by_cases e:m=n
  ·subst e;rw [hn] at h;cases h;rw [if_pos rfl];exact hl
  ·rw [if_neg e]
 have gl:((S.pg++[QP P]).set n (Q7 P S.pg.length))[S.pg.length]?=some (QP P):=by
  rw [List.getElem?_set_ne (by omega),List.getElem?_append_right (Nat.le_refl _)];simp
 have gn:((S.pg++[QP P]).set n (Q7 P S.pg.length))[n]?=some (Q7 P S.pg.length):=by
  rw [List.getElem?_set_self (by simp;omega)]
 have new:∀ (m:Nat) (q:Pg),((S.pg++[QP P]).set n (Q7 P S.pg.length))[m]?=some q->(m=n/\q=Q7 P S.pg.length)∨(m=S.pg.length/\q=QP P)∨(m≠n/\S.pg[m]?=some q):=fun m q h=>by
  rcases QL h with ⟨a,b,_⟩ | ⟨a,b⟩
  ·exact .inl ⟨a,b⟩
  ·rcases JV b with c | c
   ·exact .inr (.inl c)
   ·exact .inr (.inr ⟨a,c⟩)
 have olv:(Q7 P S.pg.length).lv=p.lv:=hl
 have nlv:(QP P).lv=p.lv:=hl
 refine ⟨⟨r2,?_,?_,fun m q h=>?_,fun m q h=>?_,fun m q h h0 j k hj=>?_,fun a b q r ha hb hab e=>?_,fun m q h v hv=>?_⟩,⟨fun m q h=>⟨bo m q h,by obtain ⟨q',a,b,_⟩:=old m q h;exact ⟨q',a,b⟩⟩⟩⟩
 ·obtain ⟨r,a,b⟩:=T.root
  obtain ⟨r',c,d,_⟩:=old _ _ a
  refine ⟨r',c,fun m q h=>?_⟩
  rcases new m q h with ⟨_,rfl⟩ | ⟨_,rfl⟩ | ⟨_,h⟩
  ·rw [olv,d];exact b n p hn
  ·rw [nlv,d];exact b n p hn
  ·rw [d];exact b m q h
 ·obtain ⟨r,a,_⟩:=T.root
  rw [show XY bg S.pg.length (some (J9 P)) S.top=bg S.top from bo _ _ a];exact T.rbg
 ·rcases new m q h with ⟨rfl,rfl⟩ | ⟨rfl,rfl⟩ | ⟨_,h⟩
  ·rw [bo _ _ hn];exact QfL ok h3 h2 _
  ·rw [Z3];exact QfI ok h3 h2
  ·rw [bo _ _ h];exact T.page m q h
 ·rcases new m q h with ⟨rfl,rfl⟩ | ⟨rfl,rfl⟩ | ⟨_,h⟩
  ·exact .inr ⟨J9 P,S.pg.length,QP P,rfl,rfl,gl,rfl,Z3⟩
  ·rcases T.link n p hn with ⟨a,b⟩ | ⟨z,s,r,a,b,c,d,e⟩
   ·exact .inl ⟨hh.trans a,hs.trans b⟩
   ·obtain ⟨r',c1,c2,_⟩:=old s r c
    exact .inr ⟨z,s,r',hh.trans a,hs.trans b,c1,by rw [c2,d,nlv],by rw [bo _ _ c];exact e⟩
  ·rcases T.link m q h with ⟨a,b⟩ | ⟨z,s,r,a,b,c,d,e⟩
   ·exact .inl ⟨a,b⟩
   ·obtain ⟨r',c1,c2,_⟩:=old s r c
    exact .inr ⟨z,s,r',a,b,c1,by rw [c2,d],by rw [bo _ _ c];exact e⟩
 ·have lift:∀ {b0:Option Int} {ks0:List Int} {j0:Nat} {b1:Option Int} {ks1:List Int} {l1:Nat},Jd b0 ks0 j0=Jd b1 ks1 j->l1=p.lv->(∃ (c:Nat) (q:Pg),k=(c:Int)/\S.pg[c]?=some q/\q.lv+1=p.lv/\bg c=Jd b0 ks0 j0)->∃ (c:Nat) (q:Pg),k=(c:Int)/\((S.pg++[QP P]).set n (Q7 P S.pg.length))[c]?=some q/\q.lv+1=l1/\XY bg S.pg.length (some (J9 P)) c=Jd b1 ks1 j:=fun {b0 ks0 j0 b1 ks1 l1} e el ⟨c,q,a1,a2,a3,a4⟩=>by
   obtain ⟨q',c1,c2,_⟩:=old c q a2
   exact ⟨c,q',a1,c1,by omega,by rw [bo _ _ a2,a4,e]⟩
  rcases new m q h with ⟨rfl,rfl⟩ | ⟨rfl,rfl⟩ | ⟨_,h⟩
  ·rw [olv] at h0
   have hc:Zr P=mid P+1:=by unfold Zr;rw [if_neg (by omega)]
   have hjl:j < mid P+1:=by
    have:=QJ hj
    rw [show (Q7 P S.pg.length).ps=P.ps.take (Zr P) from rfl,List.length_take,hc] at this;omega
   have hj':P.ps[j]?=some k:=by
    rw [show (Q7 P S.pg.length).ps=P.ps.take (Zr P) from rfl,List.getElem?_take_of_lt (by omega)] at hj;exact hj
   refine lift ?_ olv (hk h0 j k hj')
   rw [bo _ _ hn]
   cases j with
   | zero=>rfl
   | succ i=>show P.ks[i]?=(P.ks.take (mid P))[i]?;rw [List.getElem?_take_of_lt (by omega)]
  ·rw [nlv] at h0
   have hc:Zr P=mid P+1:=by unfold Zr;rw [if_neg (by omega)]
   have hj':P.ps[mid P+1+j]?=some k:=by
    rw [show (QP P).ps=P.ps.drop (Zr P) from rfl,List.getElem?_drop,hc] at hj;exact hj
   refine lift ?_ nlv (hk h0 _ k hj')
   rw [Z3]
   cases j with
   | zero=>show P.ks[mid P+0]?=some (J9 P);exact kg
   | succ i=>show P.ks[mid P+1+i]?=(P.ks.drop (Zr P))[i]?;rw [List.getElem?_drop,hc]
  ·obtain ⟨c,r,a1,a2,a3,a4⟩:=T.kid m q h h0 j k hj
   obtain ⟨r',c1,c2,_⟩:=old c r a2
   exact ⟨c,r',a1,c1,by omega,by rw [bo _ _ a2,bo _ _ h,a4]⟩
 ·have on:∀ (b:Nat) (r:Pg),b≠n->S.pg[b]?=some r->p.lv=r.lv->(∃ h v,(Q7 P S.pg.length).hi=some h/\XY bg S.pg.length (some (J9 P)) b=some v/\h<=v)∨(∃ h v,r.hi=some h/\XY bg S.pg.length (some (J9 P)) n=some v/\h<=v):=fun b r hbn hb hlv=>by
   rcases T.dis n b p r hn hb hlv (Ne.symm hbn) with ⟨h,v,a1,a2,a3⟩ | ⟨h,v,a1,a2,a3⟩
   ·exact .inl ⟨J9 P,v,rfl,by rw [bo _ _ hb];exact a2,by have:=kh h a1;omega⟩
   ·exact .inr ⟨h,v,a1,by rw [bo _ _ hn];exact a2,a3⟩
  have nn:∀ (b:Nat) (r:Pg),b≠n->S.pg[b]?=some r->p.lv=r.lv->(∃ h v,(QP P).hi=some h/\XY bg S.pg.length (some (J9 P)) b=some v/\h<=v)∨(∃ h v,r.hi=some h/\XY bg S.pg.length (some (J9 P)) S.pg.length=some v/\h<=v):=fun b r hbn hb hlv=>by
   rcases T.dis n b p r hn hb hlv (Ne.symm hbn) with ⟨h,v,a1,a2,a3⟩ | ⟨h,v,a1,a2,a3⟩
   ·exact .inl ⟨h,v,hh.trans a1,by rw [bo _ _ hb];exact a2,a3⟩
   ·exact .inr ⟨h,J9 P,a1,Z3,by have:=kl v a2;omega⟩
  rcases new a q ha with ⟨rfl,rfl⟩ | ⟨rfl,rfl⟩ | ⟨na,ha2⟩
  ·rcases new b r hb with ⟨rfl,rfl⟩ | ⟨rfl,rfl⟩ | ⟨nb,hb2⟩
   ·exact absurd rfl e
   ·exact .inl ⟨J9 P,J9 P,rfl,Z3,Int.le_refl _⟩
   ·exact on b r nb hb2 (by rw [<- hab,olv])
  ·rcases new b r hb with ⟨rfl,rfl⟩ | ⟨rfl,rfl⟩ | ⟨nb,hb2⟩
   ·exact .inr ⟨J9 P,J9 P,rfl,Z3,Int.le_refl _⟩
   ·exact absurd rfl e
   ·exact nn b r nb hb2 (by rw [<- hab,nlv])
  ·rcases new b r hb with ⟨rfl,rfl⟩ | ⟨rfl,rfl⟩ | ⟨nb,hb2⟩
   ·exact (on a q na ha2 (by rw [hab,olv])).symm
   ·exact (nn a q na ha2 (by rw [hab,nlv])).symm
   ·rcases T.dis a b q r ha2 hb2 hab e with ⟨h,v,a1,a2,a3⟩ | ⟨h,v,a1,a2,a3⟩
    ·exact .inl ⟨h,v,a1,by rw [bo _ _ hb2];exact a2,a3⟩
    ·exact .inr ⟨h,v,a1,by rw [bo _ _ ha2];exact a2,a3⟩
 ·have pr:∀ (l:Nat) (z:Pg),S.pg[l]?=some z->z.hi=some v->∃ (m:Nat) (q:Pg),((S.pg++[QP P]).set n (Q7 P S.pg.length))[m]?=some q/\q.lv=z.lv/\q.hi=some v:=fun l z hz hv=>by
   by_cases e:l=n
   ·subst e;rw [hn] at hz;cases hz
    exact ⟨_,_,gl,nlv,hh.trans hv⟩
   ·obtain ⟨z',c1,c2,c3,_⟩:=old l z hz
    exact ⟨l,z',c1,c2,by rw [c3 e];exact hv⟩
  rcases new m q h with ⟨rfl,rfl⟩ | ⟨rfl,rfl⟩ | ⟨nm,h⟩
  ·rw [bo _ _ hn] at hv
   obtain ⟨a,z,b1,b2,b3⟩:=T.pred m p hn v hv
   obtain ⟨c,z',d1,d2,d3⟩:=pr a z b1 b3
   exact ⟨c,z',d1,by rw [d2,b2,olv],d3⟩
  ·rw [Z3] at hv
   exact ⟨n,_,gn,by rw [olv,nlv],hv⟩
  ·rw [bo _ _ h] at hv
   obtain ⟨a,z,b1,b2,b3⟩:=T.pred m q h v hv
   obtain ⟨c,z',d1,d2,d3⟩:=pr a z b1 b3
   exact ⟨c,z',d1,by rw [d2,b2],d3⟩
end
end TR
namespace TR
section
variable {S:Sh} {bg:Bg} {n:Nat} {p:Pg}
theorem Tree.raise (T:Tree S bg) {r q:Pg} {k:Nat} {aim x y:Int} (hr:S.pg[S.top]?=some r) (hk:S.pg[k]?=some q) (hl:q.lv=r.lv) (hb:bg k=some aim) :
    Tree { S with rd:=x,pg:=S.pg++[⟨r.lv+1,[aim],[(S.top:Int),(k:Int)],none,none⟩],top:=S.pg.length,wr:=y } (XY bg S.pg.length none)/\YX S bg { S with rd:=x,pg:=S.pg++[⟨r.lv+1,[aim],[(S.top:Int),(k:Int)],none,none⟩],top:=S.pg.length,wr:=y } (XY bg S.pg.length none):=by
  have r2:=T.room2
  have lev:∀ (m:Nat) (z:Pg),S.pg[m]?=some z->z.lv<=r.lv:=fun m z h=>by
    obtain ⟨r',a,b⟩:=T.root
    rw [hr] at a;cases a;exact b m z h
  have bo:∀ (m:Nat) (z:Pg),S.pg[m]?=some z->XY bg S.pg.length none m=bg m:=fun m z h=>UU (QJ h)
  have gl:(S.pg++[(⟨r.lv+1,[aim],[(S.top:Int),(k:Int)],none,none⟩:Pg)])[S.pg.length]?=some ⟨r.lv+1,[aim],[(S.top:Int),(k:Int)],none,none⟩:=by simp
  refine ⟨⟨r2,⟨_,gl,fun m z h=>?_⟩,Z3,fun m z h=>?_,fun m z h=>?_,fun m z h h0 j c hj=>?_,fun a b z z' ha hb' hab e=>?_,fun m z h v hv=>?_⟩,⟨fun m z h=>⟨bo m z h,z,X4 h,rfl⟩⟩⟩
  . rcases JV h with ⟨_,rfl⟩ | h
    . exact Nat.le_refl _
    . exact Nat.le_succ_of_le (lev m z h)
  . rcases JV h with ⟨rfl,rfl⟩ | h
    . rw [Z3]
      exact ⟨by simp,by show 1<=S.room;omega,by simp,fun k hk v hv=>(by cases hv),fun _ k hk v hv=>(by cases hv),fun k hk v hv=>(by cases hv),fun h hh=>(by cases hh)⟩
    . rw [bo _ _ h];exact T.page m z h
  . rcases JV h with ⟨rfl,rfl⟩ | h
    . exact .inl ⟨rfl,rfl⟩
    . rcases T.link m z h with a | ⟨z1,s,z2,a,b,c,d,e⟩
      . exact .inl a
      . exact .inr ⟨z1,s,z2,a,b,X4 c,d,by rw [bo _ _ c];exact e⟩
  . rcases JV h with ⟨rfl,rfl⟩ | h
    . match j,hj with
      | 0,hj =>
        cases hj
        exact ⟨S.top,r,rfl,X4 hr,rfl,by rw [bo _ _ hr,Z3];exact T.rbg⟩
      | 1,hj =>
        cases hj
        exact ⟨k,q,rfl,X4 hk,by show q.lv+1=r.lv+1;omega,by rw [bo _ _ hk];exact hb⟩
      | j+2,hj=>simp at hj
    . obtain ⟨c',z',a1,a2,a3,a4⟩:=T.kid m z h h0 j c hj
      exact ⟨c',z',a1,X4 a2,a3,by rw [bo _ _ a2,bo _ _ h,a4]⟩
  . rcases JV ha with ⟨rfl,rfl⟩ | ha2
    . rcases JV hb' with ⟨rfl,rfl⟩ | hb2
      . exact absurd rfl e
      . have:=lev b z' hb2;have:r.lv+1=z'.lv:=hab;omega
    . rcases JV hb' with ⟨rfl,rfl⟩ | hb2
      . have:=lev a z ha2;have:z.lv=r.lv+1:=hab;omega
      . rcases T.dis a b z z' ha2 hb2 hab e with ⟨h,v,a1,a2,a3⟩ | ⟨h,v,a1,a2,a3⟩
        . exact .inl ⟨h,v,a1,by rw [bo _ _ hb2];exact a2,a3⟩
        . exact .inr ⟨h,v,a1,by rw [bo _ _ ha2];exact a2,a3⟩
  . rcases JV h with ⟨rfl,rfl⟩ | h
    . rw [Z3] at hv;cases hv
    . rw [bo _ _ h] at hv
      obtain ⟨a,z1,b1,b2,b3⟩:=T.pred m z h v hv
      exact ⟨a,z1,X4 b1,b2,b3⟩
theorem ur {k:Int} (h:JQ p k=false):ltH k p.hi:=fun v hv=>by
 unfold JQ at h;rw [hv] at h;simp at h;omega
theorem v9 {room:Nat} (ok:JE room (bg n) p) (hl:p.lv=0) {k x:Int} (h1:leB (bg n) k) (h2:ltH k p.hi):JE (QX p k x).ks.length (bg n) (QX p k x) where
 sorted:=Vz ok.sorted k
 few:=Nat.le_refl _
 parts:=by
  have a:=ok.parts
  rw [if_pos hl] at a
  have b:=xO p.ks k
  have c:=Xv p.ks k
  show (p.ps.take (cLt p.ks k)++x::p.ps.drop (cLe p.ks k)).length=(p.ks.take (cLt p.ks k)++k::p.ks.drop (cLe p.ks k)).length+(if p.lv=0 then 0 else 1)
  rw [if_pos hl]
  simp only [List.length_append,List.length_cons,List.length_take,List.length_drop];omega
 low:=fun y hy=>by
  rcases jY ok.sorted hy with rfl | hy
  ·exact h1
  ·exact ok.low y hy
 lowF:=fun h=>by have:0 < p.lv:=h;omega
 high:=fun y hy=>by
  rcases jY ok.sorted hy with rfl | hy
  ·exact h2
  ·exact ok.high y hy
 wide:=ok.wide
theorem xH {room:Nat} (ok:JE room (bg n) p) {k x:Int}:(QX p k x).ks.length<=room+1:=by
 have b:=xO p.ks k
 have c:=Xv p.ks k
 have d:=KS p.ks k
 have e:=ok.few
 show (p.ks.take (cLt p.ks k)++k::p.ks.drop (cLe p.ks k)).length<=_
 simp only [List.length_append,List.length_cons,List.length_take,List.length_drop];omega
theorem gy {room:Nat} (ok:JE room (bg n) p) (hl:p.lv=0) {k:Int}:JE room (bg n) (without p k) where
 sorted:=uw ok.sorted k
 few:=by
  have b:=xO p.ks k
  have c:=Xv p.ks k
  have d:=KS p.ks k
  have e:=ok.few
  show (p.ks.take (cLt p.ks k)++p.ks.drop (cLe p.ks k)).length<=_
  simp only [List.length_append,List.length_take,List.length_drop];omega
 parts:=by
  have a:=ok.parts
  rw [if_pos hl] at a
  have b:=xO p.ks k
  have c:=Xv p.ks k
  show (p.ps.take (cLt p.ks k)++p.ps.drop (cLe p.ks k)).length=(p.ks.take (cLt p.ks k)++p.ks.drop (cLe p.ks k)).length+(if p.lv=0 then 0 else 1)
  rw [if_pos hl]
  simp only [List.length_append,List.length_take,List.length_drop];omega
 low:=fun y hy=>ok.low y (gJ hy)
 lowF:=fun h=>by have:0 < p.lv:=h;omega
 high:=fun y hy=>ok.high y (gJ hy)
 wide:=ok.wide
theorem QcY (T:Tree S bg) (hn:S.pg[n]?=some p) {k:Nat} {q:Pg} {aim:Int} (hk:S.pg[k]?=some q) (hl:q.lv+1=p.lv) (hb:bg k=some aim) (hu:Untold S k):aim∉p.ks/\bg n≠some aim:=by
 have ok:=T.page n p hn
 have h0:0 < p.lv:=by omega
 have pl:=ok.parts
 rw [if_neg (by omega)] at pl
 have key:∀ j,Jd (bg n) p.ks j=some aim->j < p.ps.length->False:=fun j e hj=>by
  obtain ⟨c,z,a1,a2,a3,a4⟩:=T.kid n p hn h0 j _ (List.getElem?_eq_getElem hj)
  have:c=k:=T.uniq a2 hk (by omega) (by rw [a4,e,hb])
  subst this
  exact hu n p hn h0 (by rw [<- a1];exact List.getElem_mem hj)
 refine ⟨fun hm=>?_,fun e=>key 0 e (by omega)⟩
 obtain ⟨i,hi,e⟩:=List.mem_iff_getElem.mp hm
 exact key (i+1) (by show p.ks[i]?=some aim;rw [List.getElem?_eq_getElem hi,e]) (by omega)
theorem qO {k:Int} {c:Nat} (h:k∉p.ks):(Zv p k c).ks=p.ks.take (cLt p.ks k)++k::p.ks.drop (cLe p.ks k):=by
 show p.ks.take (cLe p.ks k)++k::p.ks.drop (cLe p.ks k)=_
 rw [Qfb h]
theorem gx {room:Nat} (ok:JE room (bg n) p) (hl:0 < p.lv) {k:Int} {c:Nat} (hk:k∉p.ks) (h1:ltB (bg n) k) (h2:ltH k p.hi):JE (Zv p k c).ks.length (bg n) (Zv p k c) where
 sorted:=by rw [qO hk];exact Vz ok.sorted k
 few:=Nat.le_refl _
 parts:=by
  have a:=ok.parts
  rw [if_neg (by omega)] at a
  have d:=Xv p.ks k
  show (p.ps.take (cLe p.ks k+1)++(c:Int)::p.ps.drop (cLe p.ks k+1)).length=(p.ks.take (cLe p.ks k)++k::p.ks.drop (cLe p.ks k)).length+(if p.lv=0 then 0 else 1)
  rw [if_neg (by omega)]
  simp only [List.length_append,List.length_cons,List.length_take,List.length_drop];omega
 low:=fun y hy=>by
  rw [qO hk] at hy
  rcases jY ok.sorted hy with rfl | hy
  ·exact fun v hv=>Int.le_of_lt (h1 v hv)
  ·exact ok.low y hy
 lowF:=fun h y hy=>by
  rw [qO hk] at hy
  rcases jY ok.sorted hy with rfl | hy
  ·exact h1
  ·exact ok.lowF hl y hy
 high:=fun y hy=>by
  rw [qO hk] at hy
  rcases jY ok.sorted hy with rfl | hy
  ·exact h2
  ·exact ok.high y hy
 wide:=ok.wide
theorem yK {room:Nat} (ok:JE room (bg n) p) {k:Int} {c:Nat}:(Zv p k c).ks.length<=room+1:=by
 have d:=Xv p.ks k
 have e:=ok.few
 show (p.ks.take (cLe p.ks k)++k::p.ks.drop (cLe p.ks k)).length<=_
 simp only [List.length_append,List.length_cons,List.length_take,List.length_drop];omega
theorem GK (T:Tree S bg) (hn:S.pg[n]?=some p) {k:Nat} {q:Pg} {aim:Int} (hk:S.pg[k]?=some q) (hl:q.lv+1=p.lv) (hb:bg k=some aim) :
    ∀ j c,(Zv p aim k).ps[j]?=some c->∃ (c':Nat) (q:Pg),c=(c':Int)/\S.pg[c']?=some q/\q.lv+1=p.lv/\bg c'=Jd (bg n) (Zv p aim k).ks j:=by
  intro j c hj
  have ok:=T.page n p hn
  have h0:0 < p.lv:=by omega
  have pl:=ok.parts
  rw [if_neg (by omega)] at pl
  have d:=Xv p.ks aim
  have hj:(p.ps.take (cLe p.ks aim+1)++(k:Int)::p.ps.drop (cLe p.ks aim+1))[j]?=some c:=hj
  show ∃ (c':Nat) (q:Pg),c=(c':Int)/\S.pg[c']?=some q/\q.lv+1=p.lv/\bg c'=Jd (bg n) (p.ks.take (cLe p.ks aim)++aim::p.ks.drop (cLe p.ks aim)) j
  have lt:(p.ps.take (cLe p.ks aim+1)).length=cLe p.ks aim+1:=by rw [List.length_take];omega
  have lk:(p.ks.take (cLe p.ks aim)).length=cLe p.ks aim:=by rw [List.length_take];omega
  rcases Nat.lt_or_ge j (cLe p.ks aim+1) with h | h
  . rw [List.getElem?_append_left (by omega),List.getElem?_take_of_lt h] at hj
    obtain ⟨c',z,a1,a2,a3,a4⟩:=T.kid n p hn h0 j c hj
    refine ⟨c',z,a1,a2,a3,?_⟩
    rw [a4]
    cases j with
    | zero=>rfl
    | succ i =>
      show p.ks[i]?=(p.ks.take (cLe p.ks aim)++aim::p.ks.drop (cLe p.ks aim))[i]?
      rw [List.getElem?_append_left (by omega),List.getElem?_take_of_lt (by omega)]
  . rw [List.getElem?_append_right (by omega),lt] at hj
    rcases Nat.lt_or_ge (cLe p.ks aim+1) j with h2 | h2
    . obtain ⟨i,rfl⟩:∃ i,j=cLe p.ks aim+2+i:=⟨j - (cLe p.ks aim+2),by omega⟩
      rw [show cLe p.ks aim+2+i - (cLe p.ks aim+1)=i+1 by omega,List.getElem?_cons_succ,List.getElem?_drop] at hj
      obtain ⟨c',z,a1,a2,a3,a4⟩:=T.kid n p hn h0 _ c hj
      refine ⟨c',z,a1,a2,a3,?_⟩
      rw [a4]
      rw [show cLe p.ks aim+1+i=(cLe p.ks aim+i)+1 by omega,show cLe p.ks aim+2+i=(cLe p.ks aim+1+i)+1 by omega]
      show p.ks[cLe p.ks aim+i]?=(p.ks.take (cLe p.ks aim)++aim::p.ks.drop (cLe p.ks aim))[cLe p.ks aim+1+i]?
      rw [List.getElem?_append_right (by omega),lk,show cLe p.ks aim+1+i - cLe p.ks aim=i+1 by omega,List.getElem?_cons_succ,List.getElem?_drop]
    . have e:j=cLe p.ks aim+1:=by omega
      subst e
      rw [show cLe p.ks aim+1 - (cLe p.ks aim+1)=0 by omega] at hj
      cases hj
      refine ⟨k,q,rfl,hk,hl,?_⟩
      rw [hb]
      show some aim=(p.ks.take (cLe p.ks aim)++aim::p.ks.drop (cLe p.ks aim))[cLe p.ks aim]?
      rw [List.getElem?_append_right (by omega),lk];simp
end
end TR
namespace TR
structure All (S:Sh) (bg:Bg) (ws:List Wk):Prop where
 ok:∀ (i:Nat) (w:Wk),ws[i]?=some w->w.ended=false->WOk S bg w
 unt:∀ (i:Nat) (w:Wk) (k:Nat),ws[i]?=some w->w.ended=false->0 < w.goal->w.newp=some k->Untold S k
 diff:∀ (i j:Nat) (w v:Wk) (k:Nat),i≠j->ws[i]?=some w->ws[j]?=some v->w.ended=false->v.ended=false->0 < w.goal->0 < v.goal->w.newp=some k->v.newp≠some k
structure Stp (S:Sh) (bg:Bg) (w:Wk) (S':Sh) (bg':Bg) (w':Wk):Prop where
 tree:Tree S' bg'
 grow:YX S bg S' bg'
 wok:w'.ended=false->WOk S' bg' w'
 unt:∀ k v,Untold S k->bg k=some v->(0 < w.goal->w.newp≠some k)->Untold S' k
 new:∀ k,w'.ended=false->0 < w'.goal->w'.newp=some k->Untold S' k/\((0 < w.goal/\w.newp=some k)∨S.pg.length<=k)
 room:S'.room=S.room
 len:S'.pg.length<=S.pg.length+1
theorem All.step {S S':Sh} {bg bg':Bg} {ws:List Wk} {i:Nat} {w w':Wk} (A:All S bg ws) (hi:ws[i]?=some w) (hw:w.ended=false) (st:Stp S bg w S' bg' w'):All S' bg' (ws.set i w') where
 ok:=fun j v hj hv=>by
  rcases QL hj with ⟨rfl,rfl,_⟩ | ⟨_,h⟩
  ·exact st.wok hv
  ·exact (A.ok j v h hv).grow st.grow
 unt:=fun j v k hj hv hg hk=>by
  rcases QL hj with ⟨rfl,rfl,_⟩ | ⟨e,h⟩
  ·exact (st.new k hv hg hk).1
  ·obtain ⟨k',q,a1,a2,a3,a4⟩:=(A.ok j v h hv).tell hg
   rw [hk] at a1;cases a1
   exact st.unt k _ (A.unt j v k h hv hg hk) a4 fun g0=>(A.diff j i v w k e h hi hv hw hg g0 hk)
 diff:=fun a b u v k e ha hb hu hv gu gv hk hk'=>by
  have key:∀ (c:Nat) (x:Wk),c≠i->ws[c]?=some x->x.ended=false->0 < x.goal->x.newp=some k->w'.ended=false->0 < w'.goal->w'.newp=some k->False:=fun c x hc hx he hg hk he' hg' hk'=>by
   rcases (st.new k he' hg' hk').2 with ⟨g0,n0⟩ | l
   ·exact A.diff c i x w k hc hx hi he hw hg g0 hk n0
   ·obtain ⟨k',q,a1,a2,_⟩:=(A.ok c x hx he).tell hg
    rw [hk] at a1;cases a1
    have:=QJ a2;omega
  rcases QL ha with ⟨rfl,rfl,_⟩ | ⟨ea,ha2⟩
  ·rcases QL hb with ⟨rfl,rfl,_⟩ | ⟨eb,hb2⟩
   ·exact e rfl
   ·exact key b v eb hb2 hv gv hk' hu gu hk
  ·rcases QL hb with ⟨rfl,rfl,_⟩ | ⟨eb,hb2⟩
   ·exact key a u ea ha2 hu gu hk hv gv hk'
   ·exact A.diff a b u v k e ha2 hb2 hu hv gu gv hk hk'
theorem All.put {S:Sh} {bg:Bg} {ws:List Wk} {i:Nat} {w:Wk} (A:All S bg ws) (h1:w.place=none) (h2:w.forks=[]) (h3:w.goal=0):All S bg (ws.set i w) where
 ok:=fun j v hj hv=>by
  rcases QL hj with ⟨rfl,rfl,_⟩ | ⟨_,h⟩
  ·exact WOk.fresh h1 h2 h3
  ·exact A.ok j v h hv
 unt:=fun j v k hj hv hg hk=>by
  rcases QL hj with ⟨rfl,rfl,_⟩ | ⟨_,h⟩
  ·omega
  ·exact A.unt j v k h hv hg hk
 diff:=fun a b u v k e ha hb hu hv gu gv hk=>by
  rcases QL ha with ⟨rfl,rfl,_⟩ | ⟨_,ha⟩
  ·omega
  ·rcases QL hb with ⟨rfl,rfl,_⟩ | ⟨_,hb⟩
   ·omega
   ·exact A.diff a b u v k e ha hb hu hv gu gv hk
theorem Tree.rd {S:Sh} {bg:Bg} (T:Tree S bg) (x y:Int):Tree { S with rd:=x,wr:=y } bg:=⟨T.room2,T.root,T.rbg,T.page,T.link,T.kid,T.dis,T.pred⟩
section
variable {S:Sh} {bg:Bg} {n:Nat} {p P:Pg} {w:Wk}
theorem Untold.set {S:Sh} {n:Nat} {p P:Pg} {k:Nat} {x y:Int} (h:Untold S k) (hn:S.pg[n]?=some p) (hl:P.lv=p.lv) (hs:0 < p.lv->(k:Int)∈P.ps->(k:Int)∈p.ps):Untold { S with pg:=S.pg.set n P,rd:=x,wr:=y } k:=fun m q hm h0 hk=>by
 rcases QL hm with ⟨rfl,rfl,_⟩ | ⟨_,hm⟩
 ·exact h m p hn (by omega) (hs (by omega) hk)
 ·exact h m q hm h0 hk
theorem Untold.halves {S:Sh} {n:Nat} {p P:Pg} {k l:Nat} {x y:Int} (h:Untold S k) (hn:S.pg[n]?=some p) (hl:P.lv=p.lv) (hs:0 < p.lv->(k:Int)∈P.ps->(k:Int)∈p.ps):Untold { S with pg:=(S.pg++[QP P]).set n (Q7 P l),rd:=x,wr:=y } k:=fun m q hm h0 hk=>by
 rcases QL hm with ⟨rfl,rfl,_⟩ | ⟨_,hm⟩
 ·have h0':0 < P.lv:=h0
  exact h m p hn (by omega) (hs (by omega) (List.mem_of_mem_take hk))
 ·rcases JV hm with ⟨rfl,rfl⟩ | hm
  ·have h0':0 < P.lv:=h0
   exact h n p hn (by omega) (hs (by omega) (List.mem_of_mem_drop hk))
  ·exact h m q hm h0 hk
theorem Tree.untold_new (T:Tree S bg) {k:Nat} (h:S.pg.length<=k):Untold S k:=fun m q hm h0 hk=>by
 obtain ⟨j,hj,e⟩:=List.mem_iff_getElem.mp hk
 obtain ⟨c,z,a1,a2,_⟩:=T.kid m q hm h0 j _ (List.getElem?_eq_getElem hj)
 rw [e] at a1
 have:k=c:=by omega
 have:=QJ a2;omega
theorem Ku (T:Tree S bg) (hn:S.pg[n]?=some p) (hl:P.lv=p.lv) (hh:P.hi=p.hi) (hs:P.sd=p.sd) (ok:JE P.ks.length (bg n) P) (h2:P.ks.length<=S.room+1)
  (hk:0 < p.lv->∀ j k,P.ps[j]?=some k->∃ (c:Nat) (q:Pg),k=(c:Int)/\S.pg[c]?=some q/\q.lv+1=p.lv/\bg c=Jd (bg n) P.ks j)
  (W:WOk S bg w) (hw:w.ended=false) (hpl:w.place=some n∨w.place=none) (hg:p.lv=w.goal) (hsub:∀ k:Nat,0 < p.lv->(k:Int)∈P.ps->(k:Int)∈p.ps∨(0 < w.goal/\w.newp=some k)) :
  ∃ bg',Stp S bg w (Qx S w n P).2.1 bg' (Qx S w n P).2.2:=by
 unfold Qx
 by_cases hr:P.ks.length<=S.room
 ·rw [if_pos hr]
  obtain ⟨T',G⟩:=T.write (x:=S.rd) (y:=S.wr+1) (p':=P) hn hl hh hs ⟨ok.sorted,hr,ok.parts,ok.low,ok.lowF,ok.high,ok.wide⟩ hk
  refine ⟨bg,T',G,fun h=>(by cases h),fun k v hu hb hne=>hu.set hn hl fun h0 hm=>?_,fun k h=>(by cases h),rfl,(by simp)⟩
  rcases hsub k h0 hm with a | ⟨a,b⟩
  ·exact a
  ·exact absurd b (hne a)
 ·rw [if_neg hr]
  obtain ⟨T',G⟩:=T.split (x:=S.rd) (y:=S.wr+1+1) hn hl hh hs ok (by omega) h2 hk
  have r2:=T.room2
  have kl:=Gh ok (by omega)
  have gl:((S.pg++[QP P]).set n (Q7 P S.pg.length))[S.pg.length]?=some (QP P):=by
   rw [List.getElem?_set_ne (by have:=QJ hn;omega),List.getElem?_append_right (Nat.le_refl _)];simp
  have pln:∀ f,JU w.forks (p.lv+1)=some f->w.place=some n:=fun f hf=>by
   rcases hpl with h | h
   ·exact h
   ·have:=W.none_ h _ f hf;omega
  refine ⟨_,T',G,fun _=>?_,fun k v hu hb hne=>hu.halves hn hl fun h0 hm=>?_,fun k _ _ e=>?_,rfl,by simp⟩
  ·have lv':P.lv=w.goal:=hl.trans hg
   refine ⟨fun f hf=>?_,fun hnone l f hf=>?_,fun l f hf=>?_,fun f q hf hq l f' hf' hlt=>?_,fun l f l' f' hf hf' a b=>?_,fun f q hf hq hlt=>?_,fun f q hf hq l' f' hf' l a b=>?_,fun _=>⟨S.pg.length,QP P,rfl,gl,rfl,Z3⟩⟩
   ·have hf:JU w.forks (P.lv+1)=some f:=hf
    rw [hl] at hf
    obtain ⟨q,a1,a2⟩:=W.kept _ f hf
    obtain ⟨e,q',a3,a4⟩:=G.old f q a1
    refine ⟨q',a3,?_,?_⟩
    ·show P.lv+1<=q'.lv;omega
    ·rw [e]
     intro v hv
     obtain ⟨u,b1,b2⟩:=W.above n p (pln f hf) hn _ f hf (by omega) v hv
     have:=kl u b1;show v<=J9 P;omega
   ·have hnone:JU w.forks (P.lv+1)=none:=hnone
    show l < P.lv+1
    rcases Nat.lt_or_ge l (P.lv+1) with h | h
    ·exact h
    ·exfalso
     rcases hpl with hp | hp
     ·obtain ⟨f0,hf0⟩:=W.full n p hp hn l f hf (P.lv+1) (by omega) h
      rw [hnone] at hf0;cases hf0
     ·have:=W.none_ hp l f hf;omega
   ·obtain ⟨q,a1,a2⟩:=W.kept l f hf
    obtain ⟨e,q',a3,a4⟩:=G.old f q a1
    exact ⟨q',a3,by omega⟩
   ·have hf:JU w.forks (P.lv+1)=some f:=hf
    obtain ⟨q0,a1,a2⟩:=W.kept _ f hf
    obtain ⟨q1,b1,b2⟩:=W.kept _ f' hf'
    obtain ⟨e,q',a3,a4⟩:=G.old f q0 a1
    rw [e,(G.old f' q1 b1).1]
    rw [a3] at hq;cases hq
    exact W.chain _ f l f' hf hf' (by omega) (by omega)
   ·obtain ⟨q0,a1,a2⟩:=W.kept _ f hf
    obtain ⟨q1,b1,b2⟩:=W.kept _ f' hf'
    rw [(G.old f q0 a1).1,(G.old f' q1 b1).1]
    have a:P.lv+1<=l:=a
    exact W.chain l f l' f' hf hf' (by omega) b
   ·have hf:JU w.forks (P.lv+1)=some f:=hf
    obtain ⟨q0,a1,a2⟩:=W.kept _ f hf
    obtain ⟨e,q',a3,a4⟩:=G.old f q0 a1
    have hlt2:P.lv+1 < q.lv:=hlt
    rw [a3] at hq;cases hq
    omega
   ·have hf:JU w.forks (P.lv+1)=some f:=hf
    obtain ⟨q0,a1,a2⟩:=W.kept _ f hf
    obtain ⟨e,q',a3,a4⟩:=G.old f q0 a1
    rw [a3] at hq;cases hq
    rw [hl] at hf
    exact W.full n p (pln f hf) hn l' f' hf' l (by omega) b
  ·rcases hsub k h0 hm with a | ⟨a,b⟩
   ·exact a
   ·exact absurd b (hne a)
  ·have e:S.pg.length=k:=Option.some.inj e
   subst e
   refine ⟨(T.untold_new (Nat.le_refl _)).halves hn hl fun h0 hm=>?_,.inr (Nat.le_refl _)⟩
   obtain ⟨j,hj,e⟩:=List.mem_iff_getElem.mp hm
   obtain ⟨c,z,a1,a2,_⟩:=hk h0 j _ (List.getElem?_eq_getElem hj)
   rw [e] at a1
   have:S.pg.length=c:=by omega
   have:=QJ a2;omega
end
end TR
namespace TR
section
variable {S:Sh} {bg:Bg} {n:Nat} {p:Pg} {w:Wk}
theorem QaE {ks:List Int} (h:ks.Pairwise (· < ·)) {k x:Int} {i:Nat} (hi:i < cLe ks k) (hx:ks[i]?=some x):x<=k:=by
 have e:(ks.take (cLe ks k))[i]?=some x:=by rw [List.getElem?_take_of_lt hi];exact hx
 rw [(zH h k).1] at e
 simpa using (List.mem_filter.mp (List.mem_of_getElem? e)).2
theorem gX (T:Tree S bg) (W:WOk S bg w) (hpl:w.place=some n∨w.place=none) (hn:S.pg[n]?=some p) (hg:w.goal<=p.lv) {s:Nat} {q:Pg} {h:Int} (hh:p.hi=some h) (hs:S.pg[s]?=some q) (hl:q.lv=p.lv) (hb:bg s=some h) {w':Wk} (e1:w'.place=some s) (e2:w'.forks=w.forks) (e3:w'.goal=w.goal) (e4:h<=w'.aim) (e5:0 < w.goal->w'.newp=w.newp/\w'.aim=w.aim):WOk S bg w' where
 at_:=fun m hm=>by
  rw [e1] at hm;cases hm
  exact ⟨q,hs,by omega,fun v hv=>by rw [hb] at hv;cases hv;exact e4⟩
 none_:=fun hm=>by rw [e1] at hm;cases hm
 kept:=fun l f hf=>W.kept l f (e2▸hf)
 above:=fun m z hm hz l f hf hlt=>by
  rw [e1] at hm;cases hm
  rw [hs] at hz;cases hz
  rw [e2] at hf
  rcases hpl with hp | hp
  ·refine (W.above n p hp hn l f hf (by omega)).trans fun v hv=>⟨h,hb,?_⟩
   have:=(T.page n p hn).wide h hh v hv;omega
  ·have:=W.none_ hp l f hf;omega
 chain:=fun l f l' f' hf hf' a b=>W.chain l f l' f' (e2▸hf) (e2▸hf') (e3▸a) b
 gap:=fun m z hm hz hlt l f hf=>by
  rw [e1] at hm;cases hm
  rw [hs] at hz;cases hz
  rw [e2] at hf
  rcases hpl with hp | hp
  ·rcases W.gap n p hp hn (by omega) l f hf with a | a
   ·exact .inl (by omega)
   ·exact .inr (by omega)
  ·exact .inl (by have:=W.none_ hp l f hf;omega)
 full:=fun m z hm hz l' f' hf' l a b=>by
  rw [e1] at hm;cases hm
  rw [hs] at hz;cases hz
  rw [e2] at hf' ⊢
  rcases hpl with hp | hp
  ·exact W.full n p hp hn l' f' hf' l (by omega) b
  ·have:=W.none_ hp l' f' hf';omega
 tell:=fun h0=>by
  rw [e3] at h0 ⊢
  obtain ⟨k,z,a1,a2,a3,a4⟩:=W.tell h0
  obtain ⟨b1,b2⟩:=e5 h0
  exact ⟨k,z,b1.trans a1,a2,a3,by rw [b2];exact a4⟩
theorem QdC (T:Tree S bg) (W:WOk S bg w) (hpl:w.place=some n∨(w.place=none/\n=S.top)) (hn:S.pg[n]?=some p) (hg:w.goal < p.lv) {c:Nat} {q:Pg} (hc:S.pg[c]?=some q) (hl:q.lv+1=p.lv) (hb:bg c=Jd (bg n) p.ks (cLe p.ks w.aim)):WOk S bg { w with forks:=zB w.forks p.lv n,place:=some c }:=by
  have ok:=T.page n p hn
  have lb:leBB (bg n) (bg c):=by
    rw [hb]
    cases e:cLe p.ks w.aim with
    | zero=>exact leBB.refl _
    | succ i =>
      intro v hv
      have hi:i < p.ks.length:=by have:=Xv p.ks w.aim;omega
      refine ⟨p.ks[i],List.getElem?_eq_getElem hi,Int.le_of_lt (ok.lowF (by omega) _ (List.getElem_mem hi) v hv)⟩
  have la:leB (bg n) w.aim:=by
    rcases hpl with hp | ⟨_,rfl⟩
    . obtain ⟨p',a1,a2,a3⟩:=W.at_ n hp
      exact a3
    . intro v hv;rw [T.rbg] at hv;cases hv
  have ca:leB (bg c) w.aim:=by
    rw [hb]
    cases e:cLe p.ks w.aim with
    | zero=>exact la
    | succ i=>intro v hv;exact QaE ok.sorted (by omega) hv
  have old:∀ l f,JU w.forks l=some f->l≠p.lv->l < w.goal∨(p.lv < l/\w.place=some n):=fun l f hf hne=>by
    rcases hpl with hp | ⟨hp,_⟩
    . rcases W.gap n p hp hn hg l f hf with a | a
      . exact .inl a
      . exact .inr ⟨a,hp⟩
    . exact .inl (W.none_ hp l f hf)
  have gp:∀ l f,JU (zB w.forks p.lv n) l=some f->(l=p.lv/\f=n)∨(l≠p.lv/\JU w.forks l=some f):=fun l f hf=>by
    rw [zm] at hf
    by_cases e:l=p.lv
    . rw [if_pos e] at hf;cases hf;exact .inl ⟨e,rfl⟩
    . rw [if_neg e] at hf;exact .inr ⟨e,hf⟩
  refine ⟨fun m hm=>?_,fun hm=>(by cases hm),fun l f hf=>?_,fun m z hm hz l f hf hlt=>?_,fun l f l' f' hf hf' a b=>?_,fun m z hm hz hlt l f hf=>?_,fun m z hm hz l' f' hf' l a b=>?_,W.tell⟩
  . cases hm
    refine ⟨q,hc,?_,ca⟩
    show w.goal<=q.lv;omega
  . rcases gp l f hf with ⟨rfl,rfl⟩ | ⟨_,h⟩
    . exact ⟨p,hn,rfl⟩
    . exact W.kept l f h
  . cases hm
    rw [hc] at hz;cases hz
    rcases gp l f hf with ⟨rfl,rfl⟩ | ⟨hne,h⟩
    . exact lb
    . rcases old l f h hne with a | ⟨a,hp⟩
      . omega
      . exact (W.above n p hp hn l f h a).trans lb
  . have a:w.goal<=l:=a
    rcases gp l f hf with ⟨rfl,rfl⟩ | ⟨hne,h⟩
    . rcases gp l' f' hf' with ⟨rfl,rfl⟩ | ⟨hne',h'⟩
      . omega
      . rcases old l' f' h' hne' with c1 | ⟨c1,hp⟩
        . omega
        . exact W.above _ p hp hn l' f' h' c1
    . rcases gp l' f' hf' with ⟨rfl,rfl⟩ | ⟨hne',h'⟩
      . rcases old l f h hne with c1 | ⟨c1,hp⟩<;>omega
      . exact W.chain l f l' f' h h' a b
  . cases hm
    rw [hc] at hz;cases hz
    show l < w.goal∨_
    rcases gp l f hf with ⟨rfl,rfl⟩ | ⟨hne,h⟩
    . exact .inr (by omega)
    . rcases old l f h hne with c1 | ⟨c1,hp⟩
      . exact .inl c1
      . exact .inr (by omega)
  . cases hm
    rw [hc] at hz;cases hz
    by_cases e:l=p.lv
    . exact ⟨n,by rw [zm,if_pos e]⟩
    . rcases gp l' f' hf' with ⟨rfl,rfl⟩ | ⟨hne,h⟩
      . omega
      . rcases old l' f' h hne with c1 | ⟨c1,hp⟩
        . omega
        . obtain ⟨f,hf⟩:=W.full n p hp hn l' f' h l (by omega) b
          exact ⟨f,by rw [zm,if_neg e];exact hf⟩
theorem Stp.of_rd {S':Sh} {bg':Bg} {w':Wk} {x y:Int} (h:Stp { S with rd:=x,wr:=y } bg w S' bg' w'):Stp S bg w S' bg' w':=⟨h.tree,⟨h.grow.old⟩,h.wok,h.unt,h.new,h.room,h.len⟩
theorem Stp.still (T:Tree S bg) {w':Wk} {x y:Int} (hu:0 < w.goal->∀ k,w.newp=some k->Untold S k) (h:w'.ended=false->WOk S bg w'/\(w'.goal=w.goal/\(0 < w.goal->w'.newp=w.newp))):Stp S bg w { S with rd:=x,wr:=y } bg w' where
 tree:=T.rd x y
 grow:=⟨fun n p h=>⟨rfl,p,h,rfl⟩⟩
 wok:=fun e=>let W:=(h e).1;⟨W.at_,W.none_,W.kept,W.above,W.chain,W.gap,W.full,W.tell⟩
 unt:=fun k v hu _ _=>hu
 new:=fun k e g0 hk=>by
  obtain ⟨_,e1,e2⟩:=h e
  rw [e1] at g0
  rw [e2 g0] at hk
  exact ⟨hu g0 k hk,.inl ⟨g0,hk⟩⟩
 room:=rfl
 len:=Nat.le_succ _
theorem WOk.rd (W:WOk S bg w) (x y:Int):WOk { S with rd:=x,wr:=y } bg w:=⟨W.at_,W.none_,W.kept,W.above,W.chain,W.gap,W.full,W.tell⟩
theorem QeA (T:Tree S bg) (W:WOk S bg w) (hw:w.ended=false) (hu:0 < w.goal->∀ k,w.newp=some k->Untold S k):∃ r S' w' bg',Jh S w=some (r,S',w')/\Stp S bg w S' bg' w':=by
  obtain ⟨n,hn0,hpl⟩:∃ n,w.place.getD S.top=n/\(w.place=some n∨(w.place=none/\n=S.top)):=by
    cases e:w.place with
    | none=>exact ⟨S.top,rfl,.inr ⟨rfl,rfl⟩⟩
    | some m=>exact ⟨m,rfl,.inl rfl⟩
  obtain ⟨p,hn⟩:∃ p,S.pg[n]?=some p:=by
    rcases hpl with hp | ⟨_,rfl⟩
    . obtain ⟨p,a,_⟩:=W.at_ n hp;exact ⟨p,a⟩
    . obtain ⟨p,a,_⟩:=T.root;exact ⟨p,a⟩
  have hpl':w.place=some n∨w.place=none:=hpl.imp id And.left
  have ok:=T.page n p hn
  have la:leB (bg n) w.aim:=by
    rcases hpl with hp | ⟨_,rfl⟩
    . obtain ⟨p',a1,a2,a3⟩:=W.at_ n hp
      exact a3
    . intro v hv;rw [T.rbg] at hv;cases hv
  unfold Jh
  rw [if_neg (by rw [hw];simp),hn0]
  simp only [hn]
  by_cases hr:w.place=none/\p.lv < w.goal
  . rw [if_pos hr]
    have htop:n=S.top:=by
      rcases hpl with hp | ⟨_,e⟩
      . rw [hr.1] at hp;cases hp
      . exact e
    subst htop
    obtain ⟨k,q,a1,a2,a3,a4⟩:=W.tell (by omega)
    simp only [a1]
    have lev:q.lv<=p.lv:=by
      obtain ⟨r,b1,b2⟩:=T.root
      rw [hn] at b1;cases b1;exact b2 k q a2
    obtain ⟨T',G⟩:=T.raise (x:=S.rd+1) (y:=S.wr+1) hn a2 (by omega) a4
    refine ⟨_,_,_,_,rfl,T',G,fun h=>(by cases h),fun k' v hu' hb hne m z hm h0 hk'=>?_,fun k' h=>(by cases h),rfl,by simp⟩
    rcases JV hm with ⟨rfl,rfl⟩ | hm
    . have hk2:(k':Int)=(S.top:Int)∨(k':Int)=(k:Int):=by simpa using hk'
      rcases hk2 with e | e
      . have:k'=S.top:=by omega
        subst this;rw [T.rbg] at hb;cases hb
      . have:k'=k:=by omega
        subst this;exact hne (by omega) a1
    . exact hu' m z hm h0 hk'
  . rw [if_neg hr]
    have hg:w.goal<=p.lv:=by
      rcases hpl with hp | ⟨hp,_⟩
      . obtain ⟨p',b1,b2,_⟩:=W.at_ n hp
        rw [hn] at b1;cases b1;exact b2
      . exact Nat.le_of_not_lt fun h=>hr ⟨hp,h⟩
    cases hb:JQ p w.aim with
    | true =>
      rw [if_pos rfl]
      rcases T.link n p hn with ⟨a,b⟩ | ⟨h,s,q,a,b,c,d,e⟩
      . unfold JQ at hb;rw [a] at hb;cases hb
      . simp only [b]
        have ha:h<=w.aim:=by unfold JQ at hb;rw [a] at hb;simpa using hb
        exact ⟨_,_,_,bg,rfl,Stp.still T hu fun _=>⟨gX T W hpl' hn hg a c d e rfl rfl rfl ha fun _=>⟨rfl,rfl⟩,rfl,fun _=>rfl⟩⟩
    | false =>
      have lh:=ur hb
      rw [if_neg (by simp)]
      by_cases hd:w.goal < p.lv
      . rw [if_pos hd]
        have pl:=ok.parts
        rw [if_neg (by omega)] at pl
        have hc:cLe p.ks w.aim < p.ps.length:=by have:=Xv p.ks w.aim;omega
        obtain ⟨c,q,a1,a2,a3,a4⟩:=T.kid n p hn (by omega) _ _ (List.getElem?_eq_getElem hc)
        rw [List.getElem?_eq_getElem hc,a1]
        simp only [Int.toNat_natCast]
        exact ⟨_,_,_,bg,rfl,Stp.still T hu fun _=>⟨QdC T W hpl hn hd a2 a3 a4,rfl,fun _=>rfl⟩⟩
      . rw [if_neg hd]
        have hlv:p.lv=w.goal:=by omega
        by_cases h0:0 < w.goal
        . rw [if_pos h0]
          obtain ⟨k,q,a1,a2,a3,a4⟩:=W.tell h0
          simp only [a1]
          obtain ⟨n1,n2⟩:=QcY T hn a2 (by omega) a4 (hu h0 k a1)
          have lt:ltB (bg n) w.aim:=fun v hv=>by
            have:=la v hv
            have:v≠w.aim:=fun e=>n2 (by rw [hv,e])
            omega
          obtain ⟨bg',st⟩:=Ku (S:={ S with rd:=S.rd+1,wr:=S.wr }) (P:=Zv p w.aim k) (T.rd _ _) hn rfl rfl rfl (gx ok (by omega) n1 lt lh) (yK ok) (fun _=>GK T hn a2 (by omega) a4) (W.rd _ _) hw hpl' hlv (fun k' _ hm=>by
            rcases List.mem_append.mp hm with hm | hm
            . exact .inl (List.mem_of_mem_take hm)
            . rcases List.mem_cons.mp hm with e | hm
              . have:k'=k:=by omega
                subst this;exact .inr ⟨h0,a1⟩
              . exact .inl (List.mem_of_mem_drop hm))
          exact ⟨_,_,_,bg',rfl,st.of_rd⟩
        . rw [if_neg h0]
          have hz:p.lv=0:=by omega
          have g0:w.goal=0:=by omega
          unfold Z7
          cases hdd:w.deed with
          | find k=>exact ⟨_,_,_,bg,rfl,Stp.still T hu fun h=>(by cases h)⟩
          | put k x =>
            have W1:WOk { S with rd:=S.rd+1,wr:=S.wr } bg ({ deed:=.put k x,aim:=w.aim,goal:=w.goal,place:=w.place,forks:=w.forks,newp:=w.newp,worth:=QY p w.aim,pairs:=w.pairs,ended:=w.ended }:Wk):=⟨W.at_,W.none_,W.kept,W.above,W.chain,W.gap,W.full,W.tell⟩
            obtain ⟨bg',st⟩:=Ku (S:={ S with rd:=S.rd+1,wr:=S.wr }) (w:=({ deed:=.put k x,aim:=w.aim,goal:=w.goal,place:=w.place,forks:=w.forks,newp:=w.newp,worth:=QY p w.aim,pairs:=w.pairs,ended:=w.ended }:Wk)) (P:=QX p w.aim x) (T.rd _ _) hn rfl rfl rfl (v9 ok hz la lh) (xH ok) (fun h=>(by omega)) W1 hw hpl' hlv (fun k' h=>(by omega))
            exact ⟨_,_,_,bg',rfl,⟨st.tree,⟨st.grow.old⟩,st.wok,st.unt,st.new,st.room,st.len⟩⟩
          | cut k =>
            dsimp only
            by_cases hs:(QY p w.aim).isSome=true
            . rw [if_pos hs]
              obtain ⟨T',G⟩:=T.write (x:=S.rd+1) (y:=S.wr+1) (p':=without p w.aim) hn rfl rfl rfl (gy ok hz) (fun h=>(by omega))
              exact ⟨_,_,_,bg,rfl,T',G,fun h=>(by cases h),fun k' v hu' _ _=>hu'.set hn rfl fun h=>(by omega),fun k' h=>(by cases h),rfl,by simp⟩
            . rw [if_neg hs]
              exact ⟨_,_,_,bg,rfl,Stp.still T hu fun h=>(by cases h)⟩
          | stretch l h =>
            dsimp only
            rcases T.link n p hn with ⟨a,b⟩ | ⟨x,s,q,a,b,c,d,e⟩
            . simp only [a,b]
              exact ⟨_,_,_,bg,rfl,Stp.still T hu fun h=>(by cases h)⟩
            . simp only [a,b]
              by_cases hx:h<=x
              . rw [if_pos hx]
                exact ⟨_,_,_,bg,rfl,Stp.still T hu fun h=>(by cases h)⟩
              . rw [if_neg hx]
                exact ⟨_,_,_,bg,rfl,Stp.still T hu fun _=>⟨gX T W hpl' hn hg a c d e rfl rfl rfl (Int.le_refl _) (fun z=>(by omega)),rfl,fun _=>rfl⟩⟩
end
end TR
namespace TR
def ltO:Option Int->Option Int->Bool
 | none,some _=>true
 | some v,some u=>decide (v < u)
 | _,none=>false
theorem QaI {a b c:Option Int} (h:ltO a b=true) (g:ltO b c=true):ltO a c=true:=by
 cases a<;>cases b<;>cases c<;>simp_all [ltO];omega
theorem kr (a:Option Int):ltO a a=false:=by cases a<;>simp [ltO]
theorem Qb3 {b:Option Int} {h:Int} (w:ltB b h):ltO b (some h)=true:=by
 cases b with
 | none=>rfl
 | some v=>simpa [ltO] using w v rfl
theorem K7 {α:Type} (p q:α->Bool):∀ l:List α,(∀ x∈l,q x=true->p x=true)->(l.filter q).length<=(l.filter p).length
  | [],_=>Nat.le_refl _
  | x::l,h=>by
    have ih:=K7 p q l fun y hy=>h y (List.mem_cons_of_mem _ hy)
    have hx:=h x (by simp)
    by_cases a:q x=true
    . simp [List.filter_cons,a,hx a,ih]
    . by_cases b:p x=true
      . simp [List.filter_cons,a,b];omega
      . simp [List.filter_cons,a,b,ih]
theorem K8 {α:Type} (p q:α->Bool):∀ l:List α,(∀ x∈l,q x=true->p x=true)->(∃ a∈l,p a=true/\q a=false)->(l.filter q).length < (l.filter p).length
  | [],_,h=>by obtain ⟨a,h,_⟩:=h;cases h
  | x::l,h,⟨a,ha,pa,qa⟩=>by
    have le:=K7 p q l fun y hy=>h y (List.mem_cons_of_mem _ hy)
    rcases List.mem_cons.mp ha with rfl | ha
    . simp [List.filter_cons,pa,qa];omega
    . have ih:=K8 p q l (fun y hy=>h y (List.mem_cons_of_mem _ hy)) ⟨a,ha,pa,qa⟩
      have hx:=h x (by simp)
      by_cases a:q x=true
      . simp [List.filter_cons,a,hx a];omega
      . by_cases b:p x=true
        . simp [List.filter_cons,a,b];omega
        . simp [List.filter_cons,a,b];omega
section
variable {S:Sh} {bg:Bg}
theorem kQ (T:Tree S bg) {n s:Nat} {p:Pg} (hn:S.pg[n]?=some p) (hs:p.sd=some s):∃ h q,p.hi=some h/\S.pg[s]?=some q/\q.lv=p.lv/\bg s=some h/\ltO (bg n) (bg s)=true:=by
 rcases T.link n p hn with ⟨_,b⟩ | ⟨h,s',q,a,b,c,d,e⟩
 ·rw [hs] at b;cases b
 ·rw [hs] at b;cases b
  exact ⟨h,q,a,c,d,e,by rw [e];exact Qb3 ((T.page n p hn).wide h a)⟩
def lvB (S:Sh) (f:Nat->Bool) (n:Nat):Bool:=match S.pg[n]? with
 | some p=>f p.lv
 | none=>false
theorem zM (S:Sh) (j:Nat):∀ l:List Nat,(l.filter (lvB S fun x=>decide (x < j+1))).length=(l.filter (lvB S fun x=>decide (x < j))).length+(l.filter (lvB S fun x=>decide (x=j))).length
  | []=>rfl
  | n::l=>by
    have ih:=zM S j l
    have e:∀ f:Nat->Bool,((n::l).filter (lvB S f)).length=(if lvB S f n=true then 1 else 0)+(l.filter (lvB S f)).length:=fun f=>by
      by_cases h:lvB S f n=true
      . simp [List.filter_cons,h];omega
      . simp [List.filter_cons,h]
    rw [e,e,e,ih]
    unfold lvB
    cases S.pg[n]? with
    | none=>simp
    | some p =>
      simp only [decide_eq_true_eq]
      rcases Nat.lt_trichotomy p.lv j with h | h | h
      . rw [if_pos (by omega),if_pos h,if_neg (by omega)];omega
      . rw [if_pos (by omega),if_neg (by omega),if_pos h];omega
      . rw [if_neg (by omega),if_neg (by omega),if_neg (by omega)];omega
theorem Vm (S:Sh) (l:List Nat):(l.filter (lvB S fun x=>decide (x < 0))).length=0:=by
 rw [List.length_eq_zero_iff,List.filter_eq_nil_iff]
 intro n _
 unfold lvB
 cases S.pg[n]?<;>simp
theorem U1 {L:Nat} (h:∀ (n:Nat) (p:Pg),S.pg[n]?=some p->p.lv<=L):((List.range S.pg.length).filter (lvB S fun x=>decide (x < L+1))).length=S.pg.length:=by
 rw [List.filter_eq_self.mpr,List.length_range]
 intro n hn
 rw [List.mem_range] at hn
 unfold lvB
 rw [List.getElem?_eq_getElem hn]
 have:=h n _ (List.getElem?_eq_getElem hn)
 simp;omega
inductive Lefts (S:Sh) (bg:Bg):Nat->List Nat->Prop
 | leaf {n:Nat} {p:Pg}:S.pg[n]?=some p->p.lv=0->bg n=none->Lefts S bg n [n]
 | fork {n c:Nat} {p:Pg} {r:List Nat}:S.pg[n]?=some p->0 < p.lv->bg n=none->p.ps[0]?=some (c:Int)->Lefts S bg c r->Lefts S bg n (n::r)
theorem vq (T:Tree S bg):∀ (l n:Nat) (p:Pg),p.lv=l->S.pg[n]?=some p->bg n=none->∃ r,Lefts S bg n r/\r.length=l+1
  | 0,n,p,h,hn,hb=>⟨_,.leaf hn h hb,rfl⟩
  | l+1,n,p,h,hn,hb=>by
    have ok:=T.page n p hn
    have pl:=ok.parts
    rw [if_neg (by omega)] at pl
    have h0:0 < p.ps.length:=by omega
    obtain ⟨c,q,a1,a2,a3,a4⟩:=T.kid n p hn (by omega) 0 _ (List.getElem?_eq_getElem h0)
    obtain ⟨r,b1,b2⟩:=vq T l c q (by omega) a2 (by rw [a4];exact hb)
    exact ⟨_,.fork hn (by omega) hb (by rw [List.getElem?_eq_getElem h0,a1]) b1,by simp [b2]⟩
theorem Lefts.get {n:Nat} {r:List Nat} (h:Lefts S bg n r):∀ (T:Tree S bg) (p:Pg),S.pg[n]?=some p->r.length=p.lv+1/\∀ i c,r[i]?=some c->∃ q,S.pg[c]?=some q/\q.lv+i=p.lv/\bg c=none:=by
  induction h with
  | @leaf n p0 hn h0 hb =>
    intro T p hp
    rw [hn] at hp;cases hp
    refine ⟨by simp [h0],fun i c hc=>?_⟩
    match i,hc with
    | 0,hc=>cases hc;exact ⟨_,hn,rfl,hb⟩
    | i+1,hc=>simp at hc
  | @fork n c p0 r hn h0 hb hc l ih =>
    intro T p hp
    rw [hn] at hp;cases hp
    obtain ⟨c',q,a1,a2,a3,a4⟩:=T.kid n p0 hn h0 0 _ hc
    have:c=c':=by omega
    subst this
    obtain ⟨i1,i2⟩:=ih T q a2
    refine ⟨by simp [i1];omega,fun i d hd=>?_⟩
    match i,hd with
    | 0,hd=>cases hd;exact ⟨_,hn,rfl,hb⟩
    | i+1,hd =>
      obtain ⟨z,b1,b2,b3⟩:=i2 i d (by simpa using hd)
      exact ⟨z,b1,by omega,b3⟩
end
end TR
namespace TR
theorem QcB (fs:List (Nat×Nat)) (k v:Nat):(zB fs k v).length<=fs.length+1:=by
 unfold zB;split<;>simp
theorem xC (S:Sh) (w:Wk) (n:Nat) (P:Pg):(Qx S w n P).2.2.forks=w.forks/\(Qx S w n P).2.2.pairs=w.pairs:=by
 unfold Qx;split<;>exact ⟨rfl,rfl⟩
theorem vE (p:Pg) (l h:Int):(QW p l h).length<=p.ks.length:=by
 unfold QW
 refine Nat.le_trans (List.length_filter_le _ _) ?_
 rw [List.length_zip];omega
theorem uI (S:Sh) (w:Wk) (n:Nat) (p:Pg):(Z7 S w n p).2.2.forks=w.forks/\(Z7 S w n p).2.2.pairs.length<=w.pairs.length+p.ks.length:=by
  obtain ⟨deed,aim,goal,place,forks,newp,worth,pairs,ended⟩:=w
  cases deed with
  | find k=>exact ⟨rfl,by simp [Z7]⟩
  | put k x =>
    have:=xC S ⟨.put k x,aim,goal,place,forks,newp,QY p aim,pairs,ended⟩ n (QX p aim x)
    refine ⟨this.1,?_⟩
    show (Qx S ⟨.put k x,aim,goal,place,forks,newp,QY p aim,pairs,ended⟩ n (QX p aim x)).2.2.pairs.length<=_
    rw [this.2]
    exact Nat.le_add_right _ _
  | cut k=>exact ⟨rfl,by simp [Z7]⟩
  | stretch l h =>
    have pl:=vE p l h
    unfold Z7
    dsimp only
    split
    . split
      . exact ⟨rfl,by simp;omega⟩
      . exact ⟨rfl,by simp;omega⟩
    . exact ⟨rfl,by simp;omega⟩
theorem Ud {S S':Sh} {w w':Wk} {r:Row} {m:Nat} (hk:∀ (n:Nat) (p:Pg),S.pg[n]?=some p->p.ks.length<=m) (h:Jh S w=some (r,S',w')):w'.forks.length<=w.forks.length+1/\w'.pairs.length<=w.pairs.length+m:=by
 unfold Jh at h
 split at h
 ·cases h;exact ⟨by omega,by omega⟩
 ·split at h
  ·cases h
  ·rename_i p hp
   have kl:=hk _ p hp
   split at h
   ·split at h
    ·cases h
    ·cases h;exact ⟨by simp,by simp⟩
   ·split at h
    ·split at h
     ·cases h
     ·cases h;exact ⟨by simp,by simp⟩
    ·split at h
     ·split at h
      ·cases h
      ·cases h;exact ⟨QcB _ _ _,by simp⟩
     ·split at h
      ·split at h
       ·cases h
       ·rename_i c hc
        have z:=xC { S with rd:=S.rd+1 } w (w.place.getD S.top) (Zv p w.aim c)
        have e:=Option.some.inj h
        have e2:(Qx { S with rd:=S.rd+1 } w (w.place.getD S.top) (Zv p w.aim c)).2.2=w':=congrArg (fun t=>t.2.2) e
        rw [e2] at z
        exact ⟨by rw [z.1];omega,by rw [z.2];omega⟩
      ·have e:=Option.some.inj h
       have z:=uI { S with rd:=S.rd+1 } w (w.place.getD S.top) p
       rw [e] at z
       have z2:w'.pairs.length<=w.pairs.length+p.ks.length:=z.2
       have z1:w'.forks=w.forks:=z.1
       exact ⟨by rw [z1];omega,by omega⟩
def fresh (d:Deed):Wk:=⟨d,d.key,0,none,[],none,none,[],false⟩
end TR
namespace D
open PySem PySem.Spec PyProof.Rows L2
def oN:Option Nat->DV
 | none=>.non
 | some n=>.int n
def pgD (p:TR.Pg):DV:=.tup [.int p.lv,.tup (p.ks.map .int),.tup (p.ps.map .int),opt p.hi,oN p.sd]
def QU:TR.Deed->DV
 | .find k=>.tup [.str "find", .int k]
 | .put k w=>.tup [.str "put", .int k,.int w]
 | .cut k=>.tup [.str "cut", .int k]
 | .stretch l h=>.tup [.str "stretch", .int l,.int h]
def fkD (fs:List (Nat×Nat)):List (Key×DV):=fs.map fun p=>(.inl p.1,.int p.2)
def prD (ps:List (Int×Int)):List DV:=ps.map fun p=>.tup [.int p.1,.int p.2]
def wkF (s f q:Nat) (d a g p n w e:DV):List (Str×DV):=[("shelf", .ref s),("deed", d),("aim", a),("goal", g),("place", p),("forks", .ref f),("new_page", n),("worth", w),("pairs", .ref q),("ended", e)]
def wkO (s f q:Nat) (w:TR.Wk):OV:=.ins "Walk" (wkF s f q (QU w.deed) (.int w.aim) (.int w.goal) (oN w.place) (oN w.newp) (opt w.worth) (.bl w.ended))
def Gx:TR.Row->DV
 | .non=>.non
 | .side n t=>.tup [.str "side", .int n,.int t]
 | .down n t=>.tup [.str "down", .int n,.int t]
 | .found n w=>.tup [.str "found", .int n,opt w]
 | .put n w k=>.tup [.str "put", .int n,opt w,oN k]
 | .cut n w=>.tup [.str "cut", .int n,opt w]
 | .read n ps none=>.tup [.str "read", .int n,.tup (prD ps),.non,.non]
 | .read n ps (some (t,a))=>.tup [.str "read", .int n,.tup (prD ps),.int t,.int a]
 | .told n k=>.tup [.str "told", .int n,oN k]
 | .raised n t=>.tup [.str "raised", .int n,.int t]
section
variable (s f q:Nat) (d a g p n w e x:DV)
theorem Qa9:List.lookup ("shelf" : Str) (wkF s f q d a g p n w e)=some (.ref s):=by rfl
theorem zI:List.lookup ("deed" : Str) (wkF s f q d a g p n w e)=some d:=by rfl
theorem YL:List.lookup ("aim" : Str) (wkF s f q d a g p n w e)=some a:=by rfl
theorem ua:List.lookup ("goal" : Str) (wkF s f q d a g p n w e)=some g:=by rfl
theorem qm:List.lookup ("place" : Str) (wkF s f q d a g p n w e)=some p:=by rfl
theorem KC:List.lookup ("forks" : Str) (wkF s f q d a g p n w e)=some (.ref f):=by rfl
theorem GL:List.lookup ("new_page" : Str) (wkF s f q d a g p n w e)=some n:=by rfl
theorem Yi:List.lookup ("worth" : Str) (wkF s f q d a g p n w e)=some w:=by rfl
theorem KD:List.lookup ("pairs" : Str) (wkF s f q d a g p n w e)=some (.ref q):=by rfl
theorem zV:List.lookup ("ended" : Str) (wkF s f q d a g p n w e)=some e:=by rfl
theorem QeH:(wkF s f q d a g p n w e).length=10:=rfl
theorem Qc4:List.lookup ("go_on" : Str) (wkF s f q d a g p n w e)=none:=by rfl
theorem Qgz:List.lookup ("do_deed" : Str) (wkF s f q d a g p n w e)=none:=by rfl
theorem QgA:List.lookup ("tell_fork" : Str) (wkF s f q d a g p n w e)=none:=by rfl
theorem QgB:List.lookup ("raise_root_over" : Str) (wkF s f q d a g p n w e)=none:=by rfl
theorem Qc5:List.lookup ("settle" : Str) (wkF s f q d a g p n w e)=none:=by rfl
theorem QgC:List.lookup ("find_worth" : Str) (wkF s f q d a g p n w e)=none:=by rfl
theorem QgD:List.lookup ("put_pair" : Str) (wkF s f q d a g p n w e)=none:=by rfl
theorem QgE:List.lookup ("cut_key" : Str) (wkF s f q d a g p n w e)=none:=by rfl
theorem QgF:List.lookup ("read_pairs" : Str) (wkF s f q d a g p n w e)=none:=by rfl
theorem QeI:List.lookup ("step" : Str) (wkF s f q d a g p n w e)=none:=by rfl
theorem QeJ:List.lookup ("over" : Str) (wkF s f q d a g p n w e)=none:=by rfl
theorem kW:List.lookup ("answer" : Str) (wkF s f q d a g p n w e)=none:=by rfl
end
theorem Qdy (fs:List (Nat×Nat)) (k v:Nat):J2 (fkD fs) (.inl (k:Int)) (.int v)=fkD (TR.zB fs k v):=by
 unfold J2 TR.zB
 have e:((fkD fs).any fun kv=>decide (kv.1=(.inl (k:Int):Key)))=fs.any fun p=>decide (p.1=k):=by
  unfold fkD
  rw [List.any_map]
  congr 1
  funext p
  simp only [Function.comp]
  congr 1
  simp
  omega
 rw [e]
 by_cases h:(fs.any fun p=>decide (p.1=k))=true
 ·rw [if_pos h,if_pos h]
  unfold fkD
  rw [List.map_map,List.map_map]
  apply List.map_congr_left
  intro p _
  simp only [Function.comp]
  by_cases q:p.1=k
  ·simp [q]
  ·have:¬ ((p.1:Int)=(k:Int)):=by omega
   simp [q,this]
 ·rw [if_neg h,if_neg h]
  simp [fkD]
theorem Qdz (fs:List (Nat×Nat)) (k:Nat):Zq (fkD fs) (.inl (k:Int))=(TR.JU fs k).map fun v=>.int v:=by
  induction fs with
  | nil=>rfl
  | cons p r ih =>
    rw [show fkD (p::r)=(.inl (p.1:Int),.int p.2)::fkD r from rfl,Xx,ih]
    unfold TR.JU
    rw [List.find?_cons]
    by_cases q:p.1=k
    . simp [q]
    . have:¬ ((p.1:Int)=(k:Int)):=by omega
      simp [q,this]
theorem Qdx (fs:List (Nat×Nat)):(fkD fs).length=fs.length:=List.length_map _
end D
namespace D
open PySem PySem.Spec PyProof.Rows L2
section
variable {c f m:Str} {o e:DEx} {fa:DAx} {env:En} {hp hp1 hp2:Hs} {a n:Nat} {fs:List (Str×DV)} {d v:DV} {ds:List DV} {F:List DV->M DV}
theorem xh {α:Type} {k:Nat->List (Str×DV)->M α} (h:hp[a]?=some (.ins c fs)):onI c (.ref a) k hp=k a fs hp:=by
 show (ZG a >>= _) hp=_
 rw [Qg (Zn h)]
 show (Qv (decide (c=c)) >>= fun _=>k a fs) hp=_
 rw [decide_eq_true rfl];rfl
theorem Jb (he:e env hp=some (v,hp1)) (ho:o env hp1=some (.ref a,hp1)) (h:hp1[a]?=some (.ins c fs)) (hl:fs.length < 1000):Q8 c f o e env hp=some ((.nx,env),hp1.set a (.ins c (JI f v fs))):=by
 unfold Q8
 rw [Qg he,Qg ho]
 unfold jC
 have:onI c (.ref a) (fun n fs=>do Qv (decide (fs.length < 1000));xA n (.ins c (JI f v fs))) hp1=some ((),hp1.set a (.ins c (JI f v fs))):=by
  rw [xh h,decide_eq_true hl];rfl
 rw [Qg this];rfl
theorem QA (ho:o env hp=some (.ref a,hp1)) (h:hp1[a]?=some (.ins c fs)) (hf:fs.lookup f=some d):Qw c f o env hp=some (d,hp1):=by
 unfold Qw
 rw [Qg ho]
 unfold js
 rw [xh h,hf];rfl
theorem Q6 (ho:o env hp=some (.ref a,hp)) (h:hp[a]?=some (.ins c fs)) (hm:fs.lookup m=none) (ha:fa env hp=some (ds,hp1)) (hn:ds.length+1=n) (hF:F (.ref a::ds) hp1=some (d,hp2)):QD c m n F o fa env hp=some (d,hp2):=by
 unfold QD
 rw [Qg ho]
 have:onI c (.ref a) (fun _ fs=>Qv (fs.lookup m).isNone) hp=some ((),hp):=by rw [xh h,hm];rfl
 rw [Qg this,Qg ha,decide_eq_true hn]
 show (Qv true >>= fun _=>F (.ref a::ds)) hp1=_
 exact hF
theorem za:Qn env hp=some ([],hp):=rfl
theorem ZI (h:e env hp=some (v,hp1)):Qc e Qn env hp=some ([v],hp1):=by unfold Qc;rw [Qg h];rfl
theorem ZH {e':DEx} {v':DV} (h:e env hp=some (v,hp1)) (h':e' env hp1=some (v',hp2)):Qc e (Qc e' Qn) env hp=some ([v,v'],hp2):=by
 have:=ZI h'
 unfold Qc at this ⊢;rw [Qg h,Qg this];rfl
theorem XX {e' e'':DEx} {v' v'':DV} {hp3:Hs} (h:e env hp=some (v,hp1)) (h':e' env hp1=some (v',hp2)) (h'':e'' env hp2=some (v'',hp3)):Qc e (Qc e' (Qc e'' Qn)) env hp=some ([v,v',v''],hp3):=by
 have:=ZH h' h''
 unfold Qc at this ⊢;rw [Qg h,Qg this];rfl
theorem Qe {i:Nat} (h:env[i]?=some (.val d)):Qb i env hp=some (d,hp):=by unfold Qb;rw [h];rfl
theorem ZJ {k:Nat} (ha:fa env hp=some (ds,hp1)) (hk:ds.length=k) (hF:F ds hp1=some (d,hp2)):QH k F fa env hp=some (d,hp2):=by
 unfold QH;rw [Qg ha,decide_eq_true hk];exact hF
theorem Zl {c:DTx} {f g:DSx} (h:c env hp=some (true,hp1)):sIf c f g env hp=f env hp1:=by rw [QcG h];rfl
theorem QF {c:DTx} {f g:DSx} (h:c env hp=some (false,hp1)):sIf c f g env hp=g env hp1:=by rw [QcG h];rfl
theorem nil_at:Zf env hp=some ((.nx,env),hp):=rfl
theorem Gg {i:Nat} (h:hp[a]?=some (.lst ds)) (hd:ds[i]?=some d):ixG (.ref a) (.int i) hp=some (d,hp):=by
 show (ZG a >>= _) hp=_
 rw [Qg (Zn h)]
 show (asI (.int (i:Int)) >>= fun i=>zx (atI ds i)) hp=_
 simp only [asI,pure_bind,qv hd];rfl
end
theorem Qdr {o:DEx} {fa:DAx} {env:En} {hp:Hs} {a:Nat} {fs:List (Nat×Nat)} {j:Nat} (ho:o env hp=some (.ref a,hp)) (h:hp[a]?=some (.dic (fkD fs))) (ha:fa env hp=some ([.int (j:Int)],hp)):Jf "dict" XJ o fa env hp=some (oN (TR.JU fs j),hp):=by
 unfold Jf
 rw [Qg ho]
 have e2:XI "dict" (.ref a) hp=some ((),hp):=by
  show (ZG a >>= _) hp=_
  rw [Qg (Zn h)];rfl
 rw [Qg e2,Qg ha]
 show (ZG a >>= _) hp=_
 rw [Qg (Zn h)]
 show some (((Zq (fkD fs) (.inl (j:Int))).getD .non),hp)=_
 rw [Qdz]
 cases TR.JU fs j<;>rfl
theorem wl {s f q:Nat} {d a g p n w e:DV}:(wkF s f q d a g p n w e).length < 1000:=by rw [QeH];decide
theorem ZZ {xs:List DV} {i:Nat} {d:DV} (h:xs[i]?=some d) (hp:Hs):ixG (.tup xs) (.int i) hp=some (d,hp):=by
 show ixD (.tup xs) (.int i) hp=_
 simp only [ixD,qv h];rfl
theorem Qcs (p:TR.Pg) (hp:Hs):ixG (pgD p) (.int 0) hp=some (.int p.lv,hp):=ZZ (i:=0) rfl hp
theorem Qf5 (p:TR.Pg) (hp:Hs):ixG (pgD p) (.int 1) hp=some (.tup (p.ks.map .int),hp):=ZZ (i:=1) rfl hp
theorem Qf6 (p:TR.Pg) (hp:Hs):ixG (pgD p) (.int 2) hp=some (.tup (p.ps.map .int),hp):=ZZ (i:=2) rfl hp
theorem Qf4 (p:TR.Pg) (hp:Hs):ixG (pgD p) (.int 3) hp=some (opt p.hi,hp):=ZZ (i:=3) rfl hp
theorem Qct (p:TR.Pg) (hp:Hs):ixG (pgD p) (.int 4) hp=some (oN p.sd,hp):=ZZ (i:=4) rfl hp
theorem Qbr (d:TR.Deed) (hp:Hs):ixG (QU d) (.int 1) hp=some (.int d.key,hp):=by cases d<;>exact ZZ (i:=1) rfl hp
end D
namespace D
open PySem PySem.Spec PyProof.Rows L2
section
variable {e e' e'' e3 e4:DEx} {fa:DAx} {env:En} {hp hp1 hp2 hp3 hp4 hp5:Hs} {v v' v'' v3 v4 d:DV} {ds:List DV}
theorem ZY (ha:fa env hp=some (ds,hp1)) (hs:ds.length<=100000):Zg fa env hp=some (.tup ds,hp1):=by
 unfold Zg
 rw [Qg ha]
 have:qX ds=true:=decide_eq_true hs
 rw [this];rfl
theorem gB (h:e env hp=some (v,hp1)) (h':e' env hp1=some (v',hp2)) (h'':e'' env hp2=some (v'',hp3)) (h3:e3 env hp3=some (v3,hp4)):Qc e (Qc e' (Qc e'' (Qc e3 Qn))) env hp=some ([v,v',v'',v3],hp4):=by
 have:=XX h' h'' h3
 unfold Qc at this ⊢;rw [Qg h,Qg this];rfl
theorem QeO (h:e env hp=some (v,hp1)) (h':e' env hp1=some (v',hp2)) (h'':e'' env hp2=some (v'',hp3)) (h3:e3 env hp3=some (v3,hp4)) (h4:e4 env hp4=some (v4,hp5)):Qc e (Qc e' (Qc e'' (Qc e3 (Qc e4 Qn)))) env hp=some ([v,v',v'',v3,v4],hp5):=by
 have:=gB h' h'' h3 h4
 unfold Qc at this ⊢;rw [Qg h,Qg this];rfl
end
theorem Qap {t:DV->M Bool} {f:DV->M DV} {p:DV->Bool} {hp:Hs} (ds:List DV) (ht:∀ d∈ds,t d hp=some (p d,hp)) (hf:∀ d∈ds,f d hp=some (d,hp)) (hl:ds.length < 100000):Z9 (nxD ds) t f 100000 0 hp=some (ds.filter p,hp):=by
  suffices h:∀ (m i n:Nat),m+i=ds.length->m < n->Z9 (nxD ds) t f n i hp=some ((ds.drop i).filter p,hp) by simpa using h ds.length 0 100000 rfl hl
  intro m
  induction m with
  | zero =>
    intro i n e hn'
    obtain ⟨n,rfl⟩:∃ k,n=k+1:=⟨n - 1,by omega⟩
    have:i=ds.length:=by omega
    subst this
    have e1:=jx ds ds.length (Nat.le_refl _) hp
    rw [show ds[ds.length]?=none by simp] at e1
    rw [Z9,Qg e1,List.drop_length]
    rfl
  | succ m ih =>
    intro i n e hn'
    obtain ⟨n,rfl⟩:∃ k,n=k+1:=⟨n - 1,by omega⟩
    have hlt:i < ds.length:=by omega
    have e1:=jx ds i (by omega) hp
    rw [List.getElem?_eq_getElem hlt] at e1
    have hi:=ih (i+1) n (by omega) (by omega)
    rw [Z9,Qg e1]
    simp only
    rw [Qg (ht ds[i] (List.getElem_mem hlt)),List.drop_eq_getElem_cons hlt]
    cases q:p ds[i] with
    | false=>rw [List.filter_cons_of_neg (by simp [q])];simpa using hi
    | true =>
      rw [List.filter_cons_of_pos q]
      simp only [if_true]
      rw [Qg (hf ds[i] (List.getElem_mem hlt)),Qg hi]
      rfl
theorem kZ:∀ (ks ps:List Int),Xp (ks.map .int) (ps.map .int)=prD (ks.zip ps)
  | [],_=>by cases ‹List Int› <;> rfl
  | _::_,[]=>rfl
  | k::ks,p::ps=>by
    show .tup [.int k,.int p]::Xp (ks.map .int) (ps.map .int)=_
    rw [kZ ks ps];rfl
def Qec (l h:Int):DV->Bool
 | .tup [.int x,_]=>decide (l<=x)&&decide (x < h)
 | _=>false
theorem uV (l h:Int) (zs:List (Int×Int)):(prD zs).filter (Qec l h)=prD (zs.filter fun q=>decide (l<=q.1)&&decide (q.1 < h)):=by
 unfold prD
 rw [List.filter_map];rfl
theorem Qaw {o:DEx} {fa:DAx} {env:En} {hp:Hs} {a b:Nat} {ds es:List DV} (ho:o env hp=some (.ref a,hp)) (h:hp[a]?=some (.lst ds)) (ha:fa env hp=some ([.ref b],hp)) (hb:hp[b]?=some (.lst es)) (hl:ds.length+es.length<=100000):Jf "list" xc o fa env hp=some (.non,hp.set a (.lst (ds++es))):=by
 unfold Jf
 rw [Qg ho]
 have e2:XI "list" (.ref a) hp=some ((),hp):=by
  show (ZG a >>= _) hp=_
  rw [Qg (Zn h)];rfl
 rw [Qg e2,Qg ha]
 show (ZG a >>= _) hp=_
 rw [Qg (Zn h)]
 show (ZG b >>= _) hp=_
 rw [Qg (Zn hb)]
 show (Qv (decide (ds.length+es.length<=lim)) >>= fun _=>xA a (.lst (ds++es)) >>= fun _=>pure DV.non) hp=_
 rw [show decide (ds.length+es.length<=lim)=true from decide_eq_true hl];rfl
theorem qJ (zs:List (Int×Int)):(prD zs).length=zs.length:=List.length_map _
theorem Qeb (zs ys:List (Int×Int)):prD zs++prD ys=prD (zs++ys):=by simp [prD]
theorem yg (o:Option Int):isD (opt o) .non=pure (.bl o.isNone):=by cases o<;>rfl
theorem uR (o:Option Int):vm (opt o) .non=pure (.bl o.isSome):=by cases o<;>rfl
theorem VG (o:Option Nat):isD (oN o) .non=pure (.bl o.isNone):=by cases o<;>rfl
theorem kC {x:Str} (h:PyData.strOk x=true):okP (.str x)=true:=by simp [okP,Kh,toP,SeqAt.shaped,PyData.canLay0,PyData.depth,h]
theorem eqS {x y:Str} (hp:Hs) (h1:PyData.strOk x=true) (h2:PyData.strOk y=true) {b:Bool} (h:(x==y)=b):eqG (.str x) (.str y) hp=some (.bl b,hp):=by
 unfold eqG
 have e:Uy (.str x) (.str y) hp=some (x==y,hp):=by
  rw [gQ (gM 39 hp x) (gM 39 hp y) (kC h1) (kC h2)];rfl
 rw [Qg e,h];rfl
section
variable {c c':DTx} {e e':DEx} {env:En} {hp hp1:Hs} {b:Bool}
theorem QeU (h:c env hp=some (true,hp1)):eOr c c' env hp=some (true,hp1):=by unfold eOr;rw [Qg h];rfl
theorem Vu (h:c env hp=some (false,hp1)):eOr c c' env hp=c' env hp1:=by unfold eOr;rw [Qg h];rfl
theorem Qfo (h:c env hp=some (true,hp1)):qA c c' env hp=c' env hp1:=by unfold qA;rw [Qg h];rfl
theorem Qfn (h:c env hp=some (false,hp1)):qA c c' env hp=some (false,hp1):=by unfold qA;rw [Qg h];rfl
theorem QgY (h:c env hp=some (true,hp1)):eIf c e e' env hp=e env hp1:=by unfold eIf;rw [Qg h];rfl
theorem QgX (h:c env hp=some (false,hp1)):eIf c e e' env hp=e' env hp1:=by unfold eIf;rw [Qg h];rfl
end
theorem VD {S:TR.Sh} {w:TR.Wk} {i:Nat} {p:TR.Pg} {k:Int} (h:w.deed=.find k):TR.Z7 S w i p=(.found i (TR.QY p w.aim),S,{ w with worth:=TR.QY p w.aim,ended:=true }):=by
 cases w;simp only at h;subst h;rfl
theorem Kf {S:TR.Sh} {w:TR.Wk} {i:Nat} {p:TR.Pg} {k x:Int} (h:w.deed=.put k x):TR.Z7 S w i p=(.put i (TR.QY p w.aim) (TR.Qx S { w with worth:=TR.QY p w.aim } i (TR.QX p w.aim x)).1,(TR.Qx S { w with worth:=TR.QY p w.aim } i (TR.QX p w.aim x)).2.1,(TR.Qx S { w with worth:=TR.QY p w.aim } i (TR.QX p w.aim x)).2.2):=by
 cases w;simp only at h;subst h;rfl
theorem Ke {S:TR.Sh} {w:TR.Wk} {i:Nat} {p:TR.Pg} {k:Int} (h:w.deed=.cut k):TR.Z7 S w i p=(.cut i (TR.QY p w.aim),if (TR.QY p w.aim).isSome=true then { S with pg:=S.pg.set i (TR.without p w.aim),wr:=S.wr+1 } else S,{ w with worth:=TR.QY p w.aim,ended:=true }):=by
 cases w;simp only at h;subst h;rfl
theorem QaF {S:TR.Sh} {w:TR.Wk} {i:Nat} {p:TR.Pg} {l h:Int} (e:w.deed=.stretch l h) (h1:p.hi=none):TR.Z7 S w i p=(.read i (TR.QW p l h) none,S,{ w with pairs:=w.pairs++TR.QW p l h,ended:=true }):=by
 cases w;cases p;simp only at e h1;subst e h1;rfl
theorem Qb1 {S:TR.Sh} {w:TR.Wk} {i:Nat} {p:TR.Pg} {l h x:Int} {s:Nat} (e:w.deed=.stretch l h) (h1:p.hi=some x) (h2:p.sd=some s):TR.Z7 S w i p=if h<=x then (.read i (TR.QW p l h) none,S,{ w with pairs:=w.pairs++TR.QW p l h,ended:=true }) else (.read i (TR.QW p l h) (some (s,x)),S,{ w with pairs:=w.pairs++TR.QW p l h,aim:=x,place:=some s }):=by
 cases w;cases p;simp only at e h1 h2;subst e h1 h2;rfl
theorem Qgp {e o j:DEx} {env:En} {hp:Hs} {a l v:Nat} {fs:List (Nat×Nat)} (he:e env hp=some (.int (v:Int),hp)) (ho:o env hp=some (.ref a,hp)) (hj:j env hp=some (.int (l:Int),hp)) (h:hp[a]?=some (.dic (fkD fs))) (hf:fs.length < 5000):XM e (gSb o j) env hp=some ((.nx,env),hp.set a (.dic (fkD (TR.zB fs l v)))):=by
 refine Gz he ?_
 unfold gSb
 rw [Qg ho,Qg hj]
 have:=vH (d:=.int (v:Int)) h (show zh (.int (l:Int))=some (.inl (l:Int)) from rfl) (by rw [Qdx];omega)
 rw [Qdy] at this
 rw [Qg this];rfl
end D
namespace D
open PySem PySem.Spec PyProof.Rows L2
section
variable {f g:DEx} {fa:DAx} {env:En} {hp hp1 hp2:Hs} {d x y:DV} {ds:List DV} {F:List DV->M DV}
theorem XS (h:fa env hp=some (ds,hp1)) (hF:F ds hp1=some (d,hp2)):ZB F fa env hp=some (d,hp2):=by unfold ZB;rw [Qg h];exact hF
theorem vt (ds:List DV) (hp:Hs):JD [.lst ds] hp=some (.int ds.length,hp):=rfl
theorem Qb2 {n:Nat} (h:hp[n]?=some (.lst ds)):JD [.ref n] hp=some (.int ds.length,hp):=by
 show (ZG n >>= _) hp=_
 rw [Qg (Zn h)];rfl
theorem neI (i j:Int) (hp:Hs):neG (.int i) (.int j) hp=some (.bl (!(i==j)),hp):=by
 unfold neG;rw [Qg (vd i j hp)];rfl
theorem Qhb (i:Int) (hp:Hs):neG (.int i) (.int i) hp=some (.bl false,hp):=by rw [neI];simp
theorem eqI (i j:Int) (hp:Hs):eqG (.int i) (.int j) hp=some (.bl (i==j),hp):=by
 unfold eqG;rw [Qg (vd i j hp)];rfl
end
theorem GM {f:DIx} {env:En} {hp hp1:Hs} {ds:List DV} (h:f env hp=some (ds,hp1)):xOf f env hp=some (nxD ds,hp1):=by unfold xOf;rw [Qg h];rfl
end D
namespace D
open PySem PySem.Spec PyProof.Rows L2
section
variable {c:DTx} {b:DSx} {n:Nat} {env env1:En} {hp hp1 hp2:Hs}
theorem QeF (h:c env hp=some (true,hp1)) (hb:b env hp1=some ((.nx,env1),hp2)):XW c b (n+1) env hp=XW c b n env1 hp2:=by
 rw [XW,Qg h]
 simp only [if_true]
 rw [Qg hb]
theorem QeE (h:c env hp=some (false,hp1)):XW c b (n+1) env hp=some ((.nx,env),hp1):=by
 rw [XW,Qg h];rfl
end
theorem Yg {o e:DEx} {env:En} {hp:Hs} {a:Nat} {ds:List DV} {d:DV} (ho:o env hp=some (.ref a,hp)) (h:hp[a]?=some (.lst ds)) (he:e env hp=some (d,hp)) (hl:ds.length < 100000):Jf "list" Zh o (Qc e Qn) env hp=some (.non,hp.set a (.lst (ds++[d]))):=by
 unfold Jf
 rw [Qg ho]
 have e2:XI "list" (.ref a) hp=some ((),hp):=by
  show (ZG a >>= _) hp=_
  rw [Qg (Zn h)];rfl
 rw [Qg e2,Qg (ZI he)]
 show (ZG a >>= _) hp=_
 rw [Qg (Zn h)]
 show (Qv (decide (ds.length < lim)) >>= fun _=>xA a (.lst (ds++[d])) >>= fun _=>pure DV.non) hp=_
 rw [show decide (ds.length < lim)=true from decide_eq_true hl];rfl
end D
namespace D
open PySem PySem.Spec PyProof.Rows L2
theorem Gy {n:Nat} {body:DSx} {ds:List DV} {env:En} {hp hp1:Hs} (h:body (ds.map .val++List.replicate (n - ds.length) .un) hp=some ((.nx,env),hp1)):Q5 n body ds hp=some (.non,hp1):=by
 unfold Q5
 rw [Qg h];rfl
theorem vG (f:Str) (d:DV):∀ fs:List (Str×DV),(JI f d fs).length<=fs.length+1
  | []=>Nat.le_refl _
  | (g,x)::r=>by
    unfold JI
    split
    . simp
    . simpa using vG f d r
theorem J3 {f:Str} {d:DV} {fs:List (Str×DV)} {m:Nat} (h:fs.length<=m):(JI f d fs).length<=m+1:=Nat.le_trans (vG f d fs) (Nat.succ_le_succ h)
end D
namespace D
open PySem PySem.Spec PyProof.Rows L2
section
variable {X:Cx} {e:Expr} {f:DEx} {pos:Pos}
def XG (T:String) (f:DEx):DEx:=fun env=>do
  let x <- f env
  match x with
  | .ref n=>do
    match <- ZG n with
    | .lst _=>pure (.bl (VA "list" T))
    | _=>failure
  | x=>match Uf x with
    | some t=>pure (.bl (VA t T))
    | none=>failure
theorem Qfc {T:String} (hT:T∈["int", "bool", "tuple", "str", "list"]):CallR X (.builtin "isinstance") (fun xs H Q=>(∃ ρ B d x t,xs=[x,.ty T]/\RepV X.K ρ B H d x/\Uf d=some t/\Q (.bl (VA t T)) H)∨∃ a ys,xs=[.ref a,.ty T]/\SqL X.K H a ys/\Q (.bl (VA "list" T)) H):=by
 intro pins s σ H xs us Q I r h
 rcases h with h | ⟨a,ys,rfl,sq,q⟩
 ·exact QeQ hT pins s σ H xs us Q I r h
 ·obtain ⟨u,w',rfl,ru,rw'⟩:=v8 r
  cases rw'
  have fin:∀ tk,EP X pins σ Q (.bool (VA "list" T)) { s with toks:=tk }:=fun tk=>⟨.bl _,H,I.tok _,rfl,q⟩
  have kit:PySem.W.kitOne X.K (.type "list") (.type T)=some (VA "list" T):=by
   simp only [List.mem_cons,List.not_mem_nil,or_false] at hT
   rcases hT with rfl | rfl | rfl | rfl | rfl<;>first | rfl | decide | with_unfolding_all rfl | kernel_rfl
  cases ru
  obtain ⟨its,_,⟨o,k,e1,e2,_⟩,_⟩:=I.list sq
  exact PySem.W.kia_one PySem.W.kitx_list I.kIn ⟨o,e1,e2⟩ kit (fun z=>nomatch z) fin
theorem X5 {T:String} {p p':Pos} (hm:X.mg "isinstance" = none) (hm':X.mg (Str.ofString T)=none) (hv:bootBuiltins (Str.ofString T)=some (.type T)) (hT:T∈["int", "bool", "tuple", "str", "list"]) (h:DE X e f) (hg:Gl X "isinstance" := by rfl) (hg':Gl X (Str.ofString T):=by rfl)
    (hn:Str.ofString T ≠ "__name__" := by decide) (hdb:(Str.ofString T==("__debug__" : Str))=false:=by decide) (hs:starEach [e,.Name (Str.ofString T) p'] X.env=(false,eval e X.env)::starEach [.Name (Str.ofString T) p'] X.env:=by rfl)
    (hs2:starEach [.Name (Str.ofString T) p'] X.env=(false,eval (.Name (Str.ofString T) p') X.env)::starEach [] X.env:=by rfl) (hpl:(backTo pos (starEach [.Name (Str.ofString T) p'] X.env)).any (·.1)=false:=by rfl):DE X (.Call (.Name "isinstance" p) [e,.Name (Str.ofString T) p'] [] pos) (XG T f) :=
  L2.PE.imp (VM (Qfc hT) hg hm boot_isinstance (X9 h (X9 (kF (v:=.ty T) hg' hm' hv rfl hn hdb) pa_nil hs2) hs) (by decide) (by decide) hs hpl) fun σ H Q ⟨Z,env,ρ,B,hp,d,hp',S,e,k⟩=>by
    obtain ⟨x,hp1,e1,e2⟩:=Qf e
    refine tD.run S e1 fun v ρ1 B1 H1 g1 S1 r1=>?_
    cases x with
    | ref n =>
      obtain ⟨o,hp2,e3,e4⟩:=Qf e2
      obtain ⟨e5,rfl⟩:=ZC e3
      cases o with
      | lst zs =>
        obtain ⟨rfl,rfl⟩:=Qi e4
        obtain ⟨a,rfl,_,ys,h1,l1⟩:=RepV.refW S1.wo r1 e5
        exact .inr ⟨a,ys,rfl,SqL.of h1,k _ ρ1 B1 H1 g1 S1.wo Jg⟩
      | dic _=>cases e4
      | ins _ _=>cases e4
    | non=>obtain ⟨rfl,rfl⟩:=Qi e2;exact .inl ⟨ρ1,B1,_,v,_,rfl,r1,rfl,k _ ρ1 B1 H1 g1 S1.wo Jg⟩
    | bl _=>obtain ⟨rfl,rfl⟩:=Qi e2;exact .inl ⟨ρ1,B1,_,v,_,rfl,r1,rfl,k _ ρ1 B1 H1 g1 S1.wo Jg⟩
    | int _=>obtain ⟨rfl,rfl⟩:=Qi e2;exact .inl ⟨ρ1,B1,_,v,_,rfl,r1,rfl,k _ ρ1 B1 H1 g1 S1.wo Jg⟩
    | str _=>obtain ⟨rfl,rfl⟩:=Qi e2;exact .inl ⟨ρ1,B1,_,v,_,rfl,r1,rfl,k _ ρ1 B1 H1 g1 S1.wo Jg⟩
    | tup _=>obtain ⟨rfl,rfl⟩:=Qi e2;exact .inl ⟨ρ1,B1,_,v,_,rfl,r1,rfl,k _ ρ1 B1 H1 g1 S1.wo Jg⟩
    | lst _=>obtain ⟨rfl,rfl⟩:=Qi e2;exact .inl ⟨ρ1,B1,_,v,_,rfl,r1,rfl,k _ ρ1 B1 H1 g1 S1.wo Jg⟩
end
end D
namespace D
open PySem PySem.Spec PyProof.Rows L2
def Pl:Nat->DV->Prop
 | _,.non=>True
 | _,.bl _=>True
 | _,.int _=>True
 | _,.str x=>PyData.strOk x=true
 | n+1,.tup ds=>∀ d∈ds,Pl n d
 | n+1,.lst ds=>∀ d∈ds,Pl n d
 | _,_=>False
theorem uy:∀ (n:Nat) (d:DV) (k:Nat) (hp:Hs),Pl n d->drf (n+k+1) hp d=some d
  | n,.non,k,hp,_=>rfl
  | n,.bl _,k,hp,_=>rfl
  | n,.int _,k,hp,_=>rfl
  | n,.str _,k,hp,_=>rfl
  | 0,.tup ds,k,hp,h=>h.elim
  | 0,.lst ds,k,hp,h=>h.elim
  | 0,.ref _,k,hp,h=>h.elim
  | n+1,.ref _,k,hp,h=>h.elim
  | n+1,.tup ds,k,hp,h=>by
    show (ds.mapM (drf (n+1+k) hp)).map DV.tup=_
    rw [yc fun d hd=>(by rw [Nat.add_right_comm];exact uy n d k hp (h d hd))];rfl
  | n+1,.lst ds,k,hp,h=>by
    show (ds.mapM (drf (n+1+k) hp)).map DV.lst=_
    rw [yc fun d hd=>(by rw [Nat.add_right_comm];exact uy n d k hp (h d hd))];rfl
theorem Gm:∀ (ds:List DV),(∀ d∈ds,(toP d).canLay0=true)->PyData.canLayAll0 (toPs ds)=true
 | [],_=>by unfold toPs PyData.canLayAll0;rfl
 | d::ds,h=>by unfold toPs PyData.canLayAll0;rw [h d (by simp),Gm ds fun x hx=>h x (List.mem_cons_of_mem _ hx)];rfl
theorem Gn:∀ (n:Nat) (d:DV),Pl n d->(toP d).canLay0=true
 | n,.non,_=>by unfold toP PyData.canLay0;rfl
 | n,.bl _,_=>by unfold toP PyData.canLay0;rfl
 | n,.int _,_=>by unfold toP PyData.canLay0;rfl
 | n,.str x,h=>by cases n<;>(unfold toP PyData.canLay0;exact h)
 | 0,.tup ds,h=>h.elim
 | 0,.lst ds,h=>h.elim
 | 0,.ref _,h=>h.elim
 | n+1,.ref _,h=>h.elim
 | n+1,.tup ds,h=>by unfold toP PyData.canLay0;exact Gm ds fun d hd=>Gn n d (h d hd)
 | n+1,.lst ds,h=>by unfold toP PyData.canLay0;exact Gm ds fun d hd=>Gn n d (h d hd)
theorem xT (n:Nat):∀ (ds:List DV),(∀ d∈ds,(toP d).depth<=n)->PyData.depthAll (toPs ds)<=n
 | [],_=>by unfold toPs PyData.depthAll;exact Nat.zero_le _
 | d::ds,h=>by unfold toPs PyData.depthAll;exact Nat.max_le.mpr ⟨h d (by simp),xT n ds fun x hx=>h x (List.mem_cons_of_mem _ hx)⟩
theorem Vn:∀ (n:Nat) (d:DV),Pl n d->(toP d).depth<=n
 | n,.non,_=>by unfold toP PyData.depth;exact Nat.zero_le _
 | n,.bl _,_=>by unfold toP PyData.depth;exact Nat.zero_le _
 | n,.int _,_=>by unfold toP PyData.depth;exact Nat.zero_le _
 | n,.str x,h=>by unfold toP PyData.depth;exact Nat.zero_le _
 | 0,.tup ds,h=>h.elim
 | 0,.lst ds,h=>h.elim
 | 0,.ref _,h=>h.elim
 | n+1,.ref _,h=>h.elim
 | n+1,.tup ds,h=>by unfold toP PyData.depth;exact Nat.succ_le_succ (xT n ds fun d hd=>Vn n d (h d hd))
 | n+1,.lst ds,h=>by unfold toP PyData.depth;exact Nat.succ_le_succ (xT n ds fun d hd=>Vn n d (h d hd))
theorem Kw {n:Nat} {d:DV} (h:Pl n d) (hn:n<=64):SeqAt.shaped (toP d)=true:=by
 unfold SeqAt.shaped;rw [Gn n d h,decide_eq_true (Nat.le_trans (Vn n d h) hn)];rfl
theorem G9 {n:Nat} {d:DV} (h:Pl n d) (hn:n < 40) (hp:Hs):drf 40 hp d=some d:=by
 have:=uy n d (39 - n) hp h
 rwa [show n+(39 - n)+1=40 by omega] at this
theorem Qgb (n:Nat) (i:Int):Pl n (.int i):=by cases n<;>trivial
theorem kH (n:Nat) (b:Bool):Pl n (.bl b):=by cases n<;>trivial
theorem Qav {x y:DV} {n m:Nat} (h:Pl n x) (h':Pl m y) (hn:n < 40) (hm:m < 40) (hp:Hs):Uy x y hp=some (PyData.eqv (toP x) (toP y),hp):=by
 unfold Uy Qat
 show ((Option.map _ (drf 40 hp x)).bind _)=_
 rw [G9 h hn]
 show ((Option.map _ (drf 40 hp y)).bind _)=_
 rw [G9 h' hm]
 show (Qv (SeqAt.shaped (toP x)&&SeqAt.shaped (toP y)) >>= fun _=>pure (PyData.eqv (toP x) (toP y)):M Bool) hp=_
 rw [Kw h (by omega),Kw h' (by omega)]
 rfl
theorem U6 {x:DV} {n:Nat} (h:Pl n x) (hn:n < 40) (hp:Hs):Uy x x hp=some (true,hp):=by
 rw [Qav h h hn hn,SeqAt.eqv_refl _ (Gn n x h)]
theorem QbB {x:DV} {n:Nat} (h:Pl n x) (hn:n < 40) (hp:Hs):eqG x x hp=some (.bl true,hp):=by
 unfold eqG;rw [Qg (U6 h hn hp)];rfl
theorem xf {x:DV} {n:Nat} (h:Pl n x) (hn:n < 40) (hp:Hs):neG x x hp=some (.bl false,hp):=by
 unfold neG;rw [Qg (U6 h hn hp)];rfl
theorem U0 {t:DV->M Bool} {f:DV->M DV} {g:DV->DV} {hp:Hs} (ds:List DV) (ht:∀ d∈ds,t d hp=some (true,hp)) (hf:∀ d∈ds,f d hp=some (g d,hp)) (hl:ds.length < 100000):Z9 (nxD ds) t f 100000 0 hp=some (ds.map g,hp):=by
  suffices h:∀ (m i n:Nat),m+i=ds.length->m < n->Z9 (nxD ds) t f n i hp=some ((ds.drop i).map g,hp) by simpa using h ds.length 0 100000 rfl hl
  intro m
  induction m with
  | zero =>
    intro i n e hn'
    obtain ⟨n,rfl⟩:∃ k,n=k+1:=⟨n - 1,by omega⟩
    have:i=ds.length:=by omega
    subst this
    have e1:=jx ds ds.length (Nat.le_refl _) hp
    rw [show ds[ds.length]?=none by simp] at e1
    rw [Z9,Qg e1,List.drop_length];rfl
  | succ m ih =>
    intro i n e hn'
    obtain ⟨n,rfl⟩:∃ k,n=k+1:=⟨n - 1,by omega⟩
    have hlt:i < ds.length:=by omega
    have e1:=jx ds i (by omega) hp
    rw [List.getElem?_eq_getElem hlt] at e1
    rw [Z9,Qg e1]
    simp only
    rw [Qg (ht ds[i] (List.getElem_mem hlt)),List.drop_eq_getElem_cons hlt]
    simp only [if_true]
    rw [Qg (hf ds[i] (List.getElem_mem hlt)),Qg (ih (i+1) n (by omega) (by omega))];rfl
theorem gD {α:Type} {m:M α} {x:α} (h:∀ hp,m hp=some (x,hp)):m=pure x:=funext h
section
variable {env:En} {hp hp1 hp2 hp3 hp4 hp5 hp6 hp7:Hs} {e e' e'' e3 e4 e5 e6:DEx} {v v' v'' v3 v4 v5 v6:DV}
theorem QdE {f:DEx} {a:Nat} {ds:List DV} (h:f env hp=some (.ref a,hp1)) (h':hp1[a]?=some (.lst ds)):XG "list" f env hp=some (.bl true,hp1):=by
 unfold XG;rw [Qg h]
 show (ZG a >>= _) hp1=_
 rw [Qg (Zn h')];rfl
end
end D
namespace D
open PySem PySem.Spec PyProof.Rows L2
open AutoListH (joined_fits)
theorem QaG (l:Addr) (items:Array Value) (n:Nat) (sl:Array (Option Value)) (x:Int) (u:Tok) (hc0:¬(!Builtin.List.listFitsIndex x)=true) (hc1:¬items.size * x.toNat > (2 ^ 63 - 1) / 8) (hc2:¬Builtin.List.listTooLong (items.size * x.toNat)=true) :
  Meets (Builtin.«list.__mul__» ⟨[.ref l,.int x u],[]⟩) (fun _ R s=>s.heap.get? l=some { cls:=.type "list", dict:=none,data:=.seq items n,slots:=sl }/\R (.ok (.ret (Value.ref s.heap.objs.size))) { s with heap:=s.heap.push { cls:=Value.type "list", data:=Data.seq (List.foldl (fun x1 x2=>x1++x2) #[] (List.replicate (if items.isEmpty=true then 0 else x.toNat) items)) },toks:=s.toks }) :=
 .of_wp fun prog w A R s h=>by
  obtain ⟨hp,g,d,tk,os⟩:=s;obtain ⟨hl,h⟩:=h
  have hsz:=joined_fits hc2
  wp_walk;refine wpAny_ite_false (decide_eq_false (Nat.not_lt.mpr hsz)) ?_;wp_walk;exact ⟨_,rfl,h⟩
theorem Qaz (a:Int) (t:Tok) (l:Addr) (items:Array Value) (n:Nat) (sl:Array (Option Value)) :
  Meets (Builtin.«int.__rmul__» ⟨[.int a t,.ref l],[]⟩) (fun _ R s=>s.heap.get? l=some { cls:=.type "list", dict:=none,data:=.seq items n,slots:=sl }/\R (.ok (.ret Value.notImplemented)) s) :=
 .of_wp fun prog w A R s h=>by obtain ⟨hp,g,d,tk,os⟩:=s;obtain ⟨hl,h⟩:=h;wp_walk;exact ⟨_,rfl,h⟩
theorem vf (v:Value):∀ (n:Nat) (a:Array Value),(List.replicate n #[v]).foldl (fun x1 x2=>x1++x2) a=a++(List.replicate n v).toArray
  | 0,a=>by simp
  | n+1,a=>by
    rw [List.replicate_succ,List.foldl_cons,vf v n,List.replicate_succ]
    apply Array.ext'
    simp
section
variable {X:Cx} {tg e a b c:Expr} {f fa fb:DEx} {pos:Pos}
theorem Qeo:OpR X (binaryOp .Mult) (fun x y H Q=>∃ l z n,x=.ref l/\y=.int n/\SqL X.K H l [z]/\0<=n/\n.toNat<=100000/\∀ p,H p=none->Q (.ref p) (upd H p (.lst (List.replicate n.toNat z)))):=by
  intro pins s σ H x y v u Q I rx ry h
  obtain ⟨l,z,n,rfl,rfl,hl,h0,h1,q⟩:=h
  cases rx
  obtain ⟨t,rfl⟩:=ry
  obtain ⟨its,r1,⟨⟨k1,dd1,da1,sl1⟩,n1,e1,c1,d1,s1⟩,_⟩:=I.list hl
  simp only at c1 d1 s1
  subst c1 d1 s1
  cases r1 with
  | cons r rr =>
    cases rr
    rename_i w
    have hz:(([w]:List Value).toArray.size) * n.toNat=n.toNat:=by simp
    refine wpAny_binaryOp_repeat_ref (T := "list") (U := "int") (by decide) ⟨_,e1,rfl⟩ (fun s'=>typeIs_int s' n t) noFill_list_mul F.fills_int_mul F.slot_int_rmul repeat_list F.slot_int_index.lookup
      (call_meets F.slot_int_rmul (typeIs_int s n t) F.entry_int_rmul (F.args_int_rmul_2 _ _) (Qaz n t l _ n1 sl1)
        ⟨e1,rfl,⟨_,e1,rfl⟩,call_meets F.slot_list_mul ⟨_,e1,rfl⟩ F.entry_list_mul (F.args_list_mul_2 _ _)
          (QaG l _ n1 sl1 n t (by simp [Builtin.List.listFitsIndex];omega) (by rw [hz];omega) (by rw [hz];simp [Builtin.List.listTooLong,sizeLine];omega))
          ⟨e1,?_⟩⟩)
    have ef:List.foldl (fun x1 x2=>x1++x2) #[] (List.replicate (if ([w]:List Value).toArray.isEmpty=true then 0 else n.toNat) [w].toArray)=(List.replicate n.toNat w).toArray:=by
      rw [if_neg (by simp)]
      have:=vf w n.toNat #[]
      simpa using this
    rw [ef]
    have vr:Vals (List.replicate n.toNat z) (List.replicate n.toNat w):=by
      generalize n.toNat=m
      induction m with
      | zero=>exact .nil
      | succ m ih=>exact .cons r ih
    exact ⟨.ref _,_,I.lnew (t':=s.toks) vr (by rw [List.length_replicate];exact Nat.le_trans h1 (by decide)),rfl,q _ I.fresh⟩
theorem vI {K:PySem.W.Frag} {ρ:List Addr} {B:Addr->Prop} {H:Hp} {d:DV} {z:V} (r:RepV K ρ B H d z):∀ n:Nat,RepL K ρ B H (List.replicate n d) (List.replicate n z)
 | 0=>RepL.nil
 | n+1=>by unfold List.replicate RepL;exact ⟨z,_,rfl,r,vI r n⟩
end
end D
namespace D
open PySem PySem.Spec PyProof.Rows L2
section
variable {env:En} {hp hp1 hp2 hp3:Hs} {f g h:DEx} {ds:List DV} {d:DV}
theorem QfF (hf:f env hp=some (.lst ds,hp)):ZB JD (Qc f Qn) env hp=some (.int ds.length,hp):=XS (ZI hf) (vt ds hp)
theorem YC {n:Nat} (hf:f env hp=some (.ref n,hp)) (hn:hp[n]?=some (.lst ds)):ZB JD (Qc f Qn) env hp=some (.int ds.length,hp):=XS (ZI hf) (Qb2 hn)
end
end D
namespace TR
def Kd (S:Sh) (c:Nat):Prop:=∃ (m:Nat) (q:Pg),S.pg[m]?=some q/\0 < q.lv/\(c:Int)∈q.ps
def Tells (ws:List Wk) (c:Nat):Prop:=∃ (i:Nat) (w:Wk),ws[i]?=some w/\w.ended=false/\0 < w.goal/\w.newp=some c
def Tld (S:Sh) (ws:List Wk):Prop:=∀ n:Nat,n < S.pg.length->n≠S.top->Kd S n∨Tells ws n
section
variable {S S':Sh} {bg:Bg} {n:Nat} {p P:Pg} {w w':Wk} {r:Row} {ws:List Wk} {i:Nat}
theorem Kt {w:Wk} (hn:S.pg[n]?=some p) (hl:P.lv=p.lv) (hsub:0 < p.lv->∀ x∈p.ps,x∈P.ps) {c:Nat} (h:Kd S c∨(0 < P.lv/\(c:Int)∈P.ps)):Kd (Qx S w n P).2.1 c:=by
 have ln:=QJ hn
 have key:(∃ (m:Nat) (q:Pg),m≠n/\S.pg[m]?=some q/\0 < q.lv/\(c:Int)∈q.ps)∨(0 < P.lv/\(c:Int)∈P.ps):=by
  rcases h with ⟨m,q,h1,h2,h3⟩ | h
  ·by_cases e:m=n
   ·subst e;rw [hn] at h1;cases h1;exact .inr ⟨by omega,hsub h2 _ h3⟩
   ·exact .inl ⟨m,q,e,h1,h2,h3⟩
  ·exact .inr h
 unfold Qx
 by_cases hr:P.ks.length<=S.room
 ·rw [if_pos hr]
  rcases key with ⟨m,q,e,h1,h2,h3⟩ | ⟨h1,h2⟩
  ·exact ⟨m,q,by show (S.pg.set n P)[m]?=_;rw [List.getElem?_set_ne (fun x=>e x.symm)];exact h1,h2,h3⟩
  ·exact ⟨n,P,by show (S.pg.set n P)[n]?=_;rw [List.getElem?_set_self ln],h1,h2⟩
 ·rw [if_neg hr]
  rcases key with ⟨m,q,e,h1,h2,h3⟩ | ⟨h1,h2⟩
  ·exact ⟨m,q,by show ((S.pg++[QP P]).set n (Q7 P S.pg.length))[m]?=_;rw [List.getElem?_set_ne (fun x=>e x.symm)];exact X4 h1,h2,h3⟩
  ·rw [<- List.take_append_drop (Zr P) P.ps] at h2
   rcases List.mem_append.mp h2 with h | h
   ·exact ⟨n,Q7 P S.pg.length,by show ((S.pg++[QP P]).set n (Q7 P S.pg.length))[n]?=_;rw [List.getElem?_set_self (by simp;omega)],h1,h⟩
   ·exact ⟨S.pg.length,QP P,by show ((S.pg++[QP P]).set n (Q7 P S.pg.length))[S.pg.length]?=_;rw [List.getElem?_set_ne (by omega)];simp,h1,h⟩
theorem Tells.other {c:Nat} (h:Tells ws c) (hi:ws[i]?=some w) (hne:w.ended=false->0 < w.goal->w.newp≠some c):Tells (ws.set i w') c:=by
 obtain ⟨j,v,a,b,d,e⟩:=h
 have ne:j≠i:=fun z=>by subst z;rw [hi] at a;cases a;exact hne b d e
 exact ⟨j,v,by rw [List.getElem?_set_ne (fun x=>ne x.symm)];exact a,b,d,e⟩
theorem Tells.self {c:Nat} (hi:ws[i]?=some w) (h1:w'.ended=false) (h2:0 < w'.goal) (h3:w'.newp=some c):Tells (ws.set i w') c :=
 ⟨i,w',List.getElem?_set_self (QJ hi),h1,h2,h3⟩
theorem GF {w:Wk} (S:Sh) (n:Nat) (P:Pg) (h:S.room < P.ks.length) (hw:w.ended=false):(Qx S w n P).2.2.ended=false/\0 < (Qx S w n P).2.2.goal/\(Qx S w n P).2.2.newp=some S.pg.length:=by
 unfold Qx;rw [if_neg (by omega)];exact ⟨hw,Nat.succ_pos _,rfl⟩
theorem ge {w:Wk} (S:Sh) (n:Nat) (P:Pg) {c:Nat} (hc:c < (Qx S w n P).2.1.pg.length):c < S.pg.length∨(c=S.pg.length/\S.room < P.ks.length):=by
 unfold Qx at hc
 by_cases hr:P.ks.length<=S.room
 ·rw [if_pos hr] at hc;exact .inl (by simpa using hc)
 ·rw [if_neg hr] at hc
  have:c < S.pg.length+1:=by simpa using hc
  rcases Nat.lt_or_ge c S.pg.length with h | h
  ·exact .inl h
  ·exact .inr ⟨by omega,by omega⟩
theorem gh {w:Wk} (S:Sh) (n:Nat) (P:Pg):(Qx S w n P).2.1.top=S.top:=by
 unfold Qx;split<;>rfl
theorem Tld.step (D:Tld S ws) (T:Tree S bg) (W:WOk S bg w) (hi:ws[i]?=some w) (hw:w.ended=false) (hs:Jh S w=some (r,S',w')):Tld S' (ws.set i w'):=by
  obtain ⟨n,hn0,hpl⟩:∃ n,w.place.getD S.top=n/\(w.place=some n∨(w.place=none/\n=S.top)):=by
    cases e:w.place with
    | none=>exact ⟨S.top,rfl,.inr ⟨rfl,rfl⟩⟩
    | some m=>exact ⟨m,rfl,.inl rfl⟩
  obtain ⟨p,hn⟩:∃ p,S.pg[n]?=some p:=by
    rcases hpl with hp | ⟨_,rfl⟩
    . obtain ⟨p,a,_⟩:=W.at_ n hp;exact ⟨p,a⟩
    . obtain ⟨p,a,_⟩:=T.root;exact ⟨p,a⟩
  have still:∀ {x:Wk} {S2:Sh},S2.pg=S.pg->S2.top=S.top->(w.ended=false->0 < w.goal->x.ended=false/\x.goal=w.goal/\x.newp=w.newp)->Tld S2 (ws.set i x):=fun {x S2} e1 e2 e3 c hc ht=>by
    rw [e1] at hc;rw [e2] at ht
    rcases D c hc ht with ⟨m,q,h⟩ | ⟨j,v,a,b,d,e⟩
    . exact .inl ⟨m,q,by rw [e1];exact h⟩
    . by_cases z:j=i
      . subst z;rw [hi] at a;cases a
        obtain ⟨f1,f2,f3⟩:=e3 b d
        exact .inr (Tells.self hi f1 (by omega) (f3.trans e))
      . exact .inr ⟨j,v,by rw [List.getElem?_set_ne (fun x=>z x.symm)];exact a,b,d,e⟩
  unfold Jh at hs
  rw [if_neg (by rw [hw];simp),hn0] at hs
  simp only [hn] at hs
  by_cases hr:w.place=none/\p.lv < w.goal
  . rw [if_pos hr] at hs
    obtain ⟨k,q,a1,a2,a3,a4⟩:=W.tell (by omega)
    simp only [a1] at hs
    cases hs
    intro c hc ht
    have hc:c < S.pg.length+1:=by simpa using hc
    have ht:c≠S.pg.length:=ht
    have newf:(S.pg++[(⟨p.lv+1,[w.aim],[(S.top:Int),(k:Int)],none,none⟩:Pg)])[S.pg.length]?=some ⟨p.lv+1,[w.aim],[(S.top:Int),(k:Int)],none,none⟩:=by simp
    by_cases e:c=S.top
    . exact .inl ⟨S.pg.length,_,newf,Nat.succ_pos _,by simp [e]⟩
    by_cases e':c=k
    . exact .inl ⟨S.pg.length,_,newf,Nat.succ_pos _,by simp [e']⟩
    rcases D c (by omega) e with ⟨m,q,h1,h2,h3⟩ | h
    . exact .inl ⟨m,q,X4 h1,h2,h3⟩
    . exact .inr (h.other hi fun _ _ h=>by rw [a1] at h;exact e' (Option.some.inj h).symm)
  . rw [if_neg hr] at hs
    cases hb:JQ p w.aim with
    | true =>
      rw [hb,if_pos rfl] at hs
      cases hsd:p.sd with
      | none=>rw [hsd] at hs;cases hs
      | some s =>
        rw [hsd] at hs;cases hs
        exact still rfl rfl fun a _=>⟨a,rfl,rfl⟩
    | false =>
      rw [hb,if_neg (by simp)] at hs
      by_cases hd:w.goal < p.lv
      . rw [if_pos hd] at hs
        cases hq:p.ps[cLe p.ks w.aim]? with
        | none=>rw [hq] at hs;cases hs
        | some c =>
          rw [hq] at hs;cases hs
          exact still rfl rfl fun a _=>⟨a,rfl,rfl⟩
      . rw [if_neg hd] at hs
        have back:∀ (w0:Wk) (P:Pg),w0.ended=false->P.lv=p.lv->(0 < p.lv->∀ x∈p.ps,x∈P.ps)->(∀ c,0 < w.goal->w.newp=some c->0 < P.lv/\(c:Int)∈P.ps)->Tld (Qx { S with rd:=S.rd+1 } w0 n P).2.1 (ws.set i (Qx { S with rd:=S.rd+1 } w0 n P).2.2):=fun w0 P e0 hl hsub hnew c hc ht=>by
          rw [gh] at ht
          rcases ge _ n P hc with hc | ⟨hc,hroom⟩
          . rcases D c hc ht with h | h
            . exact .inl (Kt (S:={ S with rd:=S.rd+1 }) hn hl hsub (.inl h))
            . by_cases z:w.newp=some c/\0 < w.goal
              . exact .inl (Kt (S:={ S with rd:=S.rd+1 }) hn hl hsub (.inr (hnew c z.2 z.1)))
              . exact .inr (h.other hi fun _ a b=>z ⟨b,a⟩)
          . obtain ⟨f1,f2,f3⟩:=GF (w:=w0) { S with rd:=S.rd+1 } n P hroom e0
            exact .inr (Tells.self hi f1 f2 (by rw [f3];exact congrArg some hc.symm))
        by_cases h0:0 < w.goal
        . rw [if_pos h0] at hs
          obtain ⟨k,q,a1,a2,a3,a4⟩:=W.tell h0
          simp only [a1] at hs
          simp only [Option.some.injEq,Prod.mk.injEq] at hs
          obtain ⟨rfl,rfl,rfl⟩:=hs
          have hg:w.goal<=p.lv:=by
            rcases hpl with hp | ⟨hp,_⟩
            . obtain ⟨p',b1,b2,_⟩:=W.at_ n hp
              rw [hn] at b1;cases b1;exact b2
            . exact Nat.le_of_not_lt fun h=>hr ⟨hp,h⟩
          refine back w (Zv p w.aim k) hw rfl (fun _ x hx=>?_) fun c _ hc=>⟨by show 0 < p.lv;omega,?_⟩
          . show x∈p.ps.take (cLe p.ks w.aim+1)++(k:Int)::p.ps.drop (cLe p.ks w.aim+1)
            rw [<- List.take_append_drop (cLe p.ks w.aim+1) p.ps] at hx
            rcases List.mem_append.mp hx with h | h
            . exact List.mem_append_left _ h
            . exact List.mem_append_right _ (List.mem_cons_of_mem _ h)
          . rw [a1] at hc;cases hc
            show (k:Int)∈p.ps.take (cLe p.ks w.aim+1)++(k:Int)::p.ps.drop (cLe p.ks w.aim+1)
            simp
        . rw [if_neg h0] at hs
          have hs:=Option.some.inj hs
          unfold Z7 at hs
          have g0:∀ {x:Wk},w.ended=false->0 < w.goal->x.ended=false/\x.goal=w.goal/\x.newp=w.newp:=fun _ h=>absurd h h0
          cases hdd:w.deed with
          | find k=>rw [hdd] at hs;cases hs;exact still rfl rfl g0
          | put k x =>
            rw [hdd] at hs
            dsimp only at hs
            simp only [Prod.mk.injEq] at hs
            obtain ⟨rfl,rfl,rfl⟩:=hs
            exact back _ (QX p w.aim x) hw rfl (fun h=>(by
              have hg:p.lv=0:=by omega
              omega)) fun c h=>absurd h h0
          | cut k =>
            rw [hdd] at hs;dsimp only at hs;cases hs
            by_cases hq:(QY p w.aim).isSome=true
            . rw [if_pos hq]
              intro c hc ht
              have hc:c < S.pg.length:=by simpa using hc
              rcases D c hc ht with ⟨m,q,h1,h2,h3⟩ | h
              . have e:m≠n:=fun e=>by subst e;rw [hn] at h1;cases h1;omega
                exact .inl ⟨m,q,by show (S.pg.set n (without p w.aim))[m]?=_;rw [List.getElem?_set_ne (fun x=>e x.symm)];exact h1,h2,h3⟩
              . exact .inr (h.other hi fun _ a=>absurd a h0)
            . rw [if_neg hq];exact still rfl rfl g0
          | stretch l h =>
            rw [hdd] at hs;dsimp only at hs
            cases hhi:p.hi with
            | none=>rw [hhi] at hs;cases hs;exact still rfl rfl g0
            | some x =>
              cases hsd:p.sd with
              | none=>rw [hhi,hsd] at hs;cases hs;exact still rfl rfl g0
              | some s =>
                rw [hhi,hsd] at hs
                dsimp only at hs
                by_cases hx:h<=x
                . rw [if_pos hx] at hs;cases hs;exact still rfl rfl g0
                . rw [if_neg hx] at hs;cases hs;exact still rfl rfl g0
theorem Tld.put (D:Tld S ws) (hi:∀ v,ws[i]?=some v->v.ended=true) (w:Wk):Tld S (ws.set i w):=fun c hc ht=>(D c hc ht).imp id fun ⟨j,v,a,b,d,e⟩=>by
 have ne:j≠i:=fun z=>by subst z;rw [hi v a] at b;cases b
 exact ⟨j,v,by rw [List.getElem?_set_ne (fun x=>ne x.symm)];exact a,b,d,e⟩
end
end TR
namespace TR
def Fk (S:Sh):Prop:=∀ (n:Nat) (p:Pg),S.pg[n]?=some p->0 < p.lv->1<=p.ks.length
section
variable {S S':Sh} {bg bg':Bg} {n f:Nat} {p q P:Pg} {w w':Wk} {r:Row} {a k:Int} {F:Int->Option Int}
theorem Fk.settle (K:Fk S) {w:Wk} (hn:S.pg[n]?=some p) (hl:P.lv=p.lv) (h1:0 < P.lv->1<=P.ks.length) (h3:S.room < P.ks.length->3<=P.ks.length):Fk (Qx S w n P).2.1:=by
 unfold Qx
 by_cases hr:P.ks.length<=S.room
 ·rw [if_pos hr]
  intro m q hm h0
  rcases QL hm with ⟨rfl,rfl,_⟩ | ⟨_,h⟩
  ·exact h1 h0
  ·exact K m q h h0
 ·rw [if_neg hr]
  have l3:=h3 (by omega)
  intro m q hm h0
  rcases QL (xs:=S.pg++[QP P]) hm with ⟨rfl,rfl,_⟩ | ⟨_,h⟩
  ·show 1<=(P.ks.take (mid P)).length
   rw [List.length_take];unfold mid;omega
  ·rcases JV h with ⟨rfl,rfl⟩ | h
   ·show 1<=(P.ks.drop (Zr P)).length
    have h0:0 < P.lv:=h0
    rw [List.length_drop];unfold Zr;rw [if_neg (by omega)];unfold mid;omega
   ·exact K m q h h0
theorem Fk.step (K:Fk S) (T:Tree S bg) (hs:Jh S w=some (r,S',w')):Fk S':=by
  have r2:=T.room2
  unfold Jh at hs
  by_cases hw:w.ended=true
  . rw [if_pos hw] at hs;cases hs;exact K
  rw [if_neg hw] at hs
  cases hn:S.pg[w.place.getD S.top]? with
  | none=>rw [hn] at hs;cases hs
  | some p =>
    simp only [hn] at hs
    by_cases hr:w.place=none/\p.lv < w.goal
    . rw [if_pos hr] at hs
      cases hk:w.newp with
      | none=>rw [hk] at hs;cases hs
      | some k =>
        rw [hk] at hs;cases hs
        intro m q hm h0
        rcases JV hm with ⟨rfl,rfl⟩ | h
        . exact Nat.le_refl _
        . exact K m q h h0
    . rw [if_neg hr] at hs
      by_cases hb:JQ p w.aim=true
      . rw [if_pos hb] at hs
        cases hsd:p.sd with
        | none=>rw [hsd] at hs;cases hs
        | some s=>rw [hsd] at hs;cases hs;exact K
      . rw [if_neg hb] at hs
        by_cases hd:w.goal < p.lv
        . rw [if_pos hd] at hs
          cases hq:p.ps[cLe p.ks w.aim]? with
          | none=>rw [hq] at hs;cases hs
          | some c=>rw [hq] at hs;cases hs;exact K
        . rw [if_neg hd] at hs
          by_cases h0:0 < w.goal
          . rw [if_pos h0] at hs
            cases hk:w.newp with
            | none=>rw [hk] at hs;cases hs
            | some k =>
              rw [hk] at hs
              simp only [Option.some.injEq,Prod.mk.injEq] at hs
              obtain ⟨rfl,rfl,rfl⟩:=hs
              exact Fk.settle (S:={ S with rd:=S.rd+1 }) K hn rfl (fun _=>by show 1<=(_++_::_:List Int).length;rw [List.length_append,List.length_cons];omega) (fun h=>by
                have h:S.room < (Zv p w.aim k).ks.length:=h
                omega)
          . rw [if_neg h0] at hs
            have hs:=Option.some.inj hs
            unfold Z7 at hs
            cases hdd:w.deed with
            | find k=>rw [hdd] at hs;cases hs;exact K
            | put k x =>
              rw [hdd] at hs
              dsimp only at hs
              simp only [Prod.mk.injEq] at hs
              obtain ⟨rfl,rfl,rfl⟩:=hs
              exact Fk.settle (S:={ S with rd:=S.rd+1 }) K hn rfl (fun _=>by show 1<=(_++_::_:List Int).length;rw [List.length_append,List.length_cons];omega) (fun h=>by
                have h:S.room < (QX p w.aim x).ks.length:=h
                omega)
            | cut k =>
              rw [hdd] at hs;dsimp only at hs;cases hs
              by_cases hq:(QY p w.aim).isSome=true
              . rw [if_pos hq]
                intro m q hm h1
                rcases QL hm with ⟨rfl,rfl,_⟩ | ⟨_,h⟩
                . have:0 < p.lv:=h1
                  omega
                . exact K m q h h1
              . rw [if_neg hq];exact K
            | stretch l h =>
              rw [hdd] at hs;dsimp only at hs
              cases hhi:p.hi with
              | none=>rw [hhi] at hs;cases hs;exact K
              | some x =>
                cases hsd:p.sd with
                | none=>rw [hhi,hsd] at hs;cases hs;exact K
                | some s =>
                  rw [hhi,hsd] at hs
                  dsimp only at hs
                  by_cases hx:h<=x
                  . rw [if_pos hx] at hs;cases hs;exact K
                  . rw [if_neg hx] at hs;cases hs;exact K
end
end TR
namespace TR
section
variable {S S':Sh} {bg bg':Bg} {n f:Nat} {p q P:Pg} {w w':Wk} {r:Row} {a k:Int} {F F':Int->Option Int} {R:Nat}
def XF (S:Sh) (l:Nat):Nat:=((List.range S.pg.length).filter (lvB S fun x=>decide (x=l))).length
theorem uJ {l:Nat} (h:S.pg[n]?=some p) (hl:p.lv=l):n∈(List.range S.pg.length).filter (lvB S fun x=>decide (x=l)) :=
 List.mem_filter.mpr ⟨List.mem_range.mpr (QJ h),by unfold lvB;rw [h];simpa using hl⟩
theorem Qdp {l:Nat} (h:S.pg[n]?=some p) (hl:p.lv=l):1<=XF S l:=List.length_pos_of_mem (uJ h hl)
theorem Tree.pages_row (T:Tree S bg) (hr:S.pg[S.top]?=some p) (hK:∀ j,0 < j->j<=p.lv->∃ (f:Nat) (q:Pg),S.pg[f]?=some q/\q.lv=j):XF S 0+p.lv<=S.pg.length:=by
  obtain ⟨z,r1,r2⟩:=T.root
  rw [hr] at r1;cases r1
  have a:=U1 (S:=S) (L:=p.lv) r2
  have key:∀ R,R<=p.lv->XF S 0+R<=((List.range S.pg.length).filter (lvB S fun x=>decide (x < R+1))).length:=by
    intro R
    induction R with
    | zero=>intro _;rw [zM,Vm];unfold XF;omega
    | succ R ih =>
      intro h
      have:=ih (by omega)
      obtain ⟨f,q,x1,x2⟩:=hK (R+1) (by omega) h
      have:=Qdp x1 x2
      rw [zM]
      unfold XF at *
      omega
  have:=key p.lv (Nat.le_refl _)
  omega
end
end TR
namespace TR
section
variable {S S':Sh} {bg bg':Bg} {n f:Nat} {p q P:Pg} {w w':Wk} {r:Row} {a k:Int} {F F':Int->Option Int} {R:Nat}
theorem vv (g:YX S bg S' bg') {n:Nat} (hn:n < S.pg.length) (fn:Nat->Bool):lvB S' fn n=lvB S fn n:=by
 obtain ⟨_,p',h1,h2⟩:=g.old n _ (List.getElem?_eq_getElem hn)
 unfold lvB
 rw [h1,List.getElem?_eq_getElem hn]
 show fn p'.lv=fn _
 rw [h2]
theorem Yr {α:Type} {f h:α->Bool}:∀ {l:List α},(∀ x∈l,f x=h x)->l.filter f=l.filter h
  | [],_=>rfl
  | x::l,e=>by
    rw [List.filter_cons,List.filter_cons,e x (by simp),Yr fun y hy=>e y (List.mem_cons_of_mem _ hy)]
theorem xP (g:YX S bg S' bg') (h:S'.pg.length=S.pg.length) (l:Nat):XF S' l=XF S l:=by
 unfold XF
 rw [h,Yr fun x hx=>vv g (List.mem_range.mp hx) _]
theorem UZ (g:YX S bg S' bg') (h:S'.pg.length=S.pg.length+1) (hq:S'.pg[S.pg.length]?=some q) (l:Nat):XF S' l=XF S l+if q.lv=l then 1 else 0:=by
 unfold XF
 rw [h,List.range_succ,List.filter_append,List.length_append,Yr fun x hx=>vv g (List.mem_range.mp hx) _]
 have e:lvB S' (fun x=>decide (x=l)) S.pg.length=decide (q.lv=l):=by unfold lvB;rw [hq]
 congr 1
 rw [List.filter_cons,e]
 by_cases c:q.lv=l<;>simp [c]
theorem Js:∀ {l m:List Nat},l.Nodup->(∀ x∈l,x∈m)->l.length<=m.length
  | [],m,_,_=>Nat.zero_le _
  | x::l,m,h,hs=>by
    obtain ⟨h1,h2⟩:=List.nodup_cons.mp h
    have hx:=hs x (by simp)
    have:=Js (l:=l) (m:=m.erase x) h2 fun y hy=>by
      have ne:y≠x:=fun e=>h1 (e▸hy)
      exact (List.mem_erase_of_ne ne).mpr (hs y (List.mem_cons_of_mem _ hy))
    rw [List.length_erase_of_mem hx] at this
    have:=List.length_pos_of_mem hx
    rw [List.length_cons];omega
def yr (S:Sh) (n j:Nat):Nat:=match S.pg[n]? with
 | some p=>(p.ps.getD j 0).toNat
 | none=>0
theorem Gi (T:Tree S bg) (K:Fk S) (hn:S.pg[n]?=some p) (hl:0 < p.lv) {j:Nat} (hj:j < 2):∃ q,S.pg[yr S n j]?=some q/\q.lv+1=p.lv/\bg (yr S n j)=Jd (bg n) p.ks j:=by
 have pl:=(T.page n p hn).parts
 rw [if_neg (by omega)] at pl
 have k1:=K n p hn hl
 obtain ⟨c,q,a1,a2,a3,a4⟩:=T.kid n p hn hl j _ (List.getElem?_eq_getElem (by omega:j < p.ps.length))
 have e:yr S n j=c:=by
  unfold yr;rw [hn]
  show (p.ps.getD j 0).toNat=c
  rw [List.getD_eq_getElem?_getD,List.getElem?_eq_getElem (by omega:j < p.ps.length),a1];rfl
 rw [e];exact ⟨q,a2,a3,a4⟩
theorem vV (T:Tree S bg) (K:Fk S) (hn:S.pg[n]?=some p) (hl:0 < p.lv) {j:Nat} (hj:j < 2):leBB (bg n) (Jd (bg n) p.ks j)/\∀ h v,p.hi=some h->Jd (bg n) p.ks j=some v->v < h:=by
  have ok:=T.page n p hn
  have k1:=K n p hn hl
  cases j with
  | zero=>exact ⟨leBB.refl _,fun h v h1 h2=>ok.wide h h1 v h2⟩
  | succ i =>
    have e:i=0:=by omega
    subst e
    have g:Jd (bg n) p.ks (0+1)=some p.ks[0]:=List.getElem?_eq_getElem (l:=p.ks) (i:=0) k1
    have m:p.ks[0]∈p.ks:=List.getElem_mem _
    rw [g]
    exact ⟨fun v hv=>⟨_,rfl,ok.low _ m v hv⟩,fun h v h1 h2=>by cases h2;exact ok.high _ m h h1⟩
theorem Qbn (T:Tree S bg) (K:Fk S) (l:Nat):2 * XF S (l+1)<=XF S l:=by
 let L:=(List.range S.pg.length).filter (lvB S fun x=>decide (x=l+1))
 have inL:∀ n∈L,∃ p,S.pg[n]?=some p/\p.lv=l+1:=fun n hn=>by
  obtain ⟨h1,h2⟩:=List.mem_filter.mp hn
  have h1:=List.mem_range.mp h1
  unfold lvB at h2
  rw [List.getElem?_eq_getElem h1] at h2
  exact ⟨_,List.getElem?_eq_getElem h1,by simpa using h2⟩
 have nd:L.Nodup:=List.nodup_range.filter _
 have key:∀ n m i j,n∈L->m∈L->i < 2->j < 2->yr S n i=yr S m j->n=m/\i=j:=fun n m i j hn hm hi hj e=>by
  obtain ⟨p,a1,a2⟩:=inL n hn
  obtain ⟨q,b1,b2⟩:=inL m hm
  obtain ⟨_,_,_,c3⟩:=Gi T K a1 (by omega) hi
  obtain ⟨_,_,_,d3⟩:=Gi T K b1 (by omega) hj
  rw [e,d3] at c3
  obtain ⟨x1,x2⟩:=vV T K a1 (by omega) hi
  obtain ⟨y1,y2⟩:=vV T K b1 (by omega) hj
  have nm:n=m:=by
   rcases Nat.decEq n m with h | h
   ·exfalso
    rcases T.dis n m p q a1 b1 (by omega) h with ⟨u,v,e1,e2,e3⟩ | ⟨u,v,e1,e2,e3⟩
    ·obtain ⟨z,z1,z2⟩:=y1 v e2
     have:=x2 u z e1 (c3.symm.trans z1);omega
    ·obtain ⟨z,z1,z2⟩:=x1 v e2
     have:=y2 u z e1 (c3.trans z1);omega
   ·exact h
  subst nm
  rw [a1] at b1;cases b1
  refine ⟨rfl,?_⟩
  have ok:=T.page n p a1
  have k1:=K n p a1 (by omega)
  have l0:=ok.lowF (by omega) p.ks[0] (List.getElem_mem (by omega))
  have ne:bg n≠p.ks[0]?:=fun z=>by
   rw [List.getElem?_eq_getElem (by omega)] at z
   have:=l0 _ z;omega
  match i,j,hi,hj with
  | 0,0,_,_=>rfl
  | 1,1,_,_=>rfl
  | 0,1,_,_=>exact absurd c3.symm ne
  | 1,0,_,_=>exact absurd c3 ne
 let M:=L.flatMap fun n=>[yr S n 0,yr S n 1]
 have ndM:M.Nodup:=by
  show List.Pairwise (· ≠ ·) _
  rw [List.pairwise_flatMap]
  refine ⟨fun n hn=>?_,?_⟩
  ·refine List.pairwise_cons.mpr ⟨fun x hx=>?_,List.pairwise_singleton _ _⟩
   rw [List.mem_singleton] at hx
   subst hx
   intro e
   have:=(key n n 0 1 hn hn (by omega) (by omega) e).2
   omega
  ·refine List.Pairwise.imp_of_mem (R:=(· ≠ ·)) (fun {a b} ha hb ne x hx y hy e=>?_) nd
   subst e
   simp only [List.mem_cons,List.not_mem_nil,or_false] at hx hy
   rcases hx with rfl | rfl<;>rcases hy with hy | hy
   ·exact ne (key a b 0 0 ha hb (by omega) (by omega) hy).1
   ·exact ne (key a b 0 1 ha hb (by omega) (by omega) hy).1
   ·exact ne (key a b 1 0 ha hb (by omega) (by omega) hy).1
   ·exact ne (key a b 1 1 ha hb (by omega) (by omega) hy).1
 have sub:∀ x∈M,x∈(List.range S.pg.length).filter (lvB S fun y=>decide (y=l)):=fun x hx=>by
  obtain ⟨n,hn,hx⟩:=List.mem_flatMap.mp hx
  obtain ⟨p,a1,a2⟩:=inL n hn
  simp only [List.mem_cons,List.not_mem_nil,or_false] at hx
  rcases hx with rfl | rfl
  ·obtain ⟨q,c1,c2,_⟩:=Gi T K a1 (by omega) (show 0 < 2 by omega)
   exact uJ c1 (by omega)
  ·obtain ⟨q,c1,c2,_⟩:=Gi T K a1 (by omega) (show 1 < 2 by omega)
   exact uJ c1 (by omega)
 have len:=Js ndM sub
 have lm:M.length=2 * L.length:=by
  show (L.flatMap _).length=_
  generalize L=L'
  induction L' with
  | nil=>rfl
  | cons x t ih=>rw [List.flatMap_cons,List.length_append,ih,List.length_cons];simp;omega
 unfold XF
 show 2 * L.length<=_
 omega
theorem vD (T:Tree S bg) (K:Fk S):S.pg.length<=2 * XF S 0:=by
  obtain ⟨r,r1,r2⟩:=T.root
  have a:=U1 (S:=S) (L:=r.lv) r2
  have key:∀ k,((List.range S.pg.length).filter (lvB S fun x=>decide (x < k))).length+2 * XF S k<=2 * XF S 0:=by
    intro k
    induction k with
    | zero=>rw [Vm];omega
    | succ k ih =>
      have:=Qbn T K k
      rw [zM]
      unfold XF at *
      omega
  have:=key (r.lv+1)
  omega
end
end TR
namespace TR
def lvA (S:Sh) (n:Nat):Nat:=match S.pg[n]? with
 | some p=>p.lv
 | none=>0
def vis (S:Sh) (w:Wk) (k:Nat):Option Nat:=match w.place with
 | some n=>if lvA S n=k then some n else if lvA S n < k then JU w.forks k else none
 | none=>none
def ltV (bg:Bg) (v:Option Nat) (m:Nat):Bool:=match v with
 | some v=>ltO (bg v) (bg m)
 | none=>true
def Ct (S:Sh) (bg:Bg) (w:Wk) (m:Nat):Bool:=decide (w.goal<=lvA S m)&&ltV bg (vis S w (lvA S m)) m
def phi (S:Sh) (bg:Bg) (w:Wk):Nat:=((List.range S.pg.length).filter (Ct S bg w)).length+(lvA S S.top+2 - w.goal)
inductive Uq (S:Sh) (bg:Bg) (w:Wk) (S':Sh) (w':Wk):Prop
 | side {n s:Nat} {p q:Pg} (hp:w.place=some n∨(w.place=none/\n=S.top)) (hn:S.pg[n]?=some p) (hg:w.goal<=p.lv) (hs:S.pg[s]?=some q) (hl:q.lv=p.lv) (hb:ltO (bg n) (bg s)=true) (e1:S'.pg=S.pg) (e2:S'.top=S.top) (e3:w'.goal=w.goal) (e4:w'.forks=w.forks) (e5:w'.place=some s) (e6:w'.ended=false):Uq S bg w S' w'
 | down {n c:Nat} {p q:Pg} (hp:w.place=some n∨(w.place=none/\n=S.top)) (hn:S.pg[n]?=some p) (hl:q.lv+1=p.lv) (hg:w.goal<=q.lv) (hc:S.pg[c]?=some q) (e1:S'.pg=S.pg) (e2:S'.top=S.top) (e3:w'.goal=w.goal) (e4:w'.forks=zB w.forks p.lv n) (e5:w'.place=some c) (e6:w'.ended=false):Uq S bg w S' w'
 | part {n:Nat} {p q:Pg} (hp:w.place=some n∨(w.place=none/\n=S.top)) (hn:S.pg[n]?=some p) (hg:w.goal=p.lv) (el:S'.pg.length=S.pg.length+1) (eq:S'.pg[S.pg.length]?=some q) (hq:q.lv=w.goal) (e2:S'.top=S.top) (e3:w'.goal=w.goal+1) (e4:w'.forks=w.forks) (e5:w'.place=JU w.forks (w.goal+1)) (e6:w'.ended=false):Uq S bg w S' w'
 | over (e6:w'.ended=true) (el:S'.pg.length=S.pg.length) (e2:S'.top=S.top):Uq S bg w S' w'
 | raised {p q:Pg} (e6:w'.ended=true) (hr:S.pg[S.top]?=some p) (el:S'.pg.length=S.pg.length+1) (e2:S'.top=S.pg.length) (eq:S'.pg[S.pg.length]?=some q) (hq:q.lv=p.lv+1):Uq S bg w S' w'
section
variable {S S':Sh} {bg bg':Bg} {n:Nat} {p q P:Pg} {w w' v:Wk} {r:Row}
theorem ZQ (h:S.pg[n]?=some p):lvA S n=p.lv:=by unfold lvA;rw [h]
theorem yI (W0:w.ended=false) (hpl:w.place=some n∨(w.place=none/\n=S.top)) (hn:S.pg[n]?=some p) (hl:P.lv=p.lv) (hg:w.goal=p.lv) {w0:Wk} (g0:w0.goal=w.goal) (f0:w0.forks=w.forks) (d0:w0.ended=w.ended):Uq S bg w (Qx { S with rd:=S.rd+1 } w0 n P).2.1 (Qx { S with rd:=S.rd+1 } w0 n P).2.2:=by
 have ln:=QJ hn
 unfold Qx
 by_cases hr:P.ks.length<=S.room
 ·rw [if_pos (show P.ks.length<=({ S with rd:=S.rd+1 }:Sh).room from hr)]
  exact .over rfl (by simp) rfl
 ·rw [if_neg (show ¬ P.ks.length<=({ S with rd:=S.rd+1 }:Sh).room from hr)]
  refine .part (q:=QP P) hpl hn hg (by simp) ?_ (by show P.lv=_;omega) rfl (by show P.lv+1=_;omega) f0 ?_ (by show w0.ended=false;rw [d0,W0])
  ·show ((S.pg++[QP P]).set n (Q7 P S.pg.length))[S.pg.length]?=_
   rw [List.getElem?_set_ne (by omega)];simp
  ·show JU w0.forks (P.lv+1)=_
   rw [f0,hl,hg]
theorem Ky (T:Tree S bg) (W:WOk S bg w) (hw:w.ended=false) (hs:Jh S w=some (r,S',w')):Uq S bg w S' w':=by
  obtain ⟨n,hn0,hpl⟩:∃ n,w.place.getD S.top=n/\(w.place=some n∨(w.place=none/\n=S.top)):=by
    cases e:w.place with
    | none=>exact ⟨S.top,rfl,.inr ⟨rfl,rfl⟩⟩
    | some m=>exact ⟨m,rfl,.inl rfl⟩
  obtain ⟨p,hn⟩:∃ p,S.pg[n]?=some p:=by
    rcases hpl with hp | ⟨_,rfl⟩
    . obtain ⟨p,a,_⟩:=W.at_ n hp;exact ⟨p,a⟩
    . obtain ⟨p,a,_⟩:=T.root;exact ⟨p,a⟩
  have ln:=QJ hn
  unfold Jh at hs
  rw [if_neg (by rw [hw];simp),hn0] at hs
  simp only [hn] at hs
  by_cases hr:w.place=none/\p.lv < w.goal
  . rw [if_pos hr] at hs
    obtain ⟨k,q,a1,a2,a3,a4⟩:=W.tell (by omega)
    simp only [a1] at hs
    cases hs
    have htop:n=S.top:=by
      rcases hpl with hp | ⟨_,e⟩
      . rw [hr.1] at hp;cases hp
      . exact e
    subst htop
    exact .raised (q:=⟨p.lv+1,[w.aim],[(S.top:Int),(k:Int)],none,none⟩) rfl hn (by simp) rfl (by simp) rfl
  . rw [if_neg hr] at hs
    have hg:w.goal<=p.lv:=by
      rcases hpl with hp | ⟨hp,_⟩
      . obtain ⟨p',b1,b2,_⟩:=W.at_ n hp
        rw [hn] at b1;cases b1;exact b2
      . exact Nat.le_of_not_lt fun h=>hr ⟨hp,h⟩
    cases hb:JQ p w.aim with
    | true =>
      rw [hb,if_pos rfl] at hs
      cases hsd:p.sd with
      | none=>rw [hsd] at hs;cases hs
      | some s =>
        rw [hsd] at hs;cases hs
        obtain ⟨x,q,a1,a2,a3,a4,a5⟩:=kQ T hn hsd
        exact .side hpl hn hg a2 a3 a5 rfl rfl rfl rfl rfl hw
    | false =>
      rw [hb,if_neg (by simp)] at hs
      by_cases hd:w.goal < p.lv
      . rw [if_pos hd] at hs
        cases hq:p.ps[cLe p.ks w.aim]? with
        | none=>rw [hq] at hs;cases hs
        | some c =>
          rw [hq] at hs;cases hs
          obtain ⟨c',z,b1,b2,b3,_⟩:=T.kid _ p hn (by omega) _ _ hq
          subst b1
          exact .down hpl hn b3 (by omega) b2 rfl rfl rfl rfl (by simp [Int.toNat_natCast]) hw
      . rw [if_neg hd] at hs
        have hgl:w.goal=p.lv:=by omega
        by_cases h0:0 < w.goal
        . rw [if_pos h0] at hs
          obtain ⟨k,q,a1,a2,a3,a4⟩:=W.tell h0
          simp only [a1] at hs
          simp only [Option.some.injEq,Prod.mk.injEq] at hs
          obtain ⟨rfl,rfl,rfl⟩:=hs
          exact yI (P:=Zv p w.aim k) hw hpl hn rfl hgl rfl rfl rfl
        . rw [if_neg h0] at hs
          have hs:=Option.some.inj hs
          unfold Z7 at hs
          cases hdd:w.deed with
          | find k=>rw [hdd] at hs;cases hs;exact .over rfl rfl rfl
          | put k x =>
            rw [hdd] at hs
            dsimp only at hs
            simp only [Prod.mk.injEq] at hs
            obtain ⟨rfl,rfl,rfl⟩:=hs
            exact yI (P:=QX p w.aim x) hw hpl hn rfl hgl rfl rfl rfl
          | cut k =>
            rw [hdd] at hs;dsimp only at hs;cases hs
            by_cases hq:(QY p w.aim).isSome=true
            . rw [if_pos hq];exact .over rfl (by simp) rfl
            . rw [if_neg hq];exact .over rfl rfl rfl
          | stretch l h =>
            rw [hdd] at hs;dsimp only at hs
            rcases T.link n p hn with ⟨a,b⟩ | ⟨x,s,q,a,b,c,d,e⟩
            . simp only [a,b] at hs;cases hs;exact .over rfl rfl rfl
            . simp only [a,b] at hs
              by_cases hx:h<=x
              . rw [if_pos hx] at hs;cases hs;exact .over rfl rfl rfl
              . rw [if_neg hx] at hs;cases hs
                obtain ⟨x',q',a1,a2,a3,a4,a5⟩:=kQ T hn b
                exact .side hpl hn hg a2 a3 a5 rfl rfl rfl rfl rfl hw
theorem JG (g:YX S bg S' bg') {n:Nat} (hn:n < S.pg.length):lvA S' n=lvA S n:=by
 obtain ⟨_,p',h1,h2⟩:=g.old n _ (List.getElem?_eq_getElem hn)
 rw [ZQ h1,ZQ (List.getElem?_eq_getElem hn),h2]
theorem XB (g:YX S bg S' bg') {n:Nat} (hn:n < S.pg.length):bg' n=bg n:=(g.old n _ (List.getElem?_eq_getElem hn)).1
theorem jE (T:Tree S bg):S.top < S.pg.length:=by obtain ⟨r,h,_⟩:=T.root;exact QJ h
theorem xa (T:Tree S bg) {m:Nat} (h:m < S.pg.length):lvA S m<=lvA S S.top:=by
 obtain ⟨r,h1,h2⟩:=T.root
 rw [ZQ h1,ZQ (List.getElem?_eq_getElem h)];exact h2 m _ (List.getElem?_eq_getElem h)
theorem Qd4 (T:Tree S bg) (W:WOk S bg w) (K:Uq S bg w S' w') (g:YX S bg S' bg') (he:w'.ended=false):phi S' bg' w'+1<=phi S bg w:=by
  cases K with
  | over e6=>rw [he] at e6;cases e6
  | raised e6=>rw [he] at e6;cases e6
  | @side n s p q hp hn hg hs hl hb e1 e2 e3 e4 e5 e6 =>
    have eL:∀ m,lvA S' m=lvA S m:=fun m=>by unfold lvA;rw [e1]
    have eB:∀ m,m < S.pg.length->bg' m=bg m:=fun m hm=>XB g hm
    have ls:=QJ hs
    have key:((List.range S'.pg.length).filter (Ct S' bg' w')).length < ((List.range S.pg.length).filter (Ct S bg w)).length:=by
      rw [e1]
      refine K8 _ _ _ (fun m hm h=>?_) ⟨s,List.mem_range.mpr ls,?_,?_⟩
      . have lm:=List.mem_range.mp hm
        unfold Ct at h ⊢
        rw [Bool.and_eq_true] at h ⊢
        rw [eL,e3] at h
        refine ⟨h.1,?_⟩
        have h2:=h.2
        unfold vis at h2 ⊢
        rw [e5] at h2
        simp only [eL,ZQ hs,e4] at h2
        rcases hp with hp | ⟨hp,rfl⟩
        . rw [hp]
          simp only [ZQ hn]
          rw [hl] at h2
          by_cases c:p.lv=lvA S m
          . rw [if_pos c] at h2 ⊢
            unfold ltV at h2 ⊢
            simp only [eB s ls,eB m lm] at h2
            exact QaI hb h2
          . rw [if_neg c] at h2 ⊢
            by_cases c2:p.lv < lvA S m
            . rw [if_pos c2] at h2 ⊢
              unfold ltV at h2 ⊢
              cases hf:JU w.forks (lvA S m) with
              | none=>rfl
              | some f =>
                rw [hf] at h2
                obtain ⟨z,z1,_⟩:=W.kept _ f hf
                simp only [eB f (QJ z1),eB m lm] at h2
                exact h2
            . rw [if_neg c2];rfl
        . rw [hp];rfl
      . unfold Ct vis
        rw [ZQ hs,hl,decide_eq_true hg]
        rcases hp with hp | ⟨hp,rfl⟩
        . rw [hp];simp only [ZQ hn,if_true];exact hb
        . rw [hp];rfl
      . unfold Ct vis
        rw [e5]
        simp [ltV,kr]
    unfold phi
    rw [eL,e2,e3];omega
  | @down n c p q hp hn hl hg hc e1 e2 e3 e4 e5 e6 =>
    have eL:∀ m,lvA S' m=lvA S m:=fun m=>by unfold lvA;rw [e1]
    have eB:∀ m,m < S.pg.length->bg' m=bg m:=fun m hm=>XB g hm
    have lc:=QJ hc
    have key:((List.range S'.pg.length).filter (Ct S' bg' w')).length < ((List.range S.pg.length).filter (Ct S bg w)).length:=by
      rw [e1]
      refine K8 _ _ _ (fun m hm h=>?_) ⟨c,List.mem_range.mpr lc,?_,?_⟩
      . have lm:=List.mem_range.mp hm
        unfold Ct at h ⊢
        rw [Bool.and_eq_true] at h ⊢
        rw [eL,e3] at h
        refine ⟨h.1,?_⟩
        have h2:=h.2
        unfold vis at h2 ⊢
        rw [e5] at h2
        simp only [eL,ZQ hc,e4] at h2
        rcases hp with hp | ⟨hp,rfl⟩
        . rw [hp]
          simp only [ZQ hn]
          by_cases c1:p.lv=lvA S m
          . rw [if_pos c1]
            rw [if_neg (by omega),if_pos (by omega),zm,if_pos c1.symm] at h2
            unfold ltV at h2 ⊢
            simp only [eB n (QJ hn),eB m lm] at h2
            exact h2
          . rw [if_neg c1]
            by_cases c2:p.lv < lvA S m
            . rw [if_pos c2]
              rw [if_neg (by omega),if_pos (by omega),zm,if_neg (by omega)] at h2
              unfold ltV at h2 ⊢
              cases hf:JU w.forks (lvA S m) with
              | none=>rfl
              | some f =>
                rw [hf] at h2
                obtain ⟨z,z1,_⟩:=W.kept _ f hf
                simp only [eB f (QJ z1),eB m lm] at h2
                exact h2
            . rw [if_neg c2];rfl
        . rw [hp];rfl
      . unfold Ct vis
        rw [ZQ hc,decide_eq_true hg]
        rcases hp with hp | ⟨hp,rfl⟩
        . rw [hp];simp only [ZQ hn];rw [if_neg (by omega),if_neg (by omega)];rfl
        . rw [hp];rfl
      . unfold Ct vis
        rw [e5]
        simp [ltV,kr]
    unfold phi
    rw [eL,e2,e3];omega
  | @part n p q hp hn hg el eq hq e2 e3 e4 e5 e6 =>
    have ln:=QJ hn
    have key:((List.range S'.pg.length).filter (Ct S' bg' w')).length<=((List.range S.pg.length).filter (Ct S bg w)).length:=by
      rw [el,List.range_succ,List.filter_append,List.length_append]
      have z:Ct S' bg' w' S.pg.length=false:=by
        unfold Ct
        rw [ZQ eq,e3,hq,decide_eq_false (by omega)];rfl
      rw [List.filter_cons,z]
      simp only [Bool.false_eq_true,if_false,List.filter_nil,List.length_nil,Nat.add_zero]
      refine K7 _ _ _ fun m hm h=>?_
      have lm:=List.mem_range.mp hm
      unfold Ct at h ⊢
      rw [Bool.and_eq_true] at h ⊢
      rw [JG g lm,e3] at h
      have h1:w.goal+1<=lvA S m:=of_decide_eq_true h.1
      refine ⟨decide_eq_true (by omega),?_⟩
      have h2:=h.2
      rcases hp with hp | ⟨hp,rfl⟩
      . unfold vis at h2 ⊢
        rw [hp]
        rw [e5] at h2
        simp only [ZQ hn]
        rw [if_neg (by omega),if_pos (by omega)]
        cases hf:JU w.forks (lvA S m) with
        | none=>rfl
        | some f =>
          obtain ⟨f1,hf1⟩:=W.full n p hp hn _ f hf (w.goal+1) (by omega) (by omega)
          rw [hf1] at h2
          obtain ⟨z1,y1,y2⟩:=W.kept _ f1 hf1
          obtain ⟨z2,y3,y4⟩:=W.kept _ f hf
          simp only [JG g (QJ y1),ZQ y1,y2,e4] at h2
          by_cases c:w.goal+1=lvA S m
          . rw [if_pos c] at h2
            rw [<- c,hf1] at hf;cases hf
            unfold ltV at h2 ⊢
            simp only [XB g (QJ y1),XB g lm] at h2
            exact h2
          . rw [if_neg c,if_pos (by omega),hf] at h2
            unfold ltV at h2 ⊢
            simp only [XB g (QJ y3),XB g lm] at h2
            exact h2
      . have:=xa T lm
        rw [ZQ hn] at this;omega
    have ht:lvA S' S'.top=lvA S S.top:=by rw [e2];exact JG g (jE T)
    have:=xa T ln
    rw [ZQ hn] at this
    unfold phi
    rw [ht,e3];omega
theorem Qbo (V:WOk S bg v) (g:YX S bg S' bg') {m:Nat} (lm:m < S.pg.length):Ct S' bg' v m=Ct S bg v m:=by
  unfold Ct
  rw [JG g lm]
  congr 1
  unfold vis
  cases hp:v.place with
  | none=>rfl
  | some n =>
    obtain ⟨p,h1,_⟩:=V.at_ n hp
    simp only [JG g (QJ h1)]
    by_cases c:lvA S n=lvA S m
    . rw [if_pos c];unfold ltV;simp only [XB g (QJ h1),XB g lm]
    . rw [if_neg c]
      by_cases c2:lvA S n < lvA S m
      . rw [if_pos c2]
        unfold ltV
        cases hf:JU v.forks (lvA S m) with
        | none=>rfl
        | some f =>
          obtain ⟨z,z1,_⟩:=V.kept _ f hf
          simp only [XB g (QJ z1),XB g lm]
      . rw [if_neg c2];rfl
theorem VN (T:Tree S bg) (V:WOk S bg v) (g:YX S bg S' bg') (el:S'.pg.length=S.pg.length) (e2:S'.top=S.top):phi S' bg' v=phi S bg v:=by
 unfold phi
 rw [el,e2,JG g (jE T),Yr fun m hm=>Qbo V g (List.mem_range.mp hm)]
theorem vF (T:Tree S bg) (V:WOk S bg v) (g:YX S bg S' bg') (el:S'.pg.length=S.pg.length+1):phi S' bg' v<=phi S bg v+1+(lvA S' S'.top - lvA S S.top):=by
 unfold phi
 rw [el,List.range_succ,List.filter_append,List.length_append,Yr (h:=Ct S bg v) fun m hm=>Qbo V g (List.mem_range.mp hm)]
 have:(List.filter (Ct S' bg' v) [S.pg.length]).length<=1:=List.length_filter_le _ _
 omega
theorem jO (f:Wk->Bool):∀ (ws:List Wk) (i:Nat) (w w':Wk),ws[i]?=some w->((ws.set i w').filter f).length+(if f w=true then 1 else 0)=(ws.filter f).length+(if f w'=true then 1 else 0)
  | [],i,w,w',h=>by cases h
  | x::ws,0,w,w',h=>by
    cases h
    rw [List.set_cons_zero,List.filter_cons,List.filter_cons]
    by_cases a:f x=true<;>by_cases b:f w'=true<;>simp [a,b]<;>omega
  | x::ws,i+1,w,w',h=>by
    have:=jO f ws i w w' h
    rw [List.set_cons_succ,List.filter_cons,List.filter_cons]
    by_cases a:f x=true<;>simp [a]<;>omega
def zf (w:Wk):Bool:=decide (w.goal=0)&&!w.ended
def lf (w:Wk):Bool:=!w.ended
def zc (ws:List Wk):Nat:=(ws.filter zf).length
def lc (ws:List Wk):Nat:=(ws.filter lf).length
def Lim (S:Sh) (bg:Bg) (ws:List Wk) (t:Nat->Nat):Prop:=∀ (i:Nat) (w:Wk),ws[i]?=some w->w.ended=false->phi S bg w+2 * (XF S 0+zc ws)+lc ws<=S.pg.length+t i
theorem Qd5 (T:Tree S bg) (W:WOk S bg w):1<=phi S bg w:=by
 unfold phi
 have:w.goal<=lvA S S.top+1:=by
  rcases Nat.eq_zero_or_pos w.goal with h | h
  ·omega
  ·obtain ⟨k,q,_,h2,h3,_⟩:=W.tell h
   have:=xa T (QJ h2)
   rw [ZQ h2] at this;omega
 omega
theorem Lim.pos {ws:List Wk} {t:Nat->Nat} {i:Nat} (L:Lim S bg ws t) (T:Tree S bg) (K:Fk S) (W:WOk S bg w) (hi:ws[i]?=some w) (hw:w.ended=false):1<=t i:=by
 have h1:=L i w hi hw
 have h2:=vD T K
 have h3:=Qd5 T W
 omega
theorem Qgq {ws:List Wk} {i:Nat} (T:Tree S bg) (W:WOk S bg w) (hi:ws[i]?=some w) (hw:w.ended=false) (K:Uq S bg w S' w') (g:YX S bg S' bg'):2 * (XF S' 0+zc (ws.set i w'))+lc (ws.set i w')+(lvA S' S'.top - lvA S S.top)<=2 * (XF S 0+zc ws)+lc ws/\lc ws<=lc (ws.set i w')+1:=by
  have cz:=jO zf ws i w w' hi
  have cl:=jO lf ws i w w' hi
  have lw:lf w=true:=by unfold lf;rw [hw];rfl
  rw [if_pos lw] at cl
  have zw:zf w=decide (w.goal=0):=by unfold zf;rw [hw];simp
  refine ⟨?_,by unfold lc;omega⟩
  unfold zc lc
  cases K with
  | side hp hn hg hs hl hb e1 e2 e3 e4 e5 e6 =>
    have z:zf w'=zf w:=by unfold zf;rw [e3,e6,hw]
    have l:lf w'=true:=by unfold lf;rw [e6];rfl
    rw [z] at cz;rw [if_pos l] at cl
    rw [xP g (by rw [e1]),e2,JG g (jE T)];omega
  | down hp hn hl hg hc e1 e2 e3 e4 e5 e6 =>
    have z:zf w'=zf w:=by unfold zf;rw [e3,e6,hw]
    have l:lf w'=true:=by unfold lf;rw [e6];rfl
    rw [z] at cz;rw [if_pos l] at cl
    rw [xP g (by rw [e1]),e2,JG g (jE T)];omega
  | part hp hn hg el eq hq e2 e3 e4 e5 e6 =>
    have z:zf w'=false:=by unfold zf;rw [e3];simp
    have l:lf w'=true:=by unfold lf;rw [e6];rfl
    rw [z,zw] at cz;rw [if_pos l] at cl
    rw [UZ g el eq,e2,JG g (jE T),hq]
    by_cases c:w.goal=0
    . rw [if_pos c];simp [c] at cz;omega
    . rw [if_neg c];simp [c] at cz;omega
  | over e6 el e2 =>
    have z:zf w'=false:=by unfold zf;rw [e6];simp
    have l:lf w'=false:=by unfold lf;rw [e6];rfl
    rw [z] at cz;rw [l] at cl
    simp only [Bool.false_eq_true,if_false] at cz cl
    rw [xP g el,e2,JG g (jE T)];omega
  | raised e6 hr el e2 eq hq =>
    have z:zf w'=false:=by unfold zf;rw [e6];simp
    have l:lf w'=false:=by unfold lf;rw [e6];rfl
    rw [z] at cz;rw [l] at cl
    simp only [Bool.false_eq_true,if_false] at cz cl
    rw [UZ g el eq,if_neg (by omega),e2,ZQ eq,ZQ hr];omega
theorem Qiq {ws:List Wk} {i:Nat} (T:Tree S bg) (W:WOk S bg w) (hi:ws[i]?=some w) (hw:w.ended=false) (K:Uq S bg w S' w') (g:YX S bg S' bg'):XF S' 0+zc (ws.set i w')<=XF S 0+zc ws:=by
 have:=Qgq T W hi hw K g
 omega
theorem Lim.step {ws:List Wk} {t:Nat->Nat} {i:Nat} (L:Lim S bg ws t) (A:All S bg ws) (T:Tree S bg) (hi:ws[i]?=some w) (hw:w.ended=false) (hs:Jh S w=some (r,S',w')) (g:YX S bg S' bg'):Lim S' bg' (ws.set i w') (fun j=>if j=i then t i - 1 else t j):=by
 have W:=A.ok i w hi hw
 have K:=Ky T W hw hs
 have Qgq:=(Qgq T W hi hw K g).1
 have grows:S.pg.length<=S'.pg.length:=by
  cases K with
  | side hp hn hg hs hl hb e1=>rw [e1];exact Nat.le_refl _
  | down hp hn hl hg hc e1=>rw [e1];exact Nat.le_refl _
  | part hp hn hg el=>omega
  | over e6 el=>omega
  | raised e6 hr el=>omega
 have oth:∀ v,WOk S bg v->phi S' bg' v+S.pg.length<=phi S bg v+S'.pg.length+(lvA S' S'.top - lvA S S.top):=fun v V=>by
  cases K with
  | side hp hn hg hs hl hb e1 e2=>rw [VN T V g (by rw [e1]) e2,e1];omega
  | down hp hn hl hg hc e1 e2=>rw [VN T V g (by rw [e1]) e2,e1];omega
  | part hp hn hg el=>have:=vF T V g el;omega
  | over e6 el e2=>rw [VN T V g el e2,el];omega
  | raised e6 hr el=>have:=vF T V g el;omega
 intro j u hj hu
 rcases QL hj with ⟨rfl,rfl,_⟩ | ⟨e,h⟩
 ·have h1:=L j w hi hw
  have h2:=Qd4 T W K g hu
  show _<=_+(if j=j then t j - 1 else t j)
  rw [if_pos rfl];omega
 ·have h1:=L j u h hu
  have h2:=oth u (A.ok j u h hu)
  show _<=_+(if j=i then t i - 1 else t j)
  rw [if_neg e];omega
theorem Qg6 (ws:List Wk):lc ws<=ws.length:=List.length_filter_le _ _
theorem QhP (ws:List Wk):zc ws<=ws.length:=List.length_filter_le _ _
theorem Lim.first (T:Tree S bg) (K:Fk S) (hK:∀ j,0 < j->j<=lvA S S.top->∃ (f:Nat) (q:Pg),S.pg[f]?=some q/\q.lv=j) (ws:List Wk):Lim S bg ws (fun _=>2 * S.pg.length+3 * ws.length+2):=fun i w hi hw=>by
 have h1:phi S bg w<=S.pg.length+(lvA S S.top+2):=by
  unfold phi
  have:=List.length_filter_le (Ct S bg w) (List.range S.pg.length)
  rw [List.length_range] at this;omega
 obtain ⟨r,r1,r2⟩:=T.root
 rw [ZQ r1] at h1 hK
 have h2:=T.pages_row r1 hK
 have h3:=Qg6 ws
 have h4:=QhP ws
 show _<=_+(2 * S.pg.length+3 * ws.length+2)
 omega
end
end TR
namespace TR
section
variable {S S':Sh} {bg bg':Bg} {n m:Nat} {p q P:Pg} {w w' v:Wk} {r:Row} {k:Int}
theorem Tree.levels (T:Tree S bg):∀ j,0 < j->j<=lvA S S.top->∃ (f:Nat) (q:Pg),S.pg[f]?=some q/\q.lv=j:=fun j _ hj=>by
 obtain ⟨r,r1,r2⟩:=T.root
 rw [ZQ r1] at hj
 obtain ⟨L,h1,h2⟩:=vq T r.lv S.top r rfl r1 T.rbg
 obtain ⟨h3,h4⟩:=h1.get T r r1
 have hl:r.lv - j < L.length:=by omega
 obtain ⟨q,a,b,_⟩:=h4 (r.lv - j) L[r.lv - j] (List.getElem?_eq_getElem hl)
 exact ⟨_,q,a,by omega⟩
end
end TR
namespace TR
section
variable {S S':Sh} {bg bg':Bg} {w w':Wk} {r:Row}
theorem Qgu (T:Tree S bg):lvA S S.top<=S.pg.length:=by
 have h:∀ j,∃ f,j < lvA S S.top->f < S.pg.length/\lvA S f=j+1:=fun j=>by
  by_cases e:j < lvA S S.top
  ·obtain ⟨f,q,h1,h2⟩:=T.levels (j+1) (by omega) (by omega)
   exact ⟨f,fun _=>⟨QJ h1,by rw [ZQ h1,h2]⟩⟩
  ·exact ⟨0,fun x=>absurd x e⟩
 obtain ⟨g,hg⟩:=Classical.axiomOfChoice h
 have nd:((List.range (lvA S S.top)).map g).Nodup:=by
  rw [List.Nodup,List.pairwise_map]
  refine List.Pairwise.imp_of_mem (fun {a b} ha hb hab e=>?_) (List.nodup_range (n:=lvA S S.top))
  have h1:=(hg a (List.mem_range.mp ha)).2
  have h2:=(hg b (List.mem_range.mp hb)).2
  rw [e] at h1
  exact hab (by omega)
 have:=Js (m:=List.range S.pg.length) nd fun x hx=>by
  obtain ⟨a,ha,rfl⟩:=List.mem_map.mp hx
  exact List.mem_range.mpr (hg a (List.mem_range.mp ha)).1
 simpa using this
def FkOk (S:Sh) (w:Wk):Prop:=(w.forks.map (·.1)).Nodup/\∀ x∈w.forks,x.1<=lvA S S.top
theorem Qej {fs:List (Nat×Nat)} {k v m:Nat} (h1:(fs.map (·.1)).Nodup) (h2:∀ x∈fs,x.1<=m) (hk:k<=m):((zB fs k v).map (·.1)).Nodup/\∀ x∈zB fs k v,x.1<=m:=by
 unfold zB
 split
 ·have e:(fs.map fun p=>if p.1=k then (p.1,v) else p).map (·.1)=fs.map (·.1):=by
   rw [List.map_map]
   apply List.map_congr_left
   intro a _
   show (if a.1=k then (a.1,v) else a).1=a.1
   split<;>rfl
  refine ⟨by rw [e];exact h1,fun x hx=>?_⟩
  obtain ⟨a,ha,rfl⟩:=List.mem_map.mp hx
  have:=h2 a ha
  split<;>exact this
 ·rename_i hn
  refine ⟨?_,fun x hx=>?_⟩
  ·rw [List.map_append,List.nodup_append]
   refine ⟨h1,by simp,fun a ha b hb e=>?_⟩
   simp at hb
   subst hb;subst e
   obtain ⟨p,hp,hk'⟩:=List.mem_map.mp ha
   exact hn (List.any_eq_true.mpr ⟨p,hp,decide_eq_true hk'⟩)
  ·rcases List.mem_append.mp hx with h | h
   ·exact h2 x h
   ·simp at h;subst h;exact hk
theorem xB (S:Sh) (w:Wk) (n:Nat) (p:Pg):(Qx S w n p).2.2.forks=w.forks:=by
 unfold Qx;split<;>rfl
theorem uH (S:Sh) (w:Wk) (n:Nat) (p:Pg):(Z7 S w n p).2.2.forks=w.forks:=by
  unfold Z7
  cases w.deed with
  | find k=>rfl
  | put k x=>exact xB ..
  | cut k=>rfl
  | stretch l h =>
    dsimp only
    split
    . split<;>rfl
    . rfl
theorem gm (h:Jh S w=some (r,S',w')):w'.forks=w.forks∨∃ n p,S.pg[n]?=some p/\w'.forks=zB w.forks p.lv n:=by
 unfold Jh at h
 split at h
 ·cases h;exact .inl rfl
 ·split at h
  ·cases h
  ·rename_i p hp
   split at h
   ·split at h
    ·cases h
    ·cases h;exact .inl rfl
   ·split at h
    ·split at h
     ·cases h
     ·cases h;exact .inl rfl
    ·split at h
     ·split at h
      ·cases h
      ·cases h;exact .inr ⟨_,p,hp,rfl⟩
     ·split at h
      ·split at h
       ·cases h
       ·cases h;exact .inl (xB ..)
      ·have e:=Option.some.inj h
       have e2:w'=(Z7 { S with rd:=S.rd+1 } w (w.place.getD S.top) p).2.2:=by rw [e]
       rw [e2];exact .inl (uH ..)
theorem vX (T:Tree S bg) (T':Tree S' bg') (g:YX S bg S' bg'):lvA S S.top<=lvA S' S'.top:=by
 have h:=jE T
 rw [<- JG g h]
 obtain ⟨_,p',h',_⟩:=g.old S.top _ (List.getElem?_eq_getElem h)
 exact xa T' (QJ h')
theorem FkOk.grow (F:FkOk S w) (T:Tree S bg) (T':Tree S' bg') (g:YX S bg S' bg'):FkOk S' w:=⟨F.1,fun x hx=>Nat.le_trans (F.2 x hx) (vX T T' g)⟩
theorem FkOk.step (F:FkOk S w) (T:Tree S bg) (T':Tree S' bg') (g:YX S bg S' bg') (h:Jh S w=some (r,S',w')):FkOk S' w':=by
 have tg:=vX T T' g
 rcases gm h with e | ⟨n,p,hp,e⟩
 ·exact ⟨by rw [e];exact F.1,fun x hx=>by rw [e] at hx;exact Nat.le_trans (F.2 x hx) tg⟩
 ·have hl:p.lv<=lvA S S.top:=by
   rw [<- ZQ hp];exact xa T (QJ hp)
  obtain ⟨a,b⟩:=Qej (k:=p.lv) (v:=n) F.1 F.2 hl
  exact ⟨by rw [e];exact a,fun x hx=>by rw [e] at hx;exact Nat.le_trans (b x hx) tg⟩
theorem FkOk.len (F:FkOk S w) (T:Tree S bg):w.forks.length<=S.pg.length+1:=by
 have h:=Js (m:=List.range (lvA S S.top+1)) F.1 fun x hx=>by
  obtain ⟨a,ha,rfl⟩:=List.mem_map.mp hx
  have:=F.2 a ha
  exact List.mem_range.mpr (by omega)
 have:=Qgu T
 simp at h
 omega
theorem FkOk.fresh (d:Deed):FkOk S (fresh d):=⟨List.Pairwise.nil,fun x hx=>by cases hx⟩
end
end TR
namespace TR
structure St where
 S:Sh
 ws:List Wk
 ns:List Nat
 tk:Nat
inductive Out where
 | rest
 | take (n:Nat)
 | did (n:Nat) (r:Row)
def mv (ds:List Deed) (s:St) (i:Nat):Option (Out×St):=match s.ws[i]? with
  | none=>none
  | some w =>
    if w.ended=true then
      match ds[s.tk]? with
      | none=>some (.rest,s)
      | some d=>some (.take s.tk,{ s with ws:=s.ws.set i (fresh d),ns:=s.ns.set i s.tk,tk:=s.tk+1 })
    else
      match Jh s.S w with
      | none=>none
      | some (r,S',w')=>some (.did (s.ns.getD i 0) r,{ s with S:=S',ws:=s.ws.set i w' })
def still (ds:List Deed) (s:St):Bool:=decide (s.tk=ds.length)&&s.ws.all (·.ended)
structure StOk (ds:List Deed) (s:St) (bg:Bg) (b:Nat->Nat):Prop where
 T:Tree s.S bg
 A:All s.S bg s.ws
 K:Fk s.S
 D:Tld s.S s.ws
 rm:s.S.room<=5
 len:s.ns.length=s.ws.length
 tk:s.tk<=ds.length
 cn:XF s.S 0+zc s.ws<=1+s.tk
 fk:∀ (i:Nat) (w:Wk),s.ws[i]?=some w->w.ended=false->FkOk s.S w
 pr:∀ (i:Nat) (w:Wk),s.ws[i]?=some w->w.ended=false->w.pairs.length<=5 * b i
def upB (b:Nat->Nat) (i:Nat):Nat->Nat:=fun j=>if j=i then b i+1 else b j
def dnT (t:Nat->Nat) (i:Nat):Nat->Nat:=fun j=>if j=i then t i - 1 else t j
section
variable {ds:List Deed} {s:St} {bg:Bg} {b:Nat->Nat}
theorem StOk.mono (Y:StOk ds s bg b) {b':Nat->Nat} (h:∀ i,i < s.ws.length->b i<=b' i):StOk ds s bg b':=⟨Y.T,Y.A,Y.K,Y.D,Y.rm,Y.len,Y.tk,Y.cn,Y.fk,fun i w hi hw=>by
 have:=Y.pr i w hi hw
 have:=h i (List.getElem?_eq_some_iff.mp hi).1
 omega⟩
theorem StOk.pages (Y:StOk ds s bg b):s.S.pg.length<=2 * (1+s.tk):=by
 have h1:=vD Y.T Y.K
 have h2:=Y.cn
 omega
theorem StOk.more (Y:StOk ds s bg b) (d:Deed):StOk (ds++[d]) s bg b:=⟨Y.T,Y.A,Y.K,Y.D,Y.rm,Y.len,by have:=Y.tk;simp;omega,Y.cn,Y.fk,Y.pr⟩
theorem ym (h:still ds s=true):s.tk=ds.length/\∀ (i:Nat) (w:Wk),s.ws[i]?=some w->w.ended=true:=by
 unfold still at h
 simp only [Bool.and_eq_true,decide_eq_true_eq,List.all_eq_true] at h
 exact ⟨h.1,fun i w hi=>h.2 w (List.mem_of_getElem? hi)⟩
theorem StOk.anew (Y:StOk ds s bg b) (h:still ds s=true) (b':Nat->Nat):StOk ds s bg b':=⟨Y.T,Y.A,Y.K,Y.D,Y.rm,Y.len,Y.tk,Y.cn,Y.fk,fun i w hi hw=>by rw [(ym h).2 i w hi] at hw;cases hw⟩
theorem kA (Y:StOk ds s bg b) {i:Nat} (hi:i < s.ws.length):∃ o s' bg',mv ds s i=some (o,s')/\StOk ds s' bg' (upB b i)/\s'.ws.length=s.ws.length/\s.tk<=s'.tk /\
    (s.tk < s'.tk∨((∀ t,Lim s.S bg s.ws t->Lim s'.S bg' s'.ws (dnT t i))/\¬ (s.ws[i].ended=true/\s.tk < ds.length))):=by
  have hw:=List.getElem?_eq_getElem hi
  generalize hwe:s.ws[i]=w at hw
  unfold mv
  rw [hw]
  dsimp only
  cases he:w.ended with
  | true =>
    rw [if_pos rfl]
    cases hd:ds[s.tk]? with
    | none =>
      have le:ds.length<=s.tk:=by simpa using hd
      refine ⟨_,s,bg,rfl,Y.mono fun j _=>by unfold upB;split<;>first | omega | (subst_vars;omega),rfl,Nat.le_refl _,.inr ⟨fun t L j u hj hu=>?_,fun h=>by omega⟩⟩
      have ne:j≠i:=fun e=>by subst e;rw [hw] at hj;cases hj;rw [he] at hu;cases hu
      unfold dnT;rw [if_neg ne];exact L j u hj hu
    | some d =>
      have lt:s.tk < ds.length:=(List.getElem?_eq_some_iff.mp hd).1
      have cz:=jO zf s.ws i w (fresh d) hw
      have cn:=Y.cn
      have z1:∀ c:Bool,(if c=true then 1 else 0)<=1:=fun c=>by cases c<;>simp
      have z2:=z1 (zf (fresh d))
      refine ⟨_,_,bg,rfl,⟨Y.T,Y.A.put rfl rfl rfl,Y.K,Y.D.put (fun v hv=>by rw [hw] at hv;cases hv;exact he) _,Y.rm,by simp [Y.len],by show s.tk+1<=_;omega,?_,fun j u hj hu=>?_,fun j u hj hu=>?_⟩,by simp,by show s.tk<=s.tk+1;omega,.inl (by show s.tk < s.tk+1;omega)⟩
      . show XF s.S 0+zc (s.ws.set i (fresh d))<=1+(s.tk+1)
        unfold zc at cn ⊢;omega
      . rcases QL hj with ⟨rfl,e,_⟩ | ⟨ne,hj⟩
        . rw [e];exact FkOk.fresh d
        . exact Y.fk j u hj hu
      . rcases QL hj with ⟨rfl,e,_⟩ | ⟨ne,hj⟩
        . rw [e];exact Nat.zero_le _
        . have:=Y.pr j u hj hu
          unfold upB;rw [if_neg ne];exact this
  | false =>
    rw [if_neg (by simp)]
    have W:=Y.A.ok i w hw he
    obtain ⟨r,S2,v2,bg2,es,st⟩:=QeA Y.T W he (fun g c hc=>Y.A.unt i w c hw he g hc)
    rw [es]
    have rm:=Y.rm
    have sz:=Ud (m:=5) (fun m p hm=>by have:=(Y.T.page m p hm).few;omega) es
    have kd:=Ky Y.T W he es
    have zs:=Qiq Y.T W hw he kd st.grow
    have li:=hi
    refine ⟨_,_,bg2,rfl,⟨st.tree,Y.A.step hw he st,Y.K.step Y.T es,Y.D.step Y.T W hw he es,by show S2.room<=5;rw [st.room];exact rm,by simp [Y.len],Y.tk,Nat.le_trans zs Y.cn,fun j u hj hu=>?_,fun j u hj hu=>?_⟩,by simp,Nat.le_refl _,.inr ⟨fun t L=>L.step Y.A Y.T hw he es st.grow,fun h=>by cases h.1⟩⟩
    . rcases QL hj with ⟨rfl,e,_⟩ | ⟨ne,hj⟩
      . rw [e];exact (Y.fk j w hw he).step Y.T st.tree st.grow es
      . exact (Y.fk j u hj hu).grow Y.T st.tree st.grow
    . rcases QL hj with ⟨rfl,e,_⟩ | ⟨ne,hj⟩
      . have:=Y.pr j w hw he
        rw [e];unfold upB;rw [if_pos rfl];omega
      . have:=Y.pr j u hj hu
        unfold upB;rw [if_neg ne];exact this
inductive Run (ds:List Deed) (H K:Nat):Nat->St->List Out->St->Prop
 | nil (h:Nat) (s:St):Run ds H K h s [] s
 | cons {h:Nat} {s s1 s2:St} {o:Out} {os:List Out}:still ds s=false->h < s.ws.length->(∃ bg b,StOk ds s bg b/\∀ i,b i<=K)->mv ds s h=some (o,s1)->Run ds H K ((h+1) % H) s1 os s2->Run ds H K h s (o::os) s2
theorem Run.append {H K h:Nat} {s s1 s2:St} {os o2:List Out} (r:Run ds H K h s os s1) (hh:h < H):Run ds H K ((h+os.length) % H) s1 o2 s2->Run ds H K h s (os++o2) s2:=by
  induction r with
  | nil h s=>intro q;rw [List.length_nil,Nat.add_zero,Nat.mod_eq_of_lt hh] at q;exact q
  | @cons h s s1 _ o os a a2 a3 c _ ih =>
    intro q
    refine .cons a a2 a3 c (ih (Nat.mod_lt _ (by omega)) ?_)
    rw [Nat.mod_add_mod,show h+1+os.length=h+(o::os).length by simp;omega]
    exact q
theorem turn {H K B:Nat} (hB:B+1<=K):∀ (k h:Nat) (s:St) (bg:Bg),h+k=H->s.ws.length=H->StOk ds s bg (fun i=>if i < h then B+1 else B) ->
    ∃ os s' bg',Run ds H K h s os s'/\os.length<=k/\s'.ws.length=H/\StOk ds s' bg' (fun _=>B+1)/\s.tk<=s'.tk/\(still ds s'=true∨(os.length=k/\(s.tk < s'.tk∨((∀ T,Lim s.S bg s.ws (fun i=>if i < h then T - 1 else T)->Lim s'.S bg' s'.ws (fun _=>T - 1))/\(0 < k->¬ (∃ w,s.ws[h]?=some w/\w.ended=true/\s.tk < ds.length))))))
  | 0,h,s,bg,e,l,Y=>⟨[],s,bg,.nil _ _,Nat.le_refl _,l,Y.mono fun i hi=>by rw [if_pos (by omega)];omega,Nat.le_refl _,.inr ⟨rfl,.inr ⟨fun T L i w hi hw=>by
      have:=L i w hi hw
      have li:=(List.getElem?_eq_some_iff.mp hi).1
      dsimp only at this ⊢
      rw [if_pos (by omega)] at this
      exact this,fun h=>absurd h (by omega)⟩⟩⟩
  | k+1,h,s,bg,e,l,Y=>by
    cases hs:still ds s with
    | true=>exact ⟨[],s,bg,.nil _ _,Nat.zero_le _,l,Y.anew hs _,Nat.le_refl _,.inl hs⟩
    | false =>
      obtain ⟨o,s1,bg1,e1,Y1,l1,t1,c1⟩:=kA Y (i:=h) (by omega)
      obtain ⟨os,s2,bg2,R,ln,l2,Y2,t2,c2⟩:=turn (H:=H) (B:=B) hB k (h+1) s1 bg1 (by omega) (by omega) (Y1.mono fun i _=>by
        unfold upB
        show (if i=h then (if h < h then B+1 else B)+1 else if i < h then B+1 else B)<=if i < h+1 then B+1 else B
        rw [if_neg (Nat.lt_irrefl h)]
        by_cases a:i=h
        . rw [if_pos a,if_pos (by omega)];omega
        . rw [if_neg a]
          by_cases c:i < h
          . rw [if_pos c,if_pos (by omega)];omega
          . rw [if_neg c,if_neg (by omega)];omega)
      have R':Run ds H K ((h+1) % H) s1 os s2:=by
        by_cases hk:k=0
        . have:os=[]:=by cases os with
            | nil=>rfl
            | cons _ _=>simp at ln;omega
          subst this
          cases R
          exact .nil _ _
        . rw [Nat.mod_eq_of_lt (by omega)];exact R
      refine ⟨o::os,s2,bg2,.cons hs (by omega) ⟨bg,_,Y,fun i=>by show (if i < h then B+1 else B)<=K;split<;>omega⟩ e1 R',by simp;omega,l2,Y2,Nat.le_trans t1 t2,?_⟩
      rcases c2 with c2 | ⟨c2,c3⟩
      . exact .inl c2
      . refine .inr ⟨by simp [c2],?_⟩
        rcases c1 with c1 | ⟨c1,c4⟩
        . exact .inl (by omega)
        . rcases c3 with c3 | ⟨c3,_⟩
          . exact .inl (by omega)
          . refine .inr ⟨fun T L=>c3 T fun i w hi hw=>?_,fun _ ⟨w,hw,he,ht⟩=>c4 ⟨?_,ht⟩⟩
            . have q:=c1 _ L i w hi hw
              unfold dnT at q
              dsimp only at q ⊢
              by_cases a:i=h
              . subst a
                rw [if_pos rfl,if_neg (Nat.lt_irrefl _)] at q
                rw [if_pos (Nat.lt_succ_self _)];exact q
              . rw [if_neg a] at q
                by_cases c:i < h
                . rw [if_pos c] at q;rw [if_pos (by omega)];exact q
                . rw [if_neg c] at q;rw [if_neg (by omega)];exact q
            . have:s.ws[h]=w:=by
                have hl:h < s.ws.length:=by omega
                rw [List.getElem?_eq_getElem hl] at hw
                exact Option.some.inj hw
              rw [this];exact he
theorem Qet {H K C:Nat} (hH:0 < H) (hC:2 * (2 * (1+ds.length))+3 * H+2<=C):∀ (M T B:Nat) (s:St) (bg:Bg),s.ws.length=H->StOk ds s bg (fun _=>B)->Lim s.S bg s.ws (fun _=>T)->(ds.length - s.tk) * (C+1)+T<=M->B+M+1<=K ->
    ∃ os s' bg',Run ds H K 0 s os s'/\still ds s'=true/\os.length<=H * M/\s'.ws.length=H/\StOk ds s' bg' (fun _=>0)
  | M,T,B,s,bg,l,Y,L,hM,hK=>by
    cases hs:still ds s with
    | true=>exact ⟨[],s,bg,.nil _ _,hs,Nat.zero_le _,l,Y.anew hs _⟩
    | false =>
      obtain ⟨os,s1,bg1,R,ln,l1,Y1,t1,c⟩:=turn (H:=H) (B:=B) (K:=K) (by omega) H 0 s bg (by omega) l (Y.mono fun i _=>by rw [if_neg (Nat.not_lt_zero _)];omega)
      have tk:=Y.tk
      have tk1:=Y1.tk
      have w0:s.tk < ds.length∨1<=T:=by
        by_cases a:s.tk < ds.length
        . exact .inl a
        . refine .inr (Nat.pos_of_ne_zero fun h0=>?_)
          have al:s.ws.all (·.ended)=true:=by
            rw [List.all_eq_true]
            intro w hw
            obtain ⟨i,hi⟩:=List.getElem?_of_mem hw
            cases he:w.ended with
            | true=>rfl
            | false =>
              have:=L.pos Y.T Y.K (Y.A.ok i w hi he) hi he
              omega
          unfold still at hs
          rw [al,Bool.and_true,decide_eq_false_iff_not] at hs
          exact hs (by omega)
      have M1:1<=M:=by
        rcases w0 with a | a
        . have:1 * (C+1)<=(ds.length - s.tk) * (C+1):=Nat.mul_le_mul_right _ (by omega)
          omega
        . omega
      rcases c with c | ⟨c,d⟩
      . refine ⟨os,s1,bg1,R,c,?_,l1,Y1.anew c _⟩
        have:H * 1<=H * M:=Nat.mul_le_mul_left _ M1
        omega
      . have go:∀ T',Lim s1.S bg1 s1.ws (fun _=>T')->(ds.length - s1.tk) * (C+1)+T'<=M - 1->∃ os s' bg',Run ds H K 0 s os s'/\still ds s'=true/\os.length<=H * M/\s'.ws.length=H/\StOk ds s' bg' (fun _=>0):=fun T' L' hM'=>by
          obtain ⟨o2,s2,bg2,R2,q2,n2,l2,Y2⟩:=Qet (K:=K) hH hC (M - 1) T' (B+1) s1 bg1 l1 Y1 L' hM' (by have:=M1;omega)
          refine ⟨os++o2,s2,bg2,R.append hH (by rw [Nat.zero_add,c,Nat.mod_self];exact R2),q2,?_,l2,Y2⟩
          have:H * M=H * (M - 1)+H:=by
            obtain ⟨m,rfl⟩:∃ m,M=m+1:=⟨M - 1,by omega⟩
            rw [Nat.add_sub_cancel,Nat.mul_succ]
          rw [List.length_append];omega
        rcases d with d | ⟨d,d2⟩
        . have pg:=Y1.pages
          refine go C (fun i w hi hw=>?_) ?_
          . have:=Lim.first Y1.T Y1.K Y1.T.levels s1.ws i w hi hw
            dsimp only at this ⊢
            rw [l1] at this
            omega
          . have e:(ds.length - s.tk) * (C+1)=(ds.length - s.tk - 1) * (C+1)+(C+1):=by
              obtain ⟨m,hm⟩:∃ m,ds.length - s.tk=m+1:=⟨ds.length - s.tk - 1,by omega⟩
              rw [hm,Nat.add_sub_cancel,Nat.succ_mul]
            have f:(ds.length - s1.tk) * (C+1)<=(ds.length - s.tk - 1) * (C+1):=Nat.mul_le_mul_right _ (by omega)
            omega
        . by_cases e:s1.tk=s.tk
          . have T1:1<=T:=by
              rcases w0 with a | a
              . refine Nat.pos_of_ne_zero fun h0=>?_
                have hl:0 < s.ws.length:=by omega
                cases he:s.ws[0].ended with
                | true=>exact d2 hH ⟨_,List.getElem?_eq_getElem hl,he,a⟩
                | false =>
                  have:=L.pos Y.T Y.K (Y.A.ok 0 _ (List.getElem?_eq_getElem hl) he) (List.getElem?_eq_getElem hl) he
                  omega
              . exact a
            refine go (T - 1) (d T (by simpa using L)) ?_
            rw [e];omega
          . have pg:=Y1.pages
            refine go C (fun i w hi hw=>?_) ?_
            . have:=Lim.first Y1.T Y1.K Y1.T.levels s1.ws i w hi hw
              dsimp only at this ⊢
              rw [l1] at this
              omega
            . have e:(ds.length - s.tk) * (C+1)=(ds.length - s.tk - 1) * (C+1)+(C+1):=by
                obtain ⟨m,hm⟩:∃ m,ds.length - s.tk=m+1:=⟨ds.length - s.tk - 1,by omega⟩
                rw [hm,Nat.add_sub_cancel,Nat.succ_mul]
              have f:(ds.length - s1.tk) * (C+1)<=(ds.length - s.tk - 1) * (C+1):=Nat.mul_le_mul_right _ (by omega)
              omega
  termination_by M=>M
end
end TR
namespace TR
def Deed.far:Deed->Bool
 | .stretch _ _=>true
 | _=>false
def Up (w:Wk):Prop:=0 < w.goal->w.deed.far=false
def Qe8 (w w':Wk):Row->Prop
 | .non=>False
 | .side _ _=>w'.ended=false/\w'.worth=w.worth/\w'.pairs=w.pairs/\w'.goal=w.goal
 | .down _ _=>w'.ended=false/\w'.worth=w.worth/\w'.pairs=w.pairs/\w'.goal=w.goal
 | .found _ x=>w.goal=0/\w'.ended=true/\w'.worth=x/\w.deed.far=false
 | .put _ x k=>w.goal=0/\w'.ended=k.isNone/\w'.worth=x/\w.deed.far=false/\(k.isSome=true->0 < w'.goal)
 | .cut _ x=>w.goal=0/\w'.ended=true/\w'.worth=x/\w.deed.far=false
 | .read _ ps t=>w.goal=0/\w'.ended=t.isNone/\w'.pairs=w.pairs++ps/\w.deed.far=true/\w'.goal=w.goal
 | .told _ k=>0 < w.goal/\w'.ended=k.isNone/\w'.worth=w.worth/\(k.isSome=true->0 < w'.goal)
 | .raised _ _=>0 < w.goal/\w'.ended=true/\w'.worth=w.worth
theorem yJ (S:Sh) (w:Wk) (n:Nat) (p:Pg) (he:w.ended=false):(Qx S w n p).2.2.ended=(Qx S w n p).1.isNone/\(Qx S w n p).2.2.worth=w.worth/\(Qx S w n p).2.2.deed=w.deed/\((Qx S w n p).1.isSome=true->0 < (Qx S w n p).2.2.goal):=by
 unfold Qx
 split
 ·exact ⟨rfl,rfl,rfl,fun h=>by cases h⟩
 ·exact ⟨he,rfl,rfl,fun _=>Nat.succ_pos _⟩
theorem jD {S S':Sh} {w w':Wk} {r:Row} (he:w.ended=false) (h:Jh S w=some (r,S',w')):Qe8 w w' r/\w'.deed=w.deed:=by
 unfold Jh at h
 rw [if_neg (by rw [he];simp)] at h
 split at h
 ·cases h
 ·rename_i p hp
  split at h
  ·rename_i hc
   split at h
   ·cases h
   ·cases h;exact ⟨⟨by omega,rfl,rfl⟩,rfl⟩
  ·split at h
   ·split at h
    ·cases h
    ·cases h;exact ⟨⟨he,rfl,rfl,rfl⟩,rfl⟩
   ·split at h
    ·split at h
     ·cases h
     ·cases h;exact ⟨⟨he,rfl,rfl,rfl⟩,rfl⟩
    ·split at h
     ·rename_i hg
      split at h
      ·cases h
      ·rename_i k hk
       have q:=yJ { S with rd:=S.rd+1 } w (w.place.getD S.top) (Zv p w.aim k) he
       cases h
       exact ⟨⟨hg,q.1,q.2.1,q.2.2.2⟩,q.2.2.1⟩
     ·rename_i hg
      have g0:w.goal=0:=by omega
      have e:=Option.some.inj h
      unfold Z7 at e
      split at e
      ·rename_i k hd
       cases e;exact ⟨⟨g0,rfl,rfl,by rw [hd];rfl⟩,rfl⟩
      ·rename_i k x hd
       have q:=yJ { S with rd:=S.rd+1 } { w with worth:=QY p w.aim } (w.place.getD S.top) (QX p w.aim x) he
       cases e
       exact ⟨⟨g0,q.1,q.2.1,by rw [hd];rfl,q.2.2.2⟩,q.2.2.1⟩
      ·rename_i k hd
       cases e;exact ⟨⟨g0,rfl,rfl,by rw [hd];rfl⟩,rfl⟩
      ·rename_i l hh hd
       split at e
       ·split at e
        ·cases e;exact ⟨⟨g0,rfl,rfl,by rw [hd];rfl,rfl⟩,rfl⟩
        ·cases e;exact ⟨⟨g0,he,rfl,by rw [hd];rfl,rfl⟩,rfl⟩
       ·cases e;exact ⟨⟨g0,rfl,rfl,by rw [hd];rfl,rfl⟩,rfl⟩
theorem Up.step {S S':Sh} {w w':Wk} {r:Row} (U:Up w) (he:w.ended=false) (h:Jh S w=some (r,S',w')):Up w':=by
 obtain ⟨t,d⟩:=jD he h
 intro g
 rw [d]
 cases r with
 | non=>exact t.elim
 | side _ _=>exact U (by rw [<- t.2.2.2];exact g)
 | down _ _=>exact U (by rw [<- t.2.2.2];exact g)
 | found _ _=>exact t.2.2.2
 | put _ _ _=>exact t.2.2.2.1
 | cut _ _=>exact t.2.2.2
 | read _ _ _=>exact absurd g (by rw [t.2.2.2.2,t.1];exact Nat.lt_irrefl 0)
 | told _ _=>exact U t.1
 | raised _ _=>exact U t.1
theorem Up.fresh (d:Deed):Up (fresh d):=fun h=>absurd h (Nat.lt_irrefl 0)
end TR
namespace D
open PySem PySem.Spec PyProof.Rows L2
section
variable {prog:Program} {w:World} {A:Around} {E:Value->Shared->Prop} {s:Shared}
end
section
variable {prog:Program} {w:World} {K:Type} [DecidableEq K] {knd:KeyKind prog w K} {A:Around} {R:Result->Shared->Prop}
end
section
variable {prog:Program} {w:World} {K:Type} [DecidableEq K] {knd:KeyKind prog w K} {A:Around} {E:Value->Shared->Prop} {s:Shared}
end
section
variable {X:Cx}
def lsG:DV->M (List DV)
  | .lst ds=>pure ds
  | .ref n=>do
    match <- ZG n with
    | .lst ds=>pure ds
    | _=>failure
  | _=>failure
theorem j9 {d:DV} {ds:List DV} {hp hp':Hs} {K:PySem.W.Frag} {ρ:List Addr} {B:Addr->Prop} {H:Hp} {v:V} (W:WOk K ρ B hp H) (r:RepV K ρ B H d v) (h:lsG d hp=some (ds,hp')):hp=hp'/\∃ p xs,v=.ref p/\SqL K H p xs/\RepL K ρ B H ds xs:=by
  cases d with
  | lst xs =>
    obtain ⟨rfl,rfl⟩:=Qi h
    obtain ⟨a,ys,rfl,_,sq,l⟩:=r.lstI
    exact ⟨rfl,a,ys,rfl,sq,l⟩
  | ref n =>
    obtain ⟨o,hp1,e1,e2⟩:=Qf (show (ZG n >>= fun o=>(match o with | .lst ds=>pure ds | _=>failure:M (List DV))) hp=some (ds,hp') from h)
    obtain ⟨e3,rfl⟩:=ZC e1
    cases o with
    | lst zs =>
      obtain ⟨rfl,rfl⟩:=Qi e2
      obtain ⟨a,rfl,_,ys,h1,l1⟩:=RepV.refW W r e3
      exact ⟨rfl,a,ys,rfl,SqL.of h1,l1⟩
    | dic _=>cases e2
    | ins _ _=>cases e2
  | non=>cases h
  | bl _=>cases h
  | int _=>cases h
  | str _=>cases h
  | tup _=>cases h
def opM (o:Option α):M α:=match o with
 | some a=>pure a
 | none=>failure
theorem Qch {o:Option α} {a:α} {hp hp':Hs} (h:opM o hp=some (a,hp')):o=some a/\hp=hp':=by
 cases o with
 | none=>cases h
 | some z=>obtain ⟨rfl,rfl⟩:=Qi h;exact ⟨rfl,rfl⟩
end
end D
namespace D
open PySem PySem.Spec PyProof.Rows L2
def blM:List DV->Option (List Bool)
 | []=>some []
 | .bl b::r=>(blM r).map (b :: ·)
 | _=>none
def QgK:List DV->M DV:=QaO fun d=>do
 let ds <- lsG d
 let bs <- opM (blM ds)
 pure (.bl (bs.all id))
section
variable {prog:Program} {w:World} {A:Around} {E:Value->Shared->Prop} {s:Shared}
theorem QaY (bs:List Bool):(List.range bs.length).all (fun i=>bs.getD i false)=bs.all id:=by
  induction bs with
  | nil=>rfl
  | cons b bs ih =>
    rw [List.length_cons,List.range_succ_eq_map,List.all_cons,List.all_map,List.all_cons,<- ih]
    rfl
theorem Uw {l:Addr} {items:Array Value} {bs:List Bool} {Q:Value->Shared->Prop} (hh:A.handled=none) (hl:s.heap.IsList l items) (hlen:items.size=bs.length) (hb:∀ (i:Nat) (v:Value),items[i]?=some v->v=.bool (bs.getD i false))
  (h:∀ h' tk,(∀ b o,s.heap.get? b=some o->h'.get? b=some o)->Q (.bool (bs.all id)) { s with heap:=h',toks:=tk }):wpAny (model prog w) A (call (.builtin "all") [.ref l]) Q E s:=by
 refine call_all_walk (wpAny_pyIter_list hl ?_)
 have hne:l≠s.heap.objs.size:=fun e=>by
  obtain ⟨o,ho,_⟩:=hl
  exact Nat.lt_irrefl _ (e▸Heap.lt_size ho)
 refine ⟨s.heap.objs.size,_,_,_,_,_,fun i=>bs.getD i false,rfl,Walks.list (by exact hh) s.heap.objs.size l hne items,?_,fun i v s' Q' E' hP hQ=>?_,fun h' tk hk=>?_⟩
 ·exact ⟨⟨_,Heap.get?_push_size _ rfl,rfl,rfl⟩,hl.push _⟩
 ·have:v=.bool (bs.getD i false):=hb i v hP
  subst this
  exact wpAny_pure hQ
 ·rw [hlen,QaY]
  refine h h' tk fun b o e=>hk b o (fun z=>?_) (Heap.get?_push_of_some _ e)
  have:b=s.heap.objs.size:=by simpa using z
  exact Nat.lt_irrefl _ (this▸Heap.lt_size e)
end
section
variable {X:Cx}
theorem Qdl {K:PySem.W.Frag} {ρ:List Addr} {B:Addr->Prop} {H:Hp}:∀ {ds:List DV} {bs:List Bool} {ys:List V} {its:List Value},blM ds=some bs->RepL K ρ B H ds ys->Vals ys its->its.length=bs.length/\∀ (i:Nat) (v:Value),its[i]?=some v->v=.bool (bs.getD i false):=by
  intro ds
  induction ds with
  | nil =>
    intro bs ys its h r v
    cases h
    unfold RepL at r;subst r
    cases v
    exact ⟨rfl,fun i v h=>by simp at h⟩
  | cons d ds ih =>
    intro bs ys its h r v
    unfold RepL at r
    obtain ⟨y,ys',rfl,r1,r2⟩:=r
    cases v with
    | @cons _ u _ us v1 v2 =>
    cases d<;>first | (simp [blM] at h;done) | skip
    rename_i b
    have h:(blM ds).map (b :: ·)=some bs:=h
    obtain ⟨bs',h1,rfl⟩:=Option.map_eq_some_iff.mp h
    obtain ⟨a1,a2⟩:=ih h1 r2 v2
    unfold RepV at r1
    subst r1
    cases v1
    refine ⟨by simp [a1],fun i v hv=>?_⟩
    cases i with
    | zero=>cases hv;rfl
    | succ i=>exact a2 i v hv
theorem QgQ (hc:X.calm=true):CallR X (.builtin "all") (tPn X.K QgK):=by
 intro pins s σ H xs us Q I r h
 obtain ⟨ρ,B,hp,ds,d,hp',W,rl,e,k⟩:=h
 obtain ⟨x,rfl,e⟩:=zT e
 obtain ⟨zs,hp1,e1,e2⟩:=Qf e
 obtain ⟨bs,hp2,e3,e4⟩:=Qf e2
 obtain ⟨e5,rfl⟩:=Qch e3
 obtain ⟨rfl,rfl⟩:=Qi e4
 obtain ⟨v,rfl,rv⟩:=rl.oneI
 obtain ⟨rfl,p,ys,rfl,sq,l⟩:=j9 W rv e1
 obtain ⟨u,rfl,rx⟩:=Ui r
 cases rx
 obtain ⟨its,r',pl,hz⟩:=I.list sq
 obtain ⟨a1,a2⟩:=Qdl e5 l r'
 refine Uw (bs:=bs) (I.ok.hd hc) pl.isList (by simpa using a1) (fun i v h=>a2 i v (by simpa using h)) fun h' tk kp=>?_
 exact ⟨.bl (bs.all id),H,I.kept (t':=tk) kp,rfl,k _ ρ B H Gr.refl W (by unfold RepV;rfl)⟩
end
end D
namespace D
open PySem PySem.Spec PyProof.Rows L2
structure UF (K:PySem.W.Frag) (mg:Str->Option Value) (x:Str) (st:Stmt):Prop where
 ex:∃ g fd,Fun K x x st g fd/\mg x=some (.ref g)
structure UC (K:PySem.W.Frag) (c:Str):Prop where
 ex:∀ C,ClsN K c C->Cls K C
structure UM (K:PySem.W.Frag) (c m q:Str) (st:Stmt):Prop where
 ex:∃ C g fd,Fun K m q st g fd/\ClsN K c C/\Cls K C/\ud K C m g
structure UI (K:PySem.W.Frag) (mg:Str->Option Value) (c q:Str) (st:Stmt):Prop where
 ex:∃ C g fd,Fun K "__init__" q st g fd/\ClsN K c C/\mg c=some (.ref C)/\Mk K C g
structure UG (mg:Str->Option Value) (x:Str) (i:Int):Prop where
 ex:∃ t,mg x=some (.int i t)
structure UT (K:PySem.W.Frag) (mg:Str->Option Value) (x:Str) (d:DV):Prop where
 ex:∃ a,mg x=some (.ref a)/\KRep K d (.ref a)
section
variable {K:PySem.W.Frag} {h:Heap} {mg:Str->Option Value} {f C:Addr} {x c m q:Str} {st:Stmt} {oc:Value} {od an:Option Addr} {osl:Array (Option Value)} {kV doc pm cdv ct:Value} {i:Int} {t:Tok} {d:DV} {a:Addr}
theorem uf (X:K.In h) (G:h.Ns mainGlobals mg) (n:PySem.W.nsIn K mainGlobals x=some (some (.ref f))) (l:K.lookup f=some ⟨oc,od,.func (PySem.W.fnOf x x (Jy st) (ZF st) (Qo st) .none kV doc pm an cdv ct),osl⟩) (e:PySem.W.codeIn K cdv x=true) (k:PySem.W.keepIn K (.ref f)=true):UF K mg x st:=⟨_,_,Ga l e k,PySem.W.mg_of X G n⟩
theorem uc (X:K.In h) (n:PySem.W.nsIn K mainGlobals c=some (some (.ref C))) (p:PySem.W.plainGet K C Str.empty=true) (e:PySem.W.hasDictIn K C=true) (o:PySem.W.plainOver K C=true) (s:PySem.W.findIn K (.ref C) "__setattr__" = some (some (.builtin "object.__setattr__"))):UC K c:=⟨fun C' n'=>by cases ClsN.uniq (show ClsN K c C from n) n';exact ⟨p,e,o,s⟩⟩
theorem um (X:K.In h) (u:UC K c) (n:PySem.W.nsIn K mainGlobals c=some (some (.ref C))) (a:PySem.W.findIn K (.ref C) m=some (some (.ref f))) (b:PySem.W.isFn K (.ref f)=true) (l:K.lookup f=some ⟨oc,od,.func (PySem.W.fnOf m q (Jy st) (ZF st) (Qo st) .none kV doc pm an cdv ct),osl⟩) (e:PySem.W.codeIn K cdv q=true) (k:PySem.W.keepIn K (.ref f)=true):UM K c m q st:=⟨_,_,_,Ga l e k,n,u.ex _ n,a,b,k⟩
theorem ui (X:K.In h) (G:h.Ns mainGlobals mg) (n:PySem.W.nsIn K mainGlobals c=some (some (.ref C))) (a:PySem.W.findIn K (.ref C) "__init__" = some (some (.ref f))) (b:PySem.W.isFn K (.ref f)=true) (l:K.lookup f=some ⟨oc,od,.func (PySem.W.fnOf "__init__" q (Jy st) (ZF st) (Qo st) .none kV doc pm an cdv ct),osl⟩) (e:PySem.W.codeIn K cdv q=true) (k:PySem.W.keepIn K (.ref f)=true) (v:PySem.W.makesIn K C=true) (z:PySem.W.keepIn K (.ref C)=true):UI K mg c q st:=⟨_,_,_,Ga l e k,n,PySem.W.mg_of X G n,v,a,b,z⟩
theorem uk (X:K.In h) (u:UC K c) (n:PySem.W.nsIn K mainGlobals c=some (some (.ref C))) (a:PySem.W.findIn K (.ref C) x=some none):X3 K c x:=⟨C,n,u.ex _ n,a⟩
theorem ug (X:K.In h) (G:h.Ns mainGlobals mg) (n:PySem.W.nsIn K mainGlobals x=some (some (.int i t))):UG mg x i:=⟨_,PySem.W.mg_of X G n⟩
theorem ut (X:K.In h) (G:h.Ns mainGlobals mg) (n:PySem.W.nsIn K mainGlobals x=some (some (.ref a))) (r:KRep K d (.ref a)):UT K mg x d:=⟨_,PySem.W.mg_of X G n,r⟩
theorem Za {N ps:List Str} {s:Scope} (h:(s.kind==.function&&!s.isCoroutine&&!s.isGenerator&&decide N.Nodup&&decide (N.take ps.length=ps)&&ps.all (fun x=>decide (s.names.lookup x=some .local)||decide (s.names.lookup x=some .cell))&&s.names.all fun y=>decide (y.2≠.free))=true):Qs N ps s:=by
 simp only [Bool.and_eq_true,Bool.not_eq_true',decide_eq_true_eq,List.all_eq_true,Bool.or_eq_true] at h
 obtain ⟨⟨⟨⟨⟨⟨a,b⟩,c⟩,d⟩,e⟩,f⟩,g⟩:=h
 refine ⟨?_,b,c,d,e,f,fun y hy=>by have:=g y hy;simpa using this⟩
 revert a;cases s.kind<;>first | (intro _;rfl) | (intro z;exact absurd z (by decide))
end
section
variable {P:Program} {w:World} {K:PySem.W.Frag} {mg:Str->Option Value} {base:Heap} {x c m q:Str} {st:Stmt} {N ps:List Str} {k:Nat} {body:DSx}
def Bn (ps:List Str) (x q:Str) (st:Stmt):Prop:=∀ (kV doc pm:Value) (an:Option Addr) (cdv ct:Value) (us:List Value),us.length=ps.length->bindArgs (PySem.W.fnOf x q (Jy st) (ZF st) (Qo st) .none kV doc pm an cdv ct) ⟨us,[]⟩=pure (ps.zip us)
def Bd (P:Program) (w:World) (K:PySem.W.Frag) (mg:Str->Option Value) (base:Heap) (N:List Str) (k:Nat) (q:Str) (st:Stmt) (body:DSx):Prop:=∀ (g:Addr) (cdv:Value) (A:Around) (outer:List Env) (s:Shared) (H:Hp) (E:XK),Room k (A.deeper (envOfC q (Qo st) s.heap.objs.size g cdv))->DSs (yR CX0 P w K mg base N q (Qo st) g cdv A outer s H E).nox (ZF st) body
theorem hf (u:UF K mg x st) (Sc:Qs N ps (Qo st)) (h:Bd P w K mg base N k x st body) (hb:Bn ps x x st:=by intro _ _ _ _ _ _ us hl;rcases us with _ | ⟨_,_ | ⟨_,_ | ⟨_,_ | ⟨_,_ | ⟨_,_ | ⟨_,_⟩⟩⟩⟩⟩⟩<;>first | rfl | cases hl):Has P w K mg base x (k+1) ps.length (Q5 N.length body):=let ⟨_,_,F,hm⟩:=u.ex;Qfs F Sc hm hb (h _)
theorem hM (u:UM K c m q st) (Sc:Qs N ps (Qo st)) (h:Bd P w K mg base N k q st body) (hb:Bn ps m q st:=by intro _ _ _ _ _ _ us hl;rcases us with _ | ⟨_,_ | ⟨_,_ | ⟨_,_ | ⟨_,_ | ⟨_,_ | ⟨_,_⟩⟩⟩⟩⟩⟩<;>first | rfl | cases hl):J7 P w K mg base c m (k+1) ps.length (Q5 N.length body):=let ⟨_,_,_,F,nc,cl,me⟩:=u.ex;Qb8 nc cl me F Sc hb (h _)
theorem hI (u:UI K mg c q st) (Sc:Qs N ps (Qo st)) (h:Bd P w K mg base N k q st body) (hb:Bn ps "__init__" q st:=by intro _ _ _ _ _ _ us hl;rcases us with _ | ⟨_,_ | ⟨_,_ | ⟨_,_ | ⟨_,_ | ⟨_,_ | ⟨_,_⟩⟩⟩⟩⟩⟩<;>first | rfl | cases hl):Qab P w K mg base c (k+1) ps.length (Q5 N.length body):=let ⟨_,_,_,F,nc,hm,me⟩:=u.ex;QbQ nc hm me F Sc hb (h _)
end
end D
namespace L2
open PySem PySem.Spec PyProof.Rows
def Qbb (K:PySem.W.Frag) (a b:Addr):It :=
  ⟨fun i H=>∃ xs ys x y,SqL K H a xs/\SqL K H b ys/\xs[i]?=some x/\ys[i]?=some y,
   fun i H v H'=>∃ p x y,H p=none/\(∀ xs,SqL K H a xs->xs[i]?=some x)/\(∀ ys,SqL K H b ys->ys[i]?=some y)/\v=.ref p/\H'=upd H p (.tup [x,y]),
   fun i H=>∃ xs ys,SqL K H a xs/\SqL K H b ys/\(xs.length<=i∨ys.length<=i)⟩
structure ZL (h:Heap) (z p o i j a b:Addr) (n:Nat) (f:Value):Prop where
 zz:IsZip h z p o f
 pp:IsPair h p (.ref i) (.ref j)
 oo:∃ x y,IsPair h o x y
 ii:h.IsListIter i a n
 jj:h.IsListIter j b n
theorem ZL.at {h h':Heap} {z p o i j a b:Addr} {n:Nat} {f:Value} (S:ZL h z p o i j a b n f) (k:∀ c∈[z,p,o,i,j],∀ u,h.get? c=some u->h'.get? c=some u):ZL h' z p o i j a b n f:=by
 obtain ⟨zz,pp,⟨u1,u2,oo⟩,ii,jj⟩:=S
 exact ⟨k z (by simp) _ zz,k p (by simp) _ pp,⟨u1,u2,k o (by simp) _ oo⟩,ii.at fun u e=>k i (by simp) u e,jj.at fun u e=>k j (by simp) u e⟩
theorem Qa7 {P:Program} {w:World} {K:PySem.W.Frag} {elts:List Expr} {kt:Nat} {pos:Pos} {z p o i j a b:Addr} (D:ZipApart z p o i j a b):Qad P w K (.Tuple elts kt pos) (Qbb K a b) [z,p,o,i,j] z (fun n h=>ZL h z p o i j a b n .none) where
 mem:=by simp
 obj:=fun n h S c hc=>by
  obtain ⟨zz,pp,⟨u1,u2,oo⟩,⟨oi,ei,ci,di⟩,⟨oj,ej,cj,dj⟩⟩:=S
  simp only [List.mem_cons,List.not_mem_nil,or_false] at hc
  rcases hc with rfl | rfl | rfl | rfl | rfl
  ·exact ⟨_,zz,fun v q=>by have q':Data.fields _=Data.cell v:=q;cases q'⟩
  ·exact ⟨_,pp,fun v q=>by have q':Data.seq _ _=Data.cell v:=q;cases q'⟩
  ·exact ⟨_,oo,fun v q=>by have q':Data.seq _ _=Data.cell v:=q;cases q'⟩
  ·exact ⟨oi,ei,fun v q=>by rw [di] at q;cases q⟩
  ·exact ⟨oj,ej,fun v q=>by rw [dj] at q;cases q⟩
 keep:=fun n h h' S k=>S.at k
 item:=by
  intro X hP hw hK hc n pins s σ H E I hf S hg
  subst hP hw hK
  obtain ⟨xs,ys,x,y,qa,qb,hx,hy⟩:=hg
  obtain ⟨ia,ra,pa,_⟩:=I.list qa
  obtain ⟨ib,rb,pb,_⟩:=I.list qb
  obtain ⟨u,hu,ru⟩:=ra.get hx
  obtain ⟨v,hv,rv⟩:=rb.get hy
  obtain ⟨zz,pp,⟨u1,u2,oo⟩,ii,jj⟩:=id S
  have hT:s.TypeIs (.ref z) "zip" := ⟨_,zz,rfl⟩
  unfold pyNext
  refine wpAny_bind (wpAny_attempt (wpAny_callSpecial?_slot (name:=Str.ofString "__next__") hT F.slot_zip_next (wpAny_call_entry F.slot_zip_next hT F.entry_zip_next
   (zip_next_item D zz pp oo ii jj pa.isList pb.isList (by simpa using hu) (by simpa using hv) fun g zz' oo' ii' jj' tp sz kp=>wpAny_pure ?_) (F.args_zip_next_1 _))))
  refine ⟨_,rfl,wpAny_letOwnedTupleGo_zip zz' fun g' z' sb=>?_⟩
  have kp':∀ c q,c∉[z,p,o,i,j]->s.heap.get? c=some q->g'.get? c=some q:=fun c q hc e=>by
   simp only [List.mem_cons,List.not_mem_nil,or_false,not_or] at hc
   exact sb.extBut _ _ hc.1 (kp c q hc.1 hc.2.2.1 hc.2.2.2.1 hc.2.2.2.2 e)
  have zl:z < s.heap.objs.size:=Heap.lt_size zz
  have tp':IsPair g' s.heap.objs.size u v:=sb.extBut _ _ (Nat.ne_of_gt zl) tp
  have ne:∀ c∈[z,p,o,i,j],c≠s.heap.objs.size:=fun c hc e=>by
   obtain ⟨zz,pp,⟨u1,u2,oo⟩,⟨oi,ei,_⟩,⟨oj,ej,_⟩⟩:=S
   simp only [List.mem_cons,List.not_mem_nil,or_false] at hc
   rcases hc with rfl | rfl | rfl | rfl | rfl
   ·exact Nat.ne_of_lt (Heap.lt_size zz) e
   ·exact Nat.ne_of_lt (Heap.lt_size pp) e
   ·exact Nat.ne_of_lt (Heap.lt_size oo) e
   ·exact Nat.ne_of_lt (Heap.lt_size ei) e
   ·exact Nat.ne_of_lt (Heap.lt_size ej) e
  refine ⟨.ref s.heap.objs.size,upd H s.heap.objs.size (.tup [x,y]),I.turnNew (t':=s.toks) hf kp' (us:=[u,v]) (.cons ru (.cons rv .nil)) (show 2<=sizeLine by decide) ⟨_,tp',rfl,_,rfl⟩,rfl,
   ⟨_,x,y,I.hok.fresh (Nat.le_refl _),fun xs' h=>by rw [I.list_inj h qa];exact hx,fun ys' h=>by rw [I.list_inj h qb];exact hy,rfl,rfl⟩,?_,fun c hc=>?_⟩
  ·exact ⟨z',sb.extBut _ _ D.TIz (kp _ _ D.TIz D.TITO D.TIi1 D.TIi2 pp),⟨_,_,sb.extBut _ _ D.TOz oo'⟩,ii'.extBut sb.extBut D.i1z,jj'.extBut sb.extBut D.i2z⟩
  ·rw [Q4 (ne c hc)];exact (hf c hc).1
 done:=by
  intro X hP hw hK hc n pins s σ H E I hf S hg
  subst hP hw hK
  obtain ⟨xs,ys,qa,qb,hs⟩:=hg
  obtain ⟨ia,ra,pa,_⟩:=I.list qa
  obtain ⟨ib,rb,pb,_⟩:=I.list qb
  have l1:=ra.length
  have l2:=rb.length
  obtain ⟨zz,pp,⟨u1,u2,oo⟩,ii,jj⟩:=S
  have hT:s.TypeIs (.ref z) "zip" := ⟨_,zz,rfl⟩
  unfold pyNext
  refine wpAny_bind (wpAny_attempt (wpAny_callSpecial?_slot (name:=Str.ofString "__next__") hT F.slot_zip_next (wpAny_call_entry F.slot_zip_next hT F.entry_zip_next
   (zip_next_end (I.ok.hd hc) D zz pp oo ii jj pa.isList pb.isList (by rcases hs with q | q;exact .inl (by simp;omega);exact .inr (by simp;omega)) fun g x kp hx=>?_) (F.args_zip_next_1 _))))
  obtain ⟨ox,h1,h2⟩:=hx
  refine wpAny_bind (wpAny_isInstance (T := "StopIteration") (b:=true) ⟨ox,h1,h2⟩ isSubtype_stop ?_)
  refine wpAny_pure ⟨rfl,I.turnL (t':=s.toks) hf fun c q hc e=>?_⟩
  simp only [List.mem_cons,List.not_mem_nil,or_false,not_or] at hc
  exact kp c q hc.1 hc.2.2.1 hc.2.2.2.1 hc.2.2.2.2 e
 self:=fun _ _ _ _ _ S h=>wpAny_pyIter_zip S.zz h
section
variable {X:Cx} {elts:List Expr} {kt:Nat} {p2:Pos}
theorem QeK {pins:List (Addr×Obj)} {σ:L2.St} {H:Hp} {s:Shared} {R:It->Hp->Prop} {E:Value->Shared->Prop} {a b:Addr} {xs ys:List V} (I:Inv X pins σ H s) (qa:SqL X.K H a xs) (qb:SqL X.K H b ys) (q:R (Qbb X.K a b) H) :
  wpAny (model X.prog X.w) X.A (call (.type "zip") [.ref a,.ref b]) (fun v s1=>wpAny (model X.prog X.w) X.A (pyIter v) (PIE X pins σ (.Tuple elts kt p2) R) E s1) E s:=by
 obtain ⟨ia,ra,pa,_⟩:=I.list qa
 obtain ⟨ib,rb,pb,_⟩:=I.list qb
 have la:a < s.heap.objs.size:=by obtain ⟨o,_,e,_⟩:=pa;exact Heap.lt_size e
 have lb:b < s.heap.objs.size:=by obtain ⟨o,_,e,_⟩:=pb;exact Heap.lt_size e
 refine call_zip_2 pa.isList pb.isList fun h' hz hTI hTO hi1 hi2 _ hk=>?_
 have I1:Inv X pins σ H { s with heap:=h' }:=I.kept (t':=s.toks) hk
 refine wpAny_pyIter_zip (s:={ s with heap:=h' }) hz ⟨_,[s.heap.objs.size+4,s.heap.objs.size+2,s.heap.objs.size+3,s.heap.objs.size,s.heap.objs.size+1],_,Qbb X.K a b,H,rfl,I1,Qa7 (zipApart_new la lb),⟨hz,hTI,⟨_,_,hTO⟩,hi1,hi2⟩,fun c hc=>?_,q⟩
 have hc':s.heap.objs.size<=c:=by
  simp only [List.mem_cons,List.not_mem_nil,or_false] at hc
  rcases hc with rfl | rfl | rfl | rfl | rfl<;>first | exact Nat.le_refl _ | exact Nat.le_add_right _ _
 exact I.fpOk hc' (I.hok.fresh hc')
theorem Qd7 {x y:Expr} {ta:TA} {p pos:Pos} (hg:Gl X "zip") (hm:X.mg "zip" = none) (ha:PA X [x,y] ta) (hs:starEach [x,y] X.env=[(false,eval x X.env),(false,eval y X.env)]:=by rfl) (hs2:starEach [y] X.env=[(false,eval y X.env)]:=by rfl) :
    PI X (.Tuple elts kt p2) (.Call (.Name "zip" p) [x,y] [] pos) (fun σ H R=>ta σ H fun vs H1=>∃ a b,vs=[.ref a,.ref b]/\((∃ xs ys,SqT X.K H1 a xs/\SqT X.K H1 b ys/\R (Itz X.K a b) H1)∨∃ xs ys,SqL X.K H1 a xs/\SqL X.K H1 b ys/\R (Qbb X.K a b) H1)):=by
  intro pins s σ H R I h
  refine Call_ (yb I hg hm boot_zip (PyProof.Rows.callWith_type1 (thn (ha pos pins s σ H _ I h) fun us s1 z=>?_) (by rw [hs,hs2]) (by rw [hs2];rfl)))
  obtain ⟨vs,H1,I1,r1,a,b,e,q1⟩:=z
  subst e
  cases r1 with
  | cons r rr =>
    cases rr with
    | cons r' rr =>
      cases rr
      cases r
      cases r'
      rcases q1 with ⟨xs,ys,qa,qb,q⟩ | ⟨xs,ys,qa,qb,q⟩
      . exact kY (.tp ..) I1 qa qb q
      . exact QeK I1 qa qb q
end
end L2
namespace D
open PySem PySem.Spec PyProof.Rows L2
def nxZ (x y:DV):NX:=fun i=>do
 let xs <- lsG x
 let ys <- lsG y
 pure (Xp (xs.drop i) (ys.drop i)).head?
def Qdc (f g:DEx):DXx:=fun env=>do
  let x <- f env
  let y <- g env
  match x,y with
  | .tup xs,.tup ys=>pure (nxD (Xp xs ys))
  | x,y=>do
    let _ <- lsG x
    let _ <- lsG y
    pure (nxZ x y)
theorem QfK {K:PySem.W.Frag} {ρ:List Addr} {B:Addr->Prop} {H:Hp} {x y:DV} {a b:Addr} (ra:RepV K ρ B H x (.ref a)) (rb:RepV K ρ B H y (.ref b)):gA K ρ B H (nxZ x y) (Qbb K a b):=fun ρ1 B1 hp1 H1 g W i o hp2 e=>by
 obtain ⟨xs,hp3,e1,e⟩:=Qf e
 obtain ⟨ys,hp4,e2,e⟩:=Qf e
 obtain ⟨rfl,rfl⟩:=Qi e
 obtain ⟨rfl,a',us,q1,sa,la⟩:=j9 W (RepV.gs g _ _ ra) e1
 obtain ⟨rfl,b',vs,q2,sb,lb⟩:=j9 W (RepV.gs g _ _ rb) e2
 cases q1;cases q2
 refine ⟨rfl,?_⟩
 by_cases h1:i < xs.length
 ·by_cases h2:i < ys.length
  ·rw [List.drop_eq_getElem_cons h1,List.drop_eq_getElem_cons h2]
   obtain ⟨u,hu,ru⟩:=la.get (List.getElem?_eq_getElem h1)
   obtain ⟨v,hv,rv⟩:=lb.get (List.getElem?_eq_getElem h2)
   refine ⟨⟨us,vs,u,v,sa,sb,hu,hv⟩,fun z H' q=>?_⟩
   obtain ⟨p,u',v',hn,h3,h4,e1,e2⟩:=q
   subst e1 e2
   have e3:=h3 us sa
   have e4:=h4 vs sb
   rw [hu] at e3;cases e3
   rw [hv] at e4;cases e4
   exact ⟨qM (fun z=>W.bt p z hn) (SqT.of Zm) (RepL.gs (gw W.rb hn) _ _ (RepL.cons ru (RepL.one rv))),.inr ⟨p,_,hn,rfl⟩⟩
  ·rw [List.drop_eq_nil_of_le (Nat.le_of_not_lt h2),List.drop_eq_getElem_cons h1]
   exact ⟨us,vs,sa,sb,.inr (by rw [<- lb.length];exact Nat.le_of_not_lt h2)⟩
 ·rw [List.drop_eq_nil_of_le (Nat.le_of_not_lt h1)]
  exact ⟨us,vs,sa,sb,.inl (by rw [<- la.length];exact Nat.le_of_not_lt h1)⟩
section
variable {X:Cx} {elts:List Expr} {kt:Nat} {p2:Pos} {f g:DEx}
theorem Qfm {x y:Expr} {p pos:Pos} (hg:Gl X "zip") (hm:X.mg "zip" = none) (hx:DE X x f) (hy:DE X y g) (hs:starEach [x,y] X.env=[(false,eval x X.env),(false,eval y X.env)]:=by rfl) (hs2:starEach [y] X.env=[(false,eval y X.env)]:=by rfl) :
  DX X (.Tuple elts kt p2) (.Call (.Name "zip" p) [x,y] [] pos) (Qdc f g) :=
 L2.PI.imp (Qd7 hg hm (X9 hx (X9 hy pa_nil (by rw [hs2];rfl)) (by rw [hs,hs2])) hs hs2) fun σ H R zz=>by
  obtain ⟨Z,env,ρ,B,hp,nxt,hp',S,e,k⟩:=zz
  obtain ⟨d1,hp1,e1,e⟩:=Qf e
  obtain ⟨d2,hp3,e3,e⟩:=Qf e
  refine tD.run S e1 fun v ρ1 B1 H1 g1 S1 r1=>tD.run S1 e3 fun u ρ2 B2 H2 g2 S2 r2=>?_
  have r1:=RepV.grow S1.wo.rb g2 _ _ r1
  have G:=g1.trans g2
  have tt:(∃ xs ys,d1=.tup xs/\d2=.tup ys/\nxt=nxD (Xp xs ys)/\hp'=hp3)∨(do let _ <- lsG d1;let _ <- lsG d2;pure (nxZ d1 d2):M NX) hp3=some (nxt,hp'):=by
   cases d1<;>first
    | exact .inr e
    | (cases d2<;>first
      | exact .inr e
      | (obtain ⟨rfl,rfl⟩:=Qi e;exact .inl ⟨_,_,rfl,rfl,rfl,rfl⟩))
  rcases tt with ⟨xs,ys,rfl,rfl,rfl,rfl⟩ | e
  ·obtain ⟨a,vs,rfl,na,qa,la⟩:=r1.tupI
   obtain ⟨b,us,rfl,nb,qb,lb⟩:=r2.tupI
   exact ⟨a,b,rfl,.inl ⟨vs,us,qa,qb,k _ ρ2 B2 H2 G S2.wo (uO (QbU na qa la nb qb lb))⟩⟩
  ·obtain ⟨xs,hp4,e4,e⟩:=Qf e
   obtain ⟨ys,hp5,e5,e⟩:=Qf e
   obtain ⟨rfl,rfl⟩:=Qi e
   obtain ⟨rfl,a,us,rfl,sa,la⟩:=j9 S2.wo r1 e4
   obtain ⟨rfl,b,vs,rfl,sb,lb⟩:=j9 S2.wo r2 e5
   exact ⟨a,b,rfl,.inr ⟨us,vs,sa,sb,k _ ρ2 B2 H2 G S2.wo (QfK r1 r2)⟩⟩
end
section
variable {X:Cx} {e:Expr} {f:DEx} {pos:Pos}
end
end D
namespace D
open PySem PySem.Spec PyProof.Rows L2
section
variable {X:Cx}
def Qcc:DV->DV->M DV
 | .lst [d],.int n=>do Qv (decide (0<=n/\n.toNat<=100000));Xf (.lst (List.replicate n.toNat d))
 | _,_=>failure
theorem QfU:P2 X (binaryOp .Mult) Qcc:=by
 intro pins s σ H x y v u Q I rx ry h
 obtain ⟨ρ,B,hp,dx,dy,d,hp',W,r1,r2,e,k⟩:=h
 unfold Qcc at e
 split at e
 ·rename_i d0 n
  obtain ⟨_,hp1,e1,e2⟩:=Qf e
  obtain ⟨hs,rfl⟩:=QC e1
  cases e2
  obtain ⟨h0,h1⟩:=of_decide_eq_true hs
  obtain ⟨l,vs,rfl,nb,sq,rl⟩:=r1.lstI
  obtain ⟨z,rfl,rz⟩:=rl.oneI
  refine thn (Qeo pins s σ H _ _ v u (fun v H'=>GQ X.K H'->Q v H') I rx ry ⟨l,z,n,rfl,r2.intI,sq,h0,h1,K9 W (vI rz _) k⟩) fun v s' z=>?_
  obtain ⟨x,H',I',rx',q'⟩:=z
  exact ⟨x,H',I',rx',q' (Inv.kfree I')⟩
 ·cases e
end
section
variable {prog:Program} {w:World} {A:Around} {E:Value->Shared->Prop} {s:Shared}
end
section
variable {X:Cx}
end
end D
namespace D
open PySem PySem.Spec PyProof.Rows L2
def Jv (x:Int):Prop:=Builtin.Int.intBits x<=1048576
instance (x:Int):Decidable (Jv x):=inferInstanceAs (Decidable (_<=_))
theorem Qak {x y:Int} (h:x.natAbs<=y.natAbs) (hy:Jv y):Jv x:=PySem.intBits_le_of_natAbs h hy
section
variable {X:Cx}
def QeP (i j:Int):Bool:=decide (Jv i/\Jv j)
def QdL:DV->DV->M DV:=qD QeP fun i j=>.int (i * j)
theorem QdS:OpR X (binaryOp .Mult) (rI (fun i j=>Jv i/\Jv j) fun i j=>.int (i * j)):=opI fun _ _ _ _ _ _ _ hc q=>mul_int q (.of_bits hc.1 hc.2)
theorem QfT:P2 X (binaryOp .Mult) QdL:=VJ QdS fun i j h=>of_decide_eq_true h
end
theorem Uj:∀ (ns:List Int) (x:Int),x∈ns->Builtin.Int.intBits x<=PySem.W.WData.weightAll (ns.map PySem.W.WData.int)
  | n::r,x,h=>by
    rw [List.map_cons]
    unfold PySem.W.WData.weightAll
    rcases List.mem_cons.mp h with rfl | h
    . exact Nat.le_trans (Nat.le_of_eq (show Builtin.Int.intBits x=PySem.W.WData.weight (.int x) by unfold PySem.W.WData.weight;rfl)) (by omega)
    . have:=Uj r x h
      omega
theorem Qdk {ns:List Int} (h:PySem.W.WData.layableAll [PySem.W.WData.list (ns.map PySem.W.WData.int)]=true):∀ x∈ns,Jv x:=fun x hx=>by
 have h1:PySem.W.WData.layable (.list (ns.map PySem.W.WData.int))=true:=by
  unfold PySem.W.WData.layableAll at h
  simpa using h
 unfold PySem.W.WData.layable at h1
 have h2:=of_decide_eq_true (Bool.and_eq_true_iff.mp h1).2
 unfold PySem.W.WData.weight at h2
 exact Nat.le_trans (Uj ns x hx) h2
end D
namespace L2
open PySem PySem.Spec PyProof.Rows PySem.W
theorem Qc2 {l:PySem.W.OpenLaw} {n k:Nat} {q:Program} {loose:List Str} {XP:(Str->Option Value)->Heap->Prop} {YP:World->Heap->Prop} {d:DefRec} {K:Params->PySem.W.Frag} {CX:World->CXT} {sp:World->Sp} {x:Str}
    (hn:l.most=some n) (hn2:n<=sizeLine) (hdf:d.params.defaults=[]) (hr:Room k callerA)
    (hY:∀ (w:World) (h:Heap),YP w h->(K w.params).In h)
    (F:∀ (w:World) (mg:Str->Option Value) (fa:Addr) (h:Heap),(K w.params).In h->h.Ns mainGlobals mg->mg d.name=some (.ref fa) ->
      ∃ fd : FuncData, (∀ (s : Shared) (u : Value), BindsTo s fd ⟨[u], []⟩ [(x, u)]) /\
        ∀ base:Heap,(K w.params).In base->base.Ns mainGlobals mg->q8 l.prog w (K w.params) mg base (CX w) k fa fd [x] (sp w))
    (hsp:∀ (w:World) (H:Hp) (a:Addr) (ns:List Int),ns.length<=n->(∀ x∈ns,D.Jv x)->Qe7 H->SqL (K w.params) H a (ns.map V.int)->sp w [.ref a] H (fun v _=>v=.bl true) fun _ _ _=>False)
    (hCX:∀ (w:World) (H:Hp) (s:Shared) (e:Value) (s':Shared),CX w [] H s (fun _ _ _=>False) e s'->False) :
    PySem.W.WalkO q loose XP YP l.row.toRowW d [] (fun f vs=>PySem.call f vs):=by
  intro w s₀ s₁ mg mb G Y fa o pm cd doc dV kV ho hd hcd hD hmg hg args vals as hpre hlay hrd hwl hlo
  obtain rfl:dV=.none:=Dflts.none hD hdf
  obtain rfl:kV=.none:=Dflts.noKw hD
  obtain ⟨a,vs,ns,rfl,rfl,hobj,hints,hlen⟩:=Att.script_of hn hpre hwl
  have KX:=hY w _ Y
  obtain ⟨fd,hb,hF⟩:=F w mg fa _ KX G.T.g hmg
  refine enter_call (codeAny_mono (QbY KX G.T.g G.T.b G.T.builtins G.T.nolimit hg hobj hints (Nat.le_trans hlen hn2) hr hF hb (fun H hO hS=>hsp w H a ns hlen (D.Qdk hlay) hO hS) fun H e s'=>hCX w H s₁ e s') fun r s' hq=>?_)
  obtain ⟨rfl,h2,h3,h4⟩:=hq
  exact ⟨.inl ⟨.bool true,.bool true,[],rfl,fun _=>rfl,.bool true,Att.post_true l _,fun _=>⟨List.Pairwise.nil,fun _ hm=>(nomatch hm)⟩⟩,h2,h3,h4⟩
end L2
namespace D
open PySem PySem.Spec PyProof.Rows L2
variable {X:Cx}
theorem yZ {h:Heap} {a:Addr} {vs:List Value} {out:Array Value} {b:Addr} {o:Obj} (hb:b≠a) (e:h.get? b=some o):(sortedHeap h a vs out).get? b=some o:=by
 unfold sortedHeap
 rw [Heap.get?_update_ne _ _ _ _ hb]
 refine Heap.get?_push_of_some _ (Heap.get?_push_of_some _ ?_)
 rw [Heap.get?_update_ne _ _ _ _ hb];exact e
theorem UR {h:Heap} {a:Addr} {vs:List Value} {out:Array Value} {xs:Array Value} {n:Nat} (e:h.get? a=some (seqObj "list" xs n)):∃ c,(sortedHeap h a vs out).get? a=some (seqObj "list" out c):=by
 unfold sortedHeap
 obtain ⟨c1,g1⟩:∃ c1,(h.update a (Obj.mapSeq fun _=>#[])).get? a=some (seqObj "list" #[] c1):=⟨_,get?_update_seq e (fun _=>#[])⟩
 exact ⟨_,get?_update_seq (Heap.get?_push_of_some _ (Heap.get?_push_of_some _ g1)) fun _=>out⟩
theorem vT {prog:Program} {w:World} {A:Around} {E:Value->Shared->Prop} {s:Shared} {x:Value} {ns:List Int} {Q:Value->Shared->Prop} (h64:ns.length < 64)
  (hc:∀ (R:List Value->Shared->Prop),(∀ (h':Heap) (tk:Nat) (vs:List Value),IntsAre vs ns->vs.length<=sizeLine->(∀ b o,s.heap.get? b=some o->h'.get? b=some o)->R vs { s with heap:=h',toks:=tk })->wpAny (model prog w) A.in1 (collect x) R E s)
  (h:∀ (h1 h':Heap) (tk:Nat) (out:List Value) (ns':List Int) (c:Nat),(∀ b o,s.heap.get? b=some o->h1.get? b=some o)->(∀ b o,h1.get? b=some o->h'.get? b=some o)->h'.get? h1.objs.size=some (seqObj "list" out.toArray c)->IntsAre out ns'->ns'.Perm ns->ns'.Pairwise (· <= ·)->Q (.ref h1.objs.size) { s with heap:=h',toks:=tk }) :
  wpAny (model prog w) A (call (.builtin "sorted") [x]) Q E s:=by
 refine Calls.call_function_entry kind_sorted plain_sorted entry_sorted (args_sorted1 _) ?_
 unfold Builtin.«sorted»
 refine wpAny_bind (m:=checkCount "sorted" 1 1 _) (wpAny_pure (wpAny_bind (hc _ fun h1 tk vs hI hz k1=>?_)))
 refine wpAny_bind (wpAny_newList ?_ hz)
 have g:(h1.push (seqObj "list" vs.toArray 0)).get? h1.objs.size=some (seqObj "list" vs.toArray 0):=Heap.get?_push_size _ rfl
 refine wpAny_bind (wpAny_holding (wpAny_call_entry slot_list_sort ⟨_,g,rfl⟩ entry_list_sort (list_sort_tree g hI (by have:=hI.length;omega) fun out ns' o1 o2 o3=>⟨_,rfl,?_⟩) (args_list_sort _)))
 obtain ⟨c,g2⟩:=UR (vs:=vs) (out:=out) g
 refine wpAny_pure ⟨_,rfl,h h1 _ tk out.toList ns' c k1 (fun b o e=>yZ (Nat.ne_of_lt (Heap.lt_size e)) (Heap.get?_push_of_some _ e)) (by rw [Array.toArray_toList];exact g2) o1 o2 o3⟩
theorem KU (hc:X.calm=true):CallR X (.builtin "sorted") (fun xs H Q=>∃ p ns,xs=[.ref p]/\ns.length < 64/\Qba X.K H p ns/\∀ l,H l=none->Q (.ref l) (upd H l (.lst ((srt ns).map .int)))):=by
 intro pins s σ H xs us Q I r h
 obtain ⟨p,ns,rfl,h64,hq,q⟩:=h
 have hh:X.A.handled=none:=I.ok.hd hc
 obtain ⟨u,rfl,rx⟩:=Ui r
 cases rx
 have hz:ns.length<=sizeLine:=by
  rcases hq with hq | ⟨kvs,hq,e⟩
  ·have:=(I.list hq).choose_spec.2.2;simpa using this
  ·have a:=(Qbv I.hok hq).1
   have b:=congrArg List.length e
   simp at b;omega
 refine vT (ns:=ns) h64 (fun R hR=>?_) fun h1 h' tk out ns' c k1 k2 g o1 o2 o3=>?_
 ·rcases hq with hq | ⟨kvs,hq,e⟩
  ·obtain ⟨its,r',pl,z⟩:=I.list hq
   have hI:=Ka r'
   have hl:its.length=ns.length:=by have:=r'.length;simpa using this.symm
   have R1:=hR ((s.heap.push (seqObj "list" #[] 0)).update s.heap.objs.size (Obj.mapSeq (· ++ its.toArray))) s.toks its hI (by omega) fun b o e=>by
    have hlt:b < s.heap.objs.size:=Heap.lt_size e
    rw [Heap.get?_update_ne _ _ _ _ (Nat.ne_of_lt hlt)];exact Heap.get?_push_of_some _ e
   exact collect_list pl.isList R1 (by omega)
  ·obtain ⟨_,lo,vs,kv,hd⟩:=Qbv I.hok hq
   obtain ⟨ep,hat⟩:=hd.dictAt
   have kl:vs.map (·.1)=ns.map Sum.inl:=(ko kv).trans e
   have hvl:vs.length=ns.length:=by have:=congrArg List.length kl;simpa using this
   refine PySem.W.kdu_collect (PySem.W.kdl_dict (knd:=Z0 X.prog X.w) (kvs:=vs) (ep:=ep) lo) hh hat (by omega) fun h1 tk acc k1 it=>hR h1 tk acc.toList (kc ?_ fun j u n a b=>?_) ?_ k1
   ·rw [Array.length_toList,it.1,hvl]
   ·obtain ⟨k,x,e1,e2⟩:=it.2 j u (by simpa using a)
    have:k=Sum.inl n:=by
     have e3:=congrArg (fun l=>l[j]?) kl
     simp [e1,b] at e3
     exact e3
    subst this
    rcases ZT (show VC (Sum.inl n) u=true from e2) with ⟨i,t,h1,h2⟩ | ⟨_,_,h1,_⟩
    ·cases h1;exact ⟨t,h2⟩
    ·cases h1
   ·rw [Array.length_toList,it.1];omega
 ·obtain rfl:=Uc o2 o3
  have I1:Inv X pins σ H { s with heap:=h1,toks:=tk }:=I.kept k1
  have hlen:(srt ns).length<=sizeLine:=by rw [(vU ns).length_eq];exact hz
  exact ⟨.ref h1.objs.size,_,I1.laid (t':=tk) k2 (Nat.le_refl _) (show ObjOk X.prog X.w _ h' _ (.lst ((srt ns).map .int)) from ⟨by simpa using hlen,out,c,qk o1,g⟩),rfl,q _ (I1.hok.fresh (Nat.le_refl _))⟩
def kR:List DV->M DV:=QaO fun d=>do let ns <- QbR d;Qv (decide (ns.length < 64));pure (.lst ((srt ns).map .int))
theorem Qal (hc:X.calm=true):CallR X (.builtin "sorted") (tPn X.K kR):=by
  intro pins s σ H xs us Q I r h
  obtain ⟨ρ,B,hp,ds,d,hp',W,rl,e,k⟩:=h
  obtain ⟨x,rfl,e⟩:=zT e
  obtain ⟨ns,hp1,e1,e2⟩:=Qf e
  obtain ⟨_,hp9,e9,e2⟩:=Qf e2
  obtain ⟨h64,rfl⟩:=QC e9
  have h64:=of_decide_eq_true h64
  obtain ⟨rfl,rfl⟩:=Qi e2
  obtain ⟨v,rfl,rv⟩:=rl.oneI
  have key:hp=hp1/\∃ p,v=.ref p/\Qba X.K H p ns:=by
    cases x with
    | lst zs =>
      obtain ⟨h1,rfl⟩:=yd e1
      obtain ⟨a,ys,rfl,_,sq,l⟩:=rv.lstI
      exact ⟨rfl,a,rfl,.inl (xQ h1 l▸sq)⟩
    | ref n =>
      obtain ⟨o,hp2,e3,e4⟩:=Qf (show (ZG n >>= fun o=>(match o with | .lst ds=>uQ (ze ds) | .dic kvs=>uQ (vp kvs) | _=>failure:M (List Int))) hp=some (ns,hp1) from e1)
      obtain ⟨e5,rfl⟩:=ZC e3
      cases o with
      | lst zs =>
        obtain ⟨h1,rfl⟩:=yd e4
        obtain ⟨a,rfl,_,ys,h2,l1⟩:=RepV.refW W rv e5
        exact ⟨rfl,a,rfl,.inl (xQ h1 l1▸SqL.of h2)⟩
      | dic kvs =>
        obtain ⟨h1,rfl⟩:=yd e4
        obtain ⟨a,rfl,_,ro⟩:=RepV.refW W rv e5
        obtain ⟨ys,h2,rk⟩:=ro.dic
        exact ⟨rfl,a,rfl,.inr ⟨ys,h2,rk.to.1.trans (VB h1)⟩⟩
      | ins _ _=>cases e4
    | tup _=>cases e1
    | non=>cases e1
    | bl _=>cases e1
    | int _=>cases e1
    | str _=>cases e1
  obtain ⟨rfl,p,rfl,io⟩:=key
  exact KU hc pins s σ H _ us Q I r ⟨p,ns,rfl,h64,io,jR W (U9 _) k⟩
end D
namespace K33
open PySem PySem.Spec PyProof.Rows L2 D
def top (i:Nat):Stmt:=PySem.Challenge.pw_sidelink_k33_answers.main.body.getD i (.Pass ⟨0,0,0,0⟩)
abbrev yG:Stmt:=top 36
def GW:DSx:=QN (J0 (Qfp "int" (Qb 0)) (Y6 (Qfp "bool" (Qb 0))))
def yn:List DV->M DV:=Q5 1 GW
abbrev VV:Stmt:=top 37
def qF (self:List DV->M DV):DSx:=sIf (Xc (eB (QH 2 self (Qc (Qb 2) (Qc (Qb 3) (Qn)))))) (QN (eC (.bl false))) (Zf)
def qu (self:List DV->M DV):DSx:=YE (Qdc (Qb 0) (Qb 1)) (gT [2,3]) (qF self)
def Yn (self:List DV->M DV):DSx:=Qr (sIf (eOr (eB (XG "tuple" (Qb 1))) (eB (XG "list" (Qb 1)))) (Qr (sIf (eOr (eB (Qk neG (XG "tuple" (Qb 0)) (XG "tuple" (Qb 1)))) (eB (Qk neG (XG "list" (Qb 0)) (XG "list" (Qb 1))))) (QN (eC (.bl false))) (Zf)) (Qr (sIf (eB (Qk neG (ZB JD (Qc (Qb 0) (Qn))) (ZB JD (Qc (Qb 1) (Qn))))) (QN (eC (.bl false))) (Zf)) (Qr (qu self) (QN (eC (.bl true)))))) (Zf)) (Qr (sIf (eB (Qk isD (Qb 1) (eC .non))) (QN (Qk isD (Qb 0) (eC .non))) (Zf)) (Qr (sIf (eB (XG "str" (Qb 1))) (QN (J0 (XG "str" (Qb 0)) (Qk eqG (Qb 0) (Qb 1)))) (Zf)) (QN (J0 (QH 1 yn (Qc (Qb 0) (Qn))) (Qk eqG (Qb 0) (Qb 1))))))
def QT:Nat->List DV->M DV
 | 0=>fun _=>failure
 | n+1=>Q5 4 (Yn (QT n))
abbrev jk:Stmt:=Zc (top 25) 2
def Ur:DSx:=Qr (sIf (Xc (eB (Qw "Walk" "ended" (Qb 0)))) (QN (eC .non)) (Zf)) (Qr (sIf (eB (Qk eqG (Qk ixG (Qw "Walk" "deed" (Qb 0)) (eC (.int 0))) (eC (.str "stretch")))) (QN (ZB Qg7 (Qc (Qw "Walk" "pairs" (Qb 0)) (Qn)))) (Zf)) (QN (Qw "Walk" "worth" (Qb 0))))
def Jq:List DV->M DV:=Q5 1 Ur
abbrev qf:Stmt:=Zc (top 27) 6
def J4:DEx:=Je true (xLs (Qw "Weaver" "done" (Qb 0))) [] (y0) (Zg (Qc (Qk ixG (Qb 0) (eC (.int 0))) (Qc (QD "Walk" "answer" 1 Jq (Qk ixG (Qb 0) (eC (.int 1))) Qn) (Qn))))
def xM:DSx:=QN (J4)
def JP:List DV->M DV:=Q5 1 xM
abbrev X1:Stmt:=top 39
def Xs:DSx:=sIf (eB (XG "list" (Qb 4))) (Zu (Jf "list" Zh (Qb 4) (Qc (Zg (Qc (eC (.int 0)) (Qc (eC (.int 0)) (Qn)))) (Qn)))) (Zf)
def Jt:DSx:=YE (xLs (Qb 2)) (gT [3,4]) (Xs)
def zY:DSx:=Qr (QM 2 (QD "Weaver" "answers" 1 JP (Qb 0) Qn)) (Qr (sIf (Xc (eB (QH 2 (QT 6) (Qc (Qb 2) (Qc (Qb 1) (Qn)))))) (QN (eC (.bl false))) (Zf)) (Qr (Jt) (Qr (Zu (Jf "list" Zh (Qb 2) (Qc (Zg (Qc (eC (.int 0)) (Qc (eC .non) (Qn)))) (Qn)))) (QN (eC (.bl true))))))
def Zy:List DV->M DV:=Q5 5 zY
abbrev jm:Stmt:=Zc (top 27) 8
def XO:DEx:=Je false (xLs (Qw "Weaver" "held" (Qb 0))) [] (y0) (Qk isD (Qb 0) (eC .non))
def Ut:DSx:=QN (J0 (Qk eqG (Qw "Weaver" "taken" (Qb 0)) (ZB JD (Qc (Qw "Weaver" "deeds" (Qb 0)) (Qn)))) (ZB QgK (Qc (XO) (Qn))))
def JY:List DV->M DV:=Q5 1 Ut
abbrev qU:Stmt:=Zc (top 25) 0
def yN:DSx:=Qr (Q8 "Walk" "shelf" (Qb 0) (Qb 1)) (Qr (Q8 "Walk" "deed" (Qb 0) (Qb 2)) (Qr (Q8 "Walk" "aim" (Qb 0) (Qk ixG (Qb 2) (eC (.int 1)))) (Qr (Q8 "Walk" "goal" (Qb 0) (eC (.int 0))) (Qr (Q8 "Walk" "place" (Qb 0) (eC .non)) (Qr (Q8 "Walk" "forks" (Qb 0) (Xj)) (Qr (Q8 "Walk" "new_page" (Qb 0) (eC .non)) (Qr (Q8 "Walk" "worth" (Qb 0) (eC .non)) (Qr (Q8 "Walk" "pairs" (Qb 0) (Xk (Qn))) (Q8 "Walk" "ended" (Qb 0) (eC (.bl false)))))))))))
def Jm:List DV->M DV:=Q5 3 yN
abbrev Yv:Stmt:=Zc (top 27) 3
def jr:DSx:=Qr (QM 2 (Qw "Weaver" "taken" (Qb 0))) (Qr (XM (Zg (Qc (Qb 2) (Qc (J1 "Walk" 3 Jm (Qc (Qw "Weaver" "shelf" (Qb 0)) (Qc (Qk ixG (Qw "Weaver" "deeds" (Qb 0)) (Qb 2)) (Qn)))) (Qn)))) (gSb (Qw "Weaver" "held" (Qb 0)) (Qb 1))) (Qr (X0 "Weaver" "taken" zd (Qb 0) (eC (.int 1))) (QN (Zg (Qc (eC (.str "take")) (Qc (Qb 1) (Qc (Qb 2) (Qn))))))))
def Jj:List DV->M DV:=Q5 3 jr
abbrev yB:Stmt:=Zc (top 25) 1
def GS:DSx:=QN (Qw "Walk" "ended" (Qb 0))
def XD:List DV->M DV:=Q5 1 GS
abbrev YH:Stmt:=Zc (top 25) 9
def Ja:DEx:=Je true (xOf (QbP (Qk ixG (Qb 2) (eC (.int 1))) (Qk ixG (Qb 2) (eC (.int 2))))) [3,4] (eB (Xi leD ltD (Qb 1) (Qk ixG (Qb 0) (eC (.int 0))) (Qb 2))) (Qb 0)
def jL:DSx:=Qr (QM 3 (Qk ixG (Qw "Walk" "deed" (Qb 0)) (eC (.int 1)))) (Qr (QM 4 (Qk ixG (Qw "Walk" "deed" (Qb 0)) (eC (.int 2)))) (Qr (QM 5 (Ja)) (Qr (Zu (Jf "list" xc (Qw "Walk" "pairs" (Qb 0)) (Qc (Qb 5) (Qn)))) (Qr (sIf (eOr (eB (Qk isD (Qk ixG (Qb 2) (eC (.int 3))) (eC .non))) (eB (Qk geD (Qk ixG (Qb 2) (eC (.int 3))) (Qb 4)))) (Qr (Q8 "Walk" "ended" (Qb 0) (eC (.bl true))) (QN (Zg (Qc (eC (.str "read")) (Qc (Qb 1) (Qc (ZB Qa5 (Qc (Qb 5) (Qn))) (Qc (eC .non) (Qc (eC .non) (Qn))))))))) (Zf)) (Qr (Q8 "Walk" "aim" (Qb 0) (Qk ixG (Qb 2) (eC (.int 3)))) (Qr (Q8 "Walk" "place" (Qb 0) (Qk ixG (Qb 2) (eC (.int 4)))) (QN (Zg (Qc (eC (.str "read")) (Qc (Qb 1) (Qc (ZB Qa5 (Qc (Qb 5) (Qn))) (Qc (Qw "Walk" "place" (Qb 0)) (Qc (Qw "Walk" "aim" (Qb 0)) (Qn))))))))))))))
def Xe:List DV->M DV:=Q5 6 jL
abbrev XN:Stmt:=Zc (top 30) 12
def XE:DSx:=sIf (Xc (eB (Xi leD ltD (eC (.int 0)) (Qb 1) (ZB JD (Qc (Qw "Shelf" "kept" (Qb 0)) (Qn)))))) (QcF) (Zf)
def Zs:List DV->M DV:=Q5 2 XE
abbrev ji:Stmt:=Zc (top 30) 2
def je:DSx:=Qr (Zu (QD "Shelf" "check_number" 2 Zs (Qb 0) (Qc (Qb 1) (Qn)))) (Qr (X0 "Shelf" "write_count" zd (Qb 0) (eC (.int 1))) (XM (Qb 2) (gSb (Qw "Shelf" "kept" (Qb 0)) (Qb 1))))
def Jp:List DV->M DV:=Q5 3 je
abbrev VW:Stmt:=top 18
def uj:DSx:=QN (Zg (Qc (Qk ixD (Qb 0) (eC (.int 0))) (Qc (Qb 1) (Qc (Qb 2) (Qc (Qk ixD (Qb 0) (eC (.int 3))) (Qc (Qk ixD (Qb 0) (eC (.int 4))) (Qn)))))))
def qp:List DV->M DV:=Q5 3 uj
abbrev YJ:Stmt:=top 20
def zX:DEx:=Je false (xOf (iTp (Qb 0))) [1] (eB (Qk leD (Qb 0) (Qb 1))) (Qb 0)
def jN:DSx:=QN (ZB JD (Qc (zX) (Qn)))
def Zw:List DV->M DV:=Q5 2 jN
abbrev jo:Stmt:=top 19
def yM:DEx:=Je false (xOf (iTp (Qb 0))) [1] (eB (Qk ltD (Qb 0) (Qb 1))) (Qb 0)
def Uv:DSx:=QN (ZB JD (Qc (yM) (Qn)))
def XA:List DV->M DV:=Q5 2 Uv
abbrev VY:Stmt:=top 17
def uo:DSx:=Qr (QM 4 (Qk ixD (Qb 0) (eC (.int 1)))) (Qr (QM 5 (Qk ixD (Qb 0) (eC (.int 2)))) (Qr (QM 6 (QH 2 XA (Qc (Qb 4) (Qc (Qb 1) (Qn))))) (Qr (QM 7 (QH 2 Zw (Qc (Qb 4) (Qc (Qb 1) (Qn))))) (QN (QH 3 qp (Qc (Qb 0) (Qc (Qk Z5 (Qk Z5 (eSl (Qb 4) (ZN) (ZO (Qb 6))) (Qb 2)) (eSl (Qb 4) (ZO (Qb 7)) (ZN))) (Qc (Qk Z5 (Qk Z5 (eSl (Qb 5) (ZN) (ZO (Qb 6))) (Qb 3)) (eSl (Qb 5) (ZO (Qb 7)) (ZN))) (Qn)))))))))
def qr:List DV->M DV:=Q5 8 uo
abbrev Ko:Stmt:=top 15
def Qai:DSx:=QN (QH 4 qr (Qc (Qb 0) (Qc (Qb 1) (Qc (Zg (Qn)) (Qc (Zg (Qn)) (Qn))))))
def xJ:List DV->M DV:=Q5 2 Qai
abbrev VZ:Stmt:=top 13
def uq:DSx:=Qr (QM 2 (Qk ixD (Qb 0) (eC (.int 1)))) (Qr (QM 3 (QH 2 XA (Qc (Qb 2) (Qc (Qb 1) (Qn))))) (Qr (sIf (eB (Qk eqD (Qb 3) (QH 2 Zw (Qc (Qb 2) (Qc (Qb 1) (Qn)))))) (QN (eC .non)) (Zf)) (QN (Qk ixD (Qk ixD (Qb 0) (eC (.int 2))) (Qb 3)))))
def J6:List DV->M DV:=Q5 4 uq
abbrev zC:Stmt:=Zc (top 25) 8
def Vi:DSx:=Qr (Q8 "Walk" "worth" (Qb 0) (QH 2 J6 (Qc (Qb 2) (Qc (Qw "Walk" "aim" (Qb 0)) (Qn))))) (Qr (sIf (eB (Qk vm (Qw "Walk" "worth" (Qb 0)) (eC .non))) (Zu (QD "Shelf" "write" 3 Jp (Qw "Walk" "shelf" (Qb 0)) (Qc (Qb 1) (Qc (QH 2 xJ (Qc (Qb 2) (Qc (Qw "Walk" "aim" (Qb 0)) (Qn)))) (Qn))))) (Zf)) (Qr (Q8 "Walk" "ended" (Qb 0) (eC (.bl true))) (QN (Zg (Qc (eC (.str "cut")) (Qc (Qb 1) (Qc (Qw "Walk" "worth" (Qb 0)) (Qn))))))))
def Yj:List DV->M DV:=Q5 3 Vi
abbrev yA:Stmt:=Zc (top 30) 3
def yo:DSx:=Qr (X0 "Shelf" "write_count" zd (Qb 0) (eC (.int 1))) (Qr (Zu (Jf "list" Zh (Qw "Shelf" "kept" (Qb 0)) (Qc (Qb 1) (Qn)))) (QN (Qk xG (ZB JD (Qc (Qw "Shelf" "kept" (Qb 0)) (Qn))) (eC (.int 1)))))
def XC:List DV->M DV:=Q5 2 yo
abbrev jh:Stmt:=Zc (top 30) 8
def jd:DSx:=QN (ZB JD (Qc (Qw "Shelf" "kept" (Qb 0)) (Qn)))
def Xy:List DV->M DV:=Q5 1 jd
abbrev vM:Stmt:=top 23
def Qbi:DSx:=Qr (QM 2 (Qk ixD (Qb 0) (eC (.int 0)))) (Qr (QM 3 (Qk ixD (Qb 0) (eC (.int 1)))) (Qr (QM 4 (Qk ixD (Qb 0) (eC (.int 2)))) (Qr (QM 5 (Qk Yq (ZB qG (Qc (Qb 3) (Qn))) (eC (.int 2)))) (Qr (QM 6 (Qk ixD (Qb 3) (Qb 5))) (Qr (QM 7 (eIf (eB (Qk eqD (Qb 2) (eC (.int 0)))) (Qb 5) (Qk Z5 (Qb 5) (eC (.int 1))))) (Qr (QM 8 (Zg (Qc (Qb 2) (Qc (eSl (Qb 3) (ZN) (ZO (Qb 5))) (Qc (eSl (Qb 4) (ZN) (ZO (Qb 7))) (Qc (Qb 6) (Qc (Qb 1) (Qn)))))))) (Qr (QM 9 (Zg (Qc (Qb 2) (Qc (eSl (Qb 3) (ZO (Qb 7)) (ZN)) (Qc (eSl (Qb 4) (ZO (Qb 7)) (ZN)) (Qc (Qk ixD (Qb 0) (eC (.int 3))) (Qc (Qk ixD (Qb 0) (eC (.int 4))) (Qn)))))))) (QN (Zg (Qc (Qb 8) (Qc (Qb 9) (Qc (Qb 6) (Qn)))))))))))))
def jF:List DV->M DV:=Q5 10 Qbi
abbrev xo:Stmt:=Zc (top 30) 7
def jI:DSx:=QN (Qw "Shelf" "page_room" (Qb 0))
def Ji:List DV->M DV:=Q5 1 jI
abbrev Kl:Stmt:=top 22
def Qaf:DSx:=QN (Qk gtD (ZB qG (Qc (Qk ixD (Qb 0) (eC (.int 1))) (Qn))) (Qb 1))
def Yf:List DV->M DV:=Q5 2 Qaf
abbrev jl:Stmt:=Zc (top 25) 12
def Us:DSx:=Qr (sIf (Xc (eB (QH 2 Yf (Qc (Qb 2) (Qc (QD "Shelf" "room" 1 Ji (Qw "Walk" "shelf" (Qb 0)) Qn) (Qn)))))) (Qr (Zu (QD "Shelf" "write" 3 Jp (Qw "Walk" "shelf" (Qb 0)) (Qc (Qb 1) (Qc (Qb 2) (Qn))))) (Qr (Q8 "Walk" "ended" (Qb 0) (eC (.bl true))) (QN (eC .non)))) (Zf)) (Qr (QM 3 (QH 2 jF (Qc (Qb 2) (Qc (QD "Shelf" "pages" 1 Xy (Qw "Walk" "shelf" (Qb 0)) Qn) (Qn))))) (Qr (Q8 "Walk" "new_page" (Qb 0) (QD "Shelf" "lay" 2 XC (Qw "Walk" "shelf" (Qb 0)) (Qc (Qk ixG (Qb 3) (eC (.int 1))) (Qn)))) (Qr (Zu (QD "Shelf" "write" 3 Jp (Qw "Walk" "shelf" (Qb 0)) (Qc (Qb 1) (Qc (Qk ixG (Qb 3) (eC (.int 0))) (Qn))))) (Qr (Q8 "Walk" "aim" (Qb 0) (Qk ixG (Qb 3) (eC (.int 2)))) (Qr (Q8 "Walk" "goal" (Qb 0) (Qk Z5 (Qk ixG (Qb 2) (eC (.int 0))) (eC (.int 1)))) (Qr (Q8 "Walk" "place" (Qb 0) (Jf "dict" XJ (Qw "Walk" "forks" (Qb 0)) (Qc (Qw "Walk" "goal" (Qb 0)) (Qn)))) (QN (Qw "Walk" "new_page" (Qb 0)))))))))
def Xz:List DV->M DV:=Q5 4 Us
abbrev yH:Stmt:=top 14
def GX:DSx:=QN (QH 4 qr (Qc (Qb 0) (Qc (Qb 1) (Qc (Zg (Qc (Qb 1) (Qn))) (Qc (Zg (Qc (Qb 2) (Qn))) (Qn))))))
def qZ:List DV->M DV:=Q5 3 GX
abbrev qV:Stmt:=Zc (top 25) 7
def yO:DSx:=Qr (Q8 "Walk" "worth" (Qb 0) (QH 2 J6 (Qc (Qb 2) (Qc (Qw "Walk" "aim" (Qb 0)) (Qn))))) (Qr (QM 3 (QD "Walk" "settle" 3 Xz (Qb 0) (Qc (Qb 1) (Qc (QH 3 qZ (Qc (Qb 2) (Qc (Qw "Walk" "aim" (Qb 0)) (Qc (Qk ixG (Qw "Walk" "deed" (Qb 0)) (eC (.int 2))) (Qn))))) (Qn))))) (QN (Zg (Qc (eC (.str "put")) (Qc (Qb 1) (Qc (Qw "Walk" "worth" (Qb 0)) (Qc (Qb 3) (Qn))))))))
def XQ:List DV->M DV:=Q5 4 yO
abbrev YG:Stmt:=Zc (top 25) 6
def jK:DSx:=Qr (Q8 "Walk" "worth" (Qb 0) (QH 2 J6 (Qc (Qb 2) (Qc (Qw "Walk" "aim" (Qb 0)) (Qn))))) (Qr (Q8 "Walk" "ended" (Qb 0) (eC (.bl true))) (QN (Zg (Qc (eC (.str "found")) (Qc (Qb 1) (Qc (Qw "Walk" "worth" (Qb 0)) (Qn)))))))
def Xd:List DV->M DV:=Q5 3 jK
abbrev zD:Stmt:=Zc (top 25) 5
def Vj:DSx:=Qr (QM 3 (Qk ixG (Qw "Walk" "deed" (Qb 0)) (eC (.int 0)))) (Qr (sIf (eB (Qk eqG (Qb 3) (eC (.str "find")))) (QN (QD "Walk" "find_worth" 3 Xd (Qb 0) (Qc (Qb 1) (Qc (Qb 2) (Qn))))) (Zf)) (Qr (sIf (eB (Qk eqG (Qb 3) (eC (.str "put")))) (QN (QD "Walk" "put_pair" 3 XQ (Qb 0) (Qc (Qb 1) (Qc (Qb 2) (Qn))))) (Zf)) (Qr (sIf (eB (Qk eqG (Qb 3) (eC (.str "cut")))) (QN (QD "Walk" "cut_key" 3 Yj (Qb 0) (Qc (Qb 1) (Qc (Qb 2) (Qn))))) (Zf)) (QN (QD "Walk" "read_pairs" 3 Xe (Qb 0) (Qc (Qb 1) (Qc (Qb 2) (Qn))))))))
def Yk:List DV->M DV:=Q5 4 Vj
abbrev VX:Stmt:=top 16
def ul:DSx:=Qr (QM 3 (Qk ixD (Qb 0) (eC (.int 1)))) (Qr (QM 4 (Qk ixD (Qb 0) (eC (.int 2)))) (Qr (QM 5 (QH 2 Zw (Qc (Qb 3) (Qc (Qb 1) (Qn))))) (Qr (QM 6 (Qk Z5 (Qb 5) (eC (.int 1)))) (QN (QH 3 qp (Qc (Qb 0) (Qc (Qk Z5 (Qk Z5 (eSl (Qb 3) (ZN) (ZO (Qb 5))) (Zg (Qc (Qb 1) (Qn)))) (eSl (Qb 3) (ZO (Qb 5)) (ZN))) (Qc (Qk Z5 (Qk Z5 (eSl (Qb 4) (ZN) (ZO (Qb 6))) (Zg (Qc (Qb 2) (Qn)))) (eSl (Qb 4) (ZO (Qb 6)) (ZN))) (Qn)))))))))
def qq:List DV->M DV:=Q5 7 ul
abbrev qe:Stmt:=Zc (top 25) 10
def xL:DSx:=Qr (QM 3 (QD "Walk" "settle" 3 Xz (Qb 0) (Qc (Qb 1) (Qc (QH 3 qq (Qc (Qb 2) (Qc (Qw "Walk" "aim" (Qb 0)) (Qc (Qw "Walk" "new_page" (Qb 0)) (Qn))))) (Qn))))) (QN (Zg (Qc (eC (.str "told")) (Qc (Qb 1) (Qc (Qb 3) (Qn))))))
def Xt:List DV->M DV:=Q5 4 xL
abbrev xq:Stmt:=Zc (top 25) 4
def KR:DSx:=Qr (Q8 "Walk" "place" (Qb 0) (Qb 3)) (QN (Zg (Qc (Qb 1) (Qc (Qb 2) (Qc (Qb 3) (Qn))))))
def JO:List DV->M DV:=Q5 4 KR
abbrev Km:Stmt:=top 12
def Qag:DSx:=QN (Qk ixD (Qk ixD (Qb 0) (eC (.int 2))) (QH 2 Zw (Qc (Qk ixD (Qb 0) (eC (.int 1))) (Qc (Qb 1) (Qn)))))
def YW:List DV->M DV:=Q5 2 Qag
abbrev vL:Stmt:=top 11
def Qbh:DSx:=Qr (QM 2 (Qk ixD (Qb 0) (eC (.int 3)))) (QN (J0 (Qk vm (Qb 2) (eC .non)) (Qk geD (Qb 1) (Qb 2))))
def YV:List DV->M DV:=Q5 3 Qbh
abbrev Yt:Stmt:=Zc (top 30) 6
def Ym:DSx:=Qr (Zu (QD "Shelf" "check_number" 2 Zs (Qb 0) (Qc (Qb 2) (Qn)))) (Qr (QM 3 (Qk Z5 (Qk ixG (Qk ixG (Qw "Shelf" "kept" (Qb 0)) (Qw "Shelf" "top" (Qb 0))) (eC (.int 0))) (eC (.int 1)))) (Qr (Q8 "Shelf" "top" (Qb 0) (QD "Shelf" "lay" 2 XC (Qb 0) (Qc (Zg (Qc (Qb 3) (Qc (Zg (Qc (Qb 1) (Qn))) (Qc (Zg (Qc (Qw "Shelf" "top" (Qb 0)) (Qc (Qb 2) (Qn)))) (Qc (eC .non) (Qc (eC .non) (Qn))))))) (Qn)))) (QN (Qw "Shelf" "top" (Qb 0)))))
def ZW:List DV->M DV:=Q5 4 Ym
abbrev Xn:Stmt:=Zc (top 25) 11
def qw:DSx:=Qr (Q8 "Walk" "ended" (Qb 0) (eC (.bl true))) (QN (Zg (Qc (eC (.str "raised")) (Qc (Qb 1) (Qc (QD "Shelf" "raise_root" 3 ZW (Qw "Walk" "shelf" (Qb 0)) (Qc (Qw "Walk" "aim" (Qb 0)) (Qc (Qw "Walk" "new_page" (Qb 0)) (Qn)))) (Qn))))))
def ZP:List DV->M DV:=Q5 2 qw
abbrev xm:Stmt:=Zc (top 30) 1
def jH:DSx:=Qr (Zu (QD "Shelf" "check_number" 2 Zs (Qb 0) (Qc (Qb 1) (Qn)))) (Qr (X0 "Shelf" "read_count" zd (Qb 0) (eC (.int 1))) (QN (Qk ixG (Qw "Shelf" "kept" (Qb 0)) (Qb 1))))
def JM:List DV->M DV:=Q5 2 jH
abbrev xp:Stmt:=Zc (top 30) 4
def jJ:DSx:=QN (Qw "Shelf" "top" (Qb 0))
def JN:List DV->M DV:=Q5 1 jJ
abbrev yC:Stmt:=Zc (top 25) 3
def GT:DSx:=Qr (sIf (eB (Qw "Walk" "ended" (Qb 0))) (QN (eC .non)) (Zf)) (Qr (QM 1 (eIf (eB (Qk isD (Qw "Walk" "place" (Qb 0)) (eC .non))) (QD "Shelf" "root" 1 JN (Qw "Walk" "shelf" (Qb 0)) Qn) (Qw "Walk" "place" (Qb 0)))) (Qr (QM 2 (QD "Shelf" "read" 2 JM (Qw "Walk" "shelf" (Qb 0)) (Qc (Qb 1) (Qn)))) (Qr (sIf (qA (eB (Qk isD (Qw "Walk" "place" (Qb 0)) (eC .non))) (eB (Qk ltD (Qk ixG (Qb 2) (eC (.int 0))) (Qw "Walk" "goal" (Qb 0))))) (QN (QD "Walk" "raise_root_over" 2 ZP (Qb 0) (Qc (Qb 1) (Qn)))) (Zf)) (Qr (sIf (eB (QH 2 YV (Qc (Qb 2) (Qc (Qw "Walk" "aim" (Qb 0)) (Qn))))) (QN (QD "Walk" "go_on" 4 JO (Qb 0) (Qc (eC (.str "side")) (Qc (Qb 1) (Qc (Qk ixG (Qb 2) (eC (.int 4))) (Qn)))))) (Zf)) (Qr (sIf (eB (Qk gtD (Qk ixG (Qb 2) (eC (.int 0))) (Qw "Walk" "goal" (Qb 0)))) (Qr (XM (Qb 1) (gSb (Qw "Walk" "forks" (Qb 0)) (Qk ixG (Qb 2) (eC (.int 0))))) (QN (QD "Walk" "go_on" 4 JO (Qb 0) (Qc (eC (.str "down")) (Qc (Qb 1) (Qc (QH 2 YW (Qc (Qb 2) (Qc (Qw "Walk" "aim" (Qb 0)) (Qn)))) (Qn))))))) (Zf)) (Qr (sIf (eB (Qk gtD (Qw "Walk" "goal" (Qb 0)) (eC (.int 0)))) (QN (QD "Walk" "tell_fork" 3 Xt (Qb 0) (Qc (Qb 1) (Qc (Qb 2) (Qn))))) (Zf)) (QN (QD "Walk" "do_deed" 3 Yk (Qb 0) (Qc (Qb 1) (Qc (Qb 2) (Qn)))))))))))
def Yx:List DV->M DV:=Q5 3 GT
abbrev Yu:Stmt:=Zc (top 27) 4
def jq:DSx:=Qr (QM 2 (Qk ixG (Qw "Weaver" "held" (Qb 0)) (Qb 1))) (Qr (QM 3 (Qk ixG (Qb 2) (eC (.int 1)))) (Qr (QM 4 (QD "Walk" "step" 1 Yx (Qb 3) Qn)) (Qr (sIf (eB (QD "Walk" "over" 1 XD (Qb 3) Qn)) (Qr (XM (eC .non) (gSb (Qw "Weaver" "held" (Qb 0)) (Qb 1))) (Zu (Jf "list" Zh (Qw "Weaver" "done" (Qb 0)) (Qc (Qb 2) (Qn))))) (Zf)) (QN (Qk Z5 (Zg (Qc (Qk ixG (Qb 4) (eC (.int 0))) (Qc (Qb 1) (Qc (Qk ixG (Qb 2) (eC (.int 0))) (Qn))))) (eSl (Qb 4) (ZO (eC (.int 1))) (ZN)))))))
def J5:List DV->M DV:=Q5 5 jq
abbrev jn:Stmt:=Zc (top 27) 2
def Uu:DSx:=Qr (sIf (Xc (eB (Xi leD ltD (eC (.int 0)) (Qb 1) (ZB JD (Qc (Qw "Weaver" "held" (Qb 0)) (Qn)))))) (QcF) (Zf)) (Qr (sIf (eB (Qk vm (Qk ixG (Qw "Weaver" "held" (Qb 0)) (Qb 1)) (eC .non))) (QN (QD "Weaver" "step_walk" 2 J5 (Qb 0) (Qc (Qb 1) (Qn)))) (Zf)) (Qr (sIf (eB (Qk ltD (Qw "Weaver" "taken" (Qb 0)) (ZB JD (Qc (Qw "Weaver" "deeds" (Qb 0)) (Qn))))) (QN (QD "Weaver" "take_deed" 2 Jj (Qb 0) (Qc (Qb 1) (Qn)))) (Zf)) (QN (Zg (Qc (eC (.str "rest")) (Qc (Qb 1) (Qn)))))))
def ZE:List DV->M DV:=Q5 2 Uu
abbrev qW:Stmt:=Zc (top 27) 5
def YB:DSx:=Qr (Zu (Jf "list" Zh (Qb 1) (Qc (QD "Weaver" "move" 2 ZE (Qb 0) (Qc (Qb 2) (Qn))) (Qn)))) (QM 2 (Qk Xq (Qk Z5 (Qb 2) (eC (.int 1))) (ZB JD (Qc (Qw "Weaver" "held" (Qb 0)) (Qn)))))
def jG:DSx:=XW (Xc (eB (QD "Weaver" "idle" 1 JY (Qb 0) Qn))) (YB) 100000
def yP:DSx:=Qr (QM 1 (Xk (Qn))) (Qr (QM 2 (eC (.int 0))) (Qr (jG) (QN (Qb 1))))
def Z2:List DV->M DV:=Q5 3 yP
abbrev yF:Stmt:=top 38
def GV:DSx:=Qr (sIf (eB (Qk inG (Qk ixG (Qb 0) (eC (.int 0))) (Zg (Qc (eC (.str "take")) (Qc (eC (.str "rest")) (Qc (eC (.str "side")) (Qc (eC (.str "down")) (Qn)))))))) (YF) (Zf)) (Qr (QM 4 (Qk ixG (Qb 0) (eC (.int 2)))) (Qr (sIf (eB (Qk inG (Qk ixG (Qb 0) (eC (.int 0))) (Zg (Qc (eC (.str "found")) (Qc (eC (.str "put")) (Qc (eC (.str "cut")) (Qn))))))) (XM (Qk ixG (Qb 0) (eC (.int 4))) (gSb (Qb 2) (Qb 4))) (Zf)) (Qr (sIf (eB (Qk eqG (Qk ixG (Qb 0) (eC (.int 0))) (eC (.str "read")))) (XM (Qk Z5 (Jf "dict" XJ (Qb 2) (Qc (Qb 4) (Qc (Yw (Qn)) (Qn)))) (ZB QfG (Qc (Qk ixG (Qb 0) (eC (.int 4))) (Qn)))) (gSb (Qb 2) (Qb 4))) (Zf)) (Qr (QM 5 (Qk inG (Qk ixG (Qb 0) (eC (.int 0))) (Zg (Qc (eC (.str "found")) (Qc (eC (.str "cut")) (Qc (eC (.str "raised")) (Qn))))))) (Qr (sIf (eB (Qk inG (Qk ixG (Qb 0) (eC (.int 0))) (Zg (Qc (eC (.str "put")) (Qc (eC (.str "told")) (Qn)))))) (QM 5 (Qk isD (Qk ixG (Qb 0) (X6 (eC (.int 1)))) (eC .non))) (Zf)) (Qr (sIf (eB (Qk eqG (Qk ixG (Qb 0) (eC (.int 0))) (eC (.str "read")))) (QM 5 (Qk isD (Qk ixG (Qb 0) (eC (.int 6))) (eC .non))) (Zf)) (sIf (eB (Qb 5)) (Zu (Jf "list" Zh (Qb 3) (Qc (Zg (Qc (Qb 4) (Qc (Qk ixG (Qb 2) (Qb 4)) (Qn)))) (Qn)))) (Zf))))))))
def Z4:List DV->M DV:=Q5 6 GV
abbrev qg:Stmt:=Zc (top 27) 1
def xN:DSx:=Qr (Zu (Jf "list" Zh (Qw "Weaver" "deeds" (Qb 0)) (Qc (Qb 1) (Qn)))) (QN (Qk xG (ZB JD (Qc (Qw "Weaver" "deeds" (Qb 0)) (Qn))) (eC (.int 1))))
def ZV:List DV->M DV:=Q5 2 xN
abbrev Kn:Stmt:=top 33
def Qah:DSx:=Qr (QM 1 (Qk Yq (Qb 0) (eC (.int 6)))) (Qr (sIf (eB (Qk eqD (Qk Xq (Qb 0) (eC (.int 6))) (eC (.int 0)))) (QN (Qk xG (Qk Xq (Qk QdL (Qb 1) (Qk YT (eC (.int 1000000007)) (eC (.int 3)))) (Qk Z5 (Qk QaK (eC (.int 2)) (Qk YT (eC (.int 10)) (eC (.int 30)))) (eC (.int 1)))) (Qk YT (eC (.int 10)) (eC (.int 30))))) (Zf)) (Qr (sIf (eB (Qk eqD (Qk Xq (Qb 0) (eC (.int 6))) (eC (.int 1)))) (QN (Qk ixD (Yw (Qc (Qk YT (eC (.int 10)) (eC (.int 30))) (Qc (X6 (Qk YT (eC (.int 10)) (eC (.int 30)))) (Qc (Qk xG (Qk YT (eC (.int 10)) (eC (.int 30))) (eC (.int 1))) (Qc (Qk xG (eC (.int 1)) (Qk YT (eC (.int 10)) (eC (.int 30)))) (Qn)))))) (Qk Xq (Qb 1) (eC (.int 4))))) (Zf)) (QN (Qk xG (Qk Xq (Qb 1) (eC (.int 17))) (eC (.int 5))))))
def Xu:List DV->M DV:=Q5 2 Qah
abbrev VU:Stmt:=top 34
def uh:DSx:=Qr (QM 1 (Qk Xq (Qb 0) (eC (.int 9)))) (Qr (QM 2 (QH 1 Xu (Qc (Qk Yq (Qb 0) (eC (.int 9))) (Qn)))) (Qr (sIf (eB (Qk eqD (Qb 1) (eC (.int 0)))) (QN (Zg (Qc (eC (.str "find")) (Qc (Qb 2) (Qn))))) (Zf)) (Qr (sIf (eB (Qk ltD (Qb 1) (eC (.int 5)))) (QN (Zg (Qc (eC (.str "put")) (Qc (Qb 2) (Qc (QH 1 Xu (Qc (Qk Yq (Qb 0) (eC (.int 37))) (Qn))) (Qn)))))) (Zf)) (Qr (sIf (eB (Qk ltD (Qb 1) (eC (.int 7)))) (QN (Zg (Qc (eC (.str "cut")) (Qc (Qb 2) (Qn))))) (Zf)) (Qr (QM 3 (QH 1 Xu (Qc (Qk Yq (Qb 0) (eC (.int 131))) (Qn)))) (Qr (sIf (eB (Qk eqD (Qb 3) (Qb 2))) (QM 3 (Qk xG (Qb 2) (eC (.int 1)))) (Zf)) (Qr (sIf (eB (Qk ltD (Qb 3) (X6 (Qk YT (eC (.int 10)) (eC (.int 30)))))) (QM 3 (Qk Z5 (Qb 2) (eC (.int 1)))) (Zf)) (QN (Zg (Qc (eC (.str "stretch")) (Qc (ZB QdK (Qc (Qb 2) (Qc (Qb 3) (Qn)))) (Qc (ZB QdJ (Qc (Qb 2) (Qc (Qb 3) (Qn)))) (Qn)))))))))))))
def Yl:List DV->M DV:=Q5 4 uh
abbrev yE:Stmt:=top 35
def jc:DEx:=Je true (xOf (uE (Qc (Qk Xq (Qb 0) (eC (.int 24))) (Qn)))) [1] (y0) (Zg (Qc (eC (.str "put")) (Qc (Qk xG (Qk Xq (Qk QaK (Qb 0) (Qb 1)) (eC (.int 47))) (eC (.int 9))) (Qc (Qk Z5 (eC (.int 100)) (Qb 0)) (Qn)))))
def GU:DSx:=Qr (QM 1 (Qk ixG (Yw (Qc (eC (.int 7)) (Qc (eC (.int 11)) (Qc (eC (.int 23)) (Qc (eC (.int 1)) (Qc (eC (.int 46)) (Qn))))))) (Qk Xq (Qk Yq (Qb 0) (eC (.int 24))) (eC (.int 5))))) (QN (jc))
def Yy:List DV->M DV:=Q5 2 GU
abbrev YI:Stmt:=Zc (top 27) 0
def jM:DSx:=Qr (Q8 "Weaver" "shelf" (Qb 0) (Qb 1)) (Qr (Q8 "Weaver" "deeds" (Qb 0) (Xk (Qn))) (Qr (Q8 "Weaver" "taken" (Qb 0) (eC (.int 0))) (Qr (Q8 "Weaver" "held" (Qb 0) (Qk Qcc (Yw (Qc (eC .non) (Qn))) (Qb 2))) (Q8 "Weaver" "done" (Qb 0) (Xk (Qn))))))
def Jx:List DV->M DV:=Q5 3 jM
abbrev qc:Stmt:=Zc (top 30) 0
def YZ:DSx:=Qr (Q8 "Shelf" "page_room" (Qb 0) (Qb 1)) (Qr (Q8 "Shelf" "kept" (Qb 0) (Xk (Qc (eC (.tup [.int 0,.tup [],.tup [],.non,.non])) (Qn)))) (Qr (Q8 "Shelf" "top" (Qb 0) (eC (.int 0))) (Qr (Q8 "Shelf" "read_count" (Qb 0) (eC (.int 0))) (Q8 "Shelf" "write_count" (Qb 0) (eC (.int 0))))))
def Zz:List DV->M DV:=Q5 2 YZ
abbrev jp:Stmt:=top 32
def YN:DSx:=Qr (sIf (eB (Qk ltD (Qb 1) (ZB qG (Qc (Qb 0) (Qn))))) (QN (Qk ixD (Qb 0) (Qb 1))) (Zf)) (QN (eC (.int 0)))
def Jr:List DV->M DV:=Q5 2 YN
abbrev yD:Stmt:=top 40
def y6:DEx:=Je false (xLs (Qb 6)) [] (y0) (Qk ixG (Qb 0) (eC (.int 0)))
def y9:DEx:=Je false (xOf (uE (Qc (ZB JD (Qc (Qb 4) (Qn))) (Qn)))) [] (y0) (Qb 0)
def jZ:DSx:=Zu (QH 4 Z4 (Qc (Qb 8) (Qc (Qb 4) (Qc (Qb 5) (Qc (Qb 6) (Qn))))))
def KG:DSx:=YE (xLs (QD "Weaver" "finish" 1 Z2 (Qb 3) Qn)) (gN 8) (jZ)
def Gk:DSx:=Qr (sIf (eB (Qk ltD (Qb 9) (eC (.int 24)))) (Qr (Zu (Jf "list" Zh (Qb 4) (Qc (QH 1 Yl (Qc (Qk ixG (Qb 0) (Qb 9)) (Qn))) (Qn)))) (Zu (QD "Weaver" "hand_in" 2 ZV (Qb 3) (Qc (Qk ixG (Qb 4) (X6 (eC (.int 1)))) (Qn))))) (Zf)) (Qr (Zu (QH 4 Z4 (Qc (QD "Weaver" "move" 2 ZE (Qb 3) (Qc (Qk Xq (Qk Yq (Qk ixG (Qb 0) (Qb 9)) (eC (.int 3))) (Qb 2)) (Qn))) (Qc (Qb 4) (Qc (Qb 5) (Qc (Qb 6) (Qn))))))) (sIf (Xc (eB (QH 2 Zy (Qc (Qb 3) (Qc (Qb 6) (Qn)))))) (QN (eC (.bl false))) (Zf)))
def KH:DSx:=YE (xOf (uE (Qc (ZB JD (Qc (Qb 0) (Qn))) (Qn)))) (gN 9) (Gk)
def QdI:DSx:=Zu (QH 4 Z4 (Qc (Qb 8) (Qc (Qb 4) (Qc (Qb 5) (Qc (Qb 6) (Qn))))))
def Qdd:DSx:=YE (xLs (QD "Weaver" "finish" 1 Z2 (Qb 3) Qn)) (gN 8) (QdI)
def j2:DSx:=Zu (QD "Weaver" "hand_in" 2 ZV (Qb 3) (Qc (Qb 7) (Qn)))
def gz:DSx:=YE (xLs (Qb 4)) (gN 7) (j2)
def QgL:DSx:=Qr (QM 1 (QH 2 Jr (Qc (Qb 0) (Qc (eC (.int 0)) (Qn))))) (Qr (QM 2 (Qk Z5 (eC (.int 1)) (Qk Xq (Qb 1) (eC (.int 8))))) (Qr (QM 3 (J1 "Weaver" 3 Jx (Qc (J1 "Shelf" 2 Zz (Qc (Qk Z5 (eC (.int 2)) (Qk Xq (Qk Yq (Qb 1) (eC (.int 8))) (eC (.int 4)))) (Qn))) (Qc (Qb 2) (Qn))))) (Qr (QM 4 (QH 1 Yy (Qc (Qk Yq (Qb 1) (eC (.int 32))) (Qn)))) (Qr (QM 5 (Xj)) (Qr (QM 6 (Xk (Qn))) (Qr (gz) (Qr (Qdd) (Qr (KH) (Qr (KG) (QN (J0 (QH 2 Zy (Qc (Qb 3) (Qc (Qb 6) (Qn)))) (Qk eqG (ZB kR (Qc (y6) (Qn))) (y9)))))))))))))
def GP:List DV->M DV:=Q5 10 QgL
structure Al (K:PySem.W.Frag) (mg:Str->Option Value):Prop where
 z0:mg "isinstance" = none
 z1:mg "int" = none
 z2:mg "bool" = none
 z3:mg "str" = none
 z4:mg "tuple" = none
 z5:mg "list" = none
 z6:mg "zip" = none
 z7:mg "len" = none
 z8:mg "all" = none
 z9:mg "max" = none
 z10:mg "min" = none
 z11:mg "range" = none
 z12:mg "sorted" = none
 g0:UG mg "SIDE" 4
 g1:UG mg "HIGH" 3
 g2:UG mg "KEYS" 1
 g3:UG mg "PARTS" 2
 g4:UG mg "LEVEL" 0
 t0:UT K mg "EMPTY_LEAF" (.tup [.int 0,.tup [],.tup [],.non,.non])
 k0:X3 K "Walk" "worth"
 k1:X3 K "Walk" "deed"
 k2:X3 K "Walk" "pairs"
 k3:X3 K "Walk" "ended"
 k4:X3 K "Weaver" "done"
 k5:X3 K "Weaver" "taken"
 k6:X3 K "Weaver" "deeds"
 k7:X3 K "Weaver" "held"
 k8:X3 K "Walk" "new_page"
 k9:X3 K "Walk" "forks"
 k10:X3 K "Walk" "place"
 k11:X3 K "Walk" "goal"
 k12:X3 K "Walk" "aim"
 k13:X3 K "Walk" "shelf"
 k14:X3 K "Weaver" "shelf"
 k15:X3 K "Shelf" "kept"
 k16:X3 K "Shelf" "write_count"
 k17:X3 K "Shelf" "page_room"
 k18:X3 K "Shelf" "top"
 k19:X3 K "Shelf" "read_count"
 u0:UF K mg "_law_whole" yG
 u1:UF K mg "_law_same" VV
 u2:UM K "Walk" "answer" "Walk.answer" jk
 u3:UM K "Weaver" "answers" "Weaver.answers" qf
 u4:UF K mg "_law_answers_right" X1
 u5:UM K "Weaver" "idle" "Weaver.idle" jm
 u6:UI K mg "Walk" "Walk.__init__" qU
 u7:UM K "Weaver" "take_deed" "Weaver.take_deed" Yv
 u8:UM K "Walk" "over" "Walk.over" yB
 u9:UM K "Walk" "read_pairs" "Walk.read_pairs" YH
 u10:UM K "Shelf" "check_number" "Shelf.check_number" XN
 u11:UM K "Shelf" "write" "Shelf.write" ji
 u12:UF K mg "refilled" VW
 u13:UF K mg "count_not_above" YJ
 u14:UF K mg "count_below" jo
 u15:UF K mg "with_run" VY
 u16:UF K mg "without" Ko
 u17:UF K mg "worth_of" VZ
 u18:UM K "Walk" "cut_key" "Walk.cut_key" zC
 u19:UM K "Shelf" "lay" "Shelf.lay" yA
 u20:UM K "Shelf" "pages" "Shelf.pages" jh
 u21:UF K mg "parted" vM
 u22:UM K "Shelf" "room" "Shelf.room" xo
 u23:UF K mg "is_full" Kl
 u24:UM K "Walk" "settle" "Walk.settle" jl
 u25:UF K mg "with_pair" yH
 u26:UM K "Walk" "put_pair" "Walk.put_pair" qV
 u27:UM K "Walk" "find_worth" "Walk.find_worth" YG
 u28:UM K "Walk" "do_deed" "Walk.do_deed" zD
 u29:UF K mg "with_kid" VX
 u30:UM K "Walk" "tell_fork" "Walk.tell_fork" qe
 u31:UM K "Walk" "go_on" "Walk.go_on" xq
 u32:UF K mg "kid_for" Km
 u33:UF K mg "beyond" vL
 u34:UM K "Shelf" "raise_root" "Shelf.raise_root" Yt
 u35:UM K "Walk" "raise_root_over" "Walk.raise_root_over" Xn
 u36:UM K "Shelf" "read" "Shelf.read" xm
 u37:UM K "Shelf" "root" "Shelf.root" xp
 u38:UM K "Walk" "step" "Walk.step" yC
 u39:UM K "Weaver" "step_walk" "Weaver.step_walk" Yu
 u40:UM K "Weaver" "move" "Weaver.move" jn
 u41:UM K "Weaver" "finish" "Weaver.finish" qW
 u42:UF K mg "_law_noted" yF
 u43:UM K "Weaver" "hand_in" "Weaver.hand_in" qg
 u44:UF K mg "_law_key" Kn
 u45:UF K mg "_law_deed" VU
 u46:UF K mg "_law_ahead" yE
 u47:UI K mg "Weaver" "Weaver.__init__" YI
 u48:UI K mg "Shelf" "Shelf.__init__" qc
 u49:UF K mg "_law_cell_at" jp
theorem GD:Qs ["found"] ["found"] (Qo yG):=Za (by decide +kernel)
theorem sc_law_same:Qs ["found", "due", "one", "other"] ["found", "due"] (Qo VV):=Za (by decide +kernel)
theorem V2:Qs ["self"] ["self"] (Qo jk):=Za (by decide +kernel)
theorem xw:Qs ["self"] ["self"] (Qo qf):=Za (by decide +kernel)
theorem sc_law_answers_right:Qs ["weaver", "due", "told", "number", "answer"] ["weaver", "due"] (Qo X1):=Za (by decide +kernel)
theorem V3:Qs ["self"] ["self"] (Qo jm):=Za (by decide +kernel)
theorem yj:Qs ["self", "shelf", "deed"] ["self", "shelf", "deed"] (Qo qU):=Za (by decide +kernel)
theorem sc_Weaver_take_deed:Qs ["self", "hand", "number"] ["self", "hand"] (Qo Yv):=Za (by decide +kernel)
theorem GC:Qs ["self"] ["self"] (Qo yB):=Za (by decide +kernel)
theorem sc_Walk_read_pairs:Qs ["self", "number", "leaf", "low", "high", "pairs"] ["self", "number", "leaf"] (Qo YH):=Za (by decide +kernel)
theorem qY:Qs ["self", "number"] ["self", "number"] (Qo XN):=Za (by decide +kernel)
theorem V1:Qs ["self", "number", "page"] ["self", "number", "page"] (Qo ji):=Za (by decide +kernel)
theorem vN:Qs ["page", "keys", "parts"] ["page", "keys", "parts"] (Qo VW):=Za (by decide +kernel)
theorem jB:Qs ["keys", "key"] ["keys", "key"] (Qo YJ):=Za (by decide +kernel)
theorem V5:Qs ["keys", "key"] ["keys", "key"] (Qo jo):=Za (by decide +kernel)
theorem sc_with_run:Qs ["page", "key", "new_keys", "new_worths", "keys", "worths", "start", "stop"] ["page", "key", "new_keys", "new_worths"] (Qo VY):=Za (by decide +kernel)
theorem gc:Qs ["page", "key"] ["page", "key"] (Qo Ko):=Za (by decide +kernel)
theorem sc_worth_of:Qs ["page", "key", "keys", "place"] ["page", "key"] (Qo VZ):=Za (by decide +kernel)
theorem yY:Qs ["self", "number", "leaf"] ["self", "number", "leaf"] (Qo zC):=Za (by decide +kernel)
theorem GB:Qs ["self", "page"] ["self", "page"] (Qo yA):=Za (by decide +kernel)
theorem V0:Qs ["self"] ["self"] (Qo jh):=Za (by decide +kernel)
theorem sc_parted:Qs ["page", "number", "level", "keys", "parts", "middle", "key", "cut", "old", "new"] ["page", "number"] (Qo vM):=Za (by decide +kernel)
theorem UN:Qs ["self"] ["self"] (Qo xo):=Za (by decide +kernel)
theorem ga:Qs ["page", "room"] ["page", "room"] (Qo Kl):=Za (by decide +kernel)
theorem sc_Walk_settle:Qs ["self", "number", "page", "halves"] ["self", "number", "page"] (Qo jl):=Za (by decide +kernel)
theorem GE:Qs ["page", "key", "worth"] ["page", "key", "worth"] (Qo yH):=Za (by decide +kernel)
theorem sc_Walk_put_pair:Qs ["self", "number", "leaf", "new_page"] ["self", "number", "leaf"] (Qo qV):=Za (by decide +kernel)
theorem jy:Qs ["self", "number", "leaf"] ["self", "number", "leaf"] (Qo YG):=Za (by decide +kernel)
theorem sc_Walk_do_deed:Qs ["self", "number", "leaf", "word"] ["self", "number", "leaf"] (Qo zD):=Za (by decide +kernel)
theorem sc_with_kid:Qs ["page", "key", "kid", "keys", "kids", "place", "behind"] ["page", "key", "kid"] (Qo VX):=Za (by decide +kernel)
theorem sc_Walk_tell_fork:Qs ["self", "number", "fork", "new_page"] ["self", "number", "fork"] (Qo qe):=Za (by decide +kernel)
theorem UP:Qs ["self", "word", "number", "to"] ["self", "word", "number", "to"] (Qo xq):=Za (by decide +kernel)
theorem gb:Qs ["page", "key"] ["page", "key"] (Qo Km):=Za (by decide +kernel)
theorem sc_beyond:Qs ["page", "key", "high"] ["page", "key"] (Qo vL):=Za (by decide +kernel)
theorem sc_Shelf_raise_root:Qs ["self", "key", "number", "level"] ["self", "key", "number"] (Qo Yt):=Za (by decide +kernel)
theorem qh:Qs ["self", "number"] ["self", "number"] (Qo Xn):=Za (by decide +kernel)
theorem UL:Qs ["self", "number"] ["self", "number"] (Qo xm):=Za (by decide +kernel)
theorem UO:Qs ["self"] ["self"] (Qo xp):=Za (by decide +kernel)
theorem sc_Walk_step:Qs ["self", "number", "page"] ["self"] (Qo yC):=Za (by decide +kernel)
theorem sc_Weaver_step_walk:Qs ["self", "hand", "holding", "walk", "told"] ["self", "hand"] (Qo Yu):=Za (by decide +kernel)
theorem V4:Qs ["self", "hand"] ["self", "hand"] (Qo jn):=Za (by decide +kernel)
theorem sc_Weaver_finish:Qs ["self", "rows", "hand"] ["self"] (Qo qW):=Za (by decide +kernel)
theorem sc_law_noted:Qs ["row", "deeds", "parts", "due", "number", "ended"] ["row", "deeds", "parts", "due"] (Qo yF):=Za (by decide +kernel)
theorem xy:Qs ["self", "deed"] ["self", "deed"] (Qo qg):=Za (by decide +kernel)
theorem sc_law_key:Qs ["number", "rest"] ["number"] (Qo Kn):=Za (by decide +kernel)
theorem sc_law_deed:Qs ["cell", "kind", "key", "other"] ["cell"] (Qo VU):=Za (by decide +kernel)
theorem sc_law_ahead:Qs ["cell", "step"] ["cell"] (Qo yE):=Za (by decide +kernel)
theorem jA:Qs ["self", "shelf", "hands"] ["self", "shelf", "hands"] (Qo YI):=Za (by decide +kernel)
theorem xu:Qs ["self", "room"] ["self", "room"] (Qo qc):=Za (by decide +kernel)
theorem V6:Qs ["script", "k"] ["script", "k"] (Qo jp):=Za (by decide +kernel)
theorem sc_law:Qs ["script", "cell", "hands", "weaver", "deeds", "parts", "due", "deed", "row", "k"] ["script"] (Qo yD):=Za (by decide +kernel)
section
variable {P:Program} {w:World} {K:PySem.W.Frag} {mg:Str->Option Value} {base:Heap} (Z:Al K mg)
include Z
theorem UD:Has P w K mg base "_law_whole" 1 1 yn:=hf Z.u0 GD fun _ _ _ _ _ _ _ hr=>Qp (Qu (xR (Qbq Z.z0 Z.z1 boot_int (by decide) (Qa 0)) (xS (Qfi (Qbq Z.z0 Z.z2 boot_bool (by decide) (Qa 0))))))
theorem jV:∀ j:Nat,Has P w K mg base "_law_same" (1+j) 2 (QT j)
 | 0=>let ⟨_,_,F,hm⟩:=Z.u1.ex;QbN F hm (ps:=["found", "due"]) (fun _ _ _ _ _ _ us hl=>match us,hl with | [_,_],_=>rfl)
 | j+1=>have h_law_same:=jV j;hf Z.u1 sc_law_same fun _ _ _ _ _ _ _ hr=>Qh (Zo (DW.pt (Qby (XZ (X5 Z.z0 Z.z4 boot_tuple (by decide) (Qa 1))) (uA (XZ (X5 Z.z0 Z.z5 boot_list (by decide) (Qa 1)))))) (Qh (Zo (DW.pt (Qby (Ze (Qck hr.units) (X5 Z.z0 Z.z4 boot_tuple (by decide) (Qa 0)) (X5 Z.z0 Z.z4 boot_tuple (by decide) (Qa 1)) (QV _)) (uA (Ze (Qck hr.units) (X5 Z.z0 Z.z5 boot_list (by decide) (Qa 0)) (X5 Z.z0 Z.z5 boot_list (by decide) (Qa 1)) (QV _))))) (Qp (Qu Y4)) QG) (Qh (Zo (Ze (Qck hr.units) (Z8 Xg Z.z7 PySem.boot_len (Qd (Qa 0) Qm)) (Z8 Xg Z.z7 PySem.boot_len (Qd (Qa 1) Qm)) (QV _)) (Qp (Qu Y4)) QG) (Qh (zQ PassesOwn.never rfl (Qfm (by rfl) (by exact Z.z6) (Qa 0) (Qa 1)) (Qbs [2,3] sc_law_same.nd (by repeat' (first | exact trivial | refine ⟨rfl,(by first | exact .inl rfl | exact .inr rfl),.inl rfl,?_⟩)) rfl (fun _ _ _=>rfl)) (Qp (Zo (zj (XZ (QZ h_law_same hr (Nat.le_refl _) QE (Qd (Qa 2) (Qd (Qa 3) Qm))))) (Qp (Qu Y4)) QG))) (Qp (Qu Y4))))) QG) (Qh (Zo (Ze vC (Qa 1) ZM (QV _)) (Qp (Qu (XU vC (Qa 0) ZM (QV _)))) QG) (Qh (Zo (XZ (X5 Z.z0 Z.z3 boot_str (by decide) (Qa 1))) (Qp (Qu (xR (X5 Z.z0 Z.z3 boot_str (by decide) (Qa 0)) (xS (XU (jg hr.units) (Qa 0) (Qa 1) (QV _)))))) QG) (Qp (Qu (xR (QZ (UD Z) hr (Nat.le_add_right _ _) QE (Qd (Qa 0) Qm)) (xS (XU (jg hr.units) (Qa 0) (Qa 1) (QV _))))))))
theorem yU:J7 P w K mg base "Walk" "answer" 1 1 Jq:=hM Z.u2 V2 fun _ _ _ _ _ _ _ hr=>Qh (Zo (zj (XZ (Qt Z.k3 (Qa 0)))) (Qp (Qu ZM)) QG) (Qh (Zo (Ze (jg hr.units) (QO (QS hr) (Qt Z.k1 (Qa 0)) Qq) Zk (QV _)) (Qp (Qu (gI Qdm Z.z5 boot_list (Qd (Qt Z.k2 (Qa 0)) Qm)))) QG) (Qp (Qu (Qt Z.k0 (Qa 0)))))
theorem jw:J7 P w K mg base "Weaver" "answers" 2 1 JP:=hM Z.u3 xw fun _ _ _ _ _ _ _ hr=>Qp (Qu (Yo (caps:=[]) (idx:=[]) ⟨by with_unfolding_all rfl,by decide +kernel,rfl,by decide +kernel,rfl,(by exact trivial),by with_unfolding_all rfl,(by exact trivial),by decide⟩ rfl (qz (Qt Z.k4 (Qa 0))) (fun _ _ _ _=>jP) (fun _ _ _ _=>Q9 (Qd (QO (QS hr) (Qa 0) Qq) (Qd (JZ (yU Z) hr (by decide) QE (QO (QS hr) (Qa 0) Qq)) Qm)))))
theorem Xr:Has P w K mg base "_law_answers_right" 8 2 Zy:=hf Z.u4 sc_law_answers_right fun _ _ _ _ _ _ _ hr=>Qh (QK 2 sc_law_answers_right.nd (JZ (jw Z) hr (by decide) QE (Qa 0))) (Qh (Zo (zj (XZ (QZ (jV Z 6) hr (by decide) QE (Qd (Qa 2) (Qd (Qa 1) Qm))))) (Qp (Qu Y4)) QG) (Qh (zQ PassesOwn.never rfl (qz (Qa 2)) (Qbs [3,4] sc_law_answers_right.nd (by repeat' (first | exact trivial | refine ⟨rfl,(by first | exact .inl rfl | exact .inr rfl),.inl rfl,?_⟩)) rfl (fun _ _ _=>rfl)) (Qp (Zo (XZ (X5 Z.z0 Z.z5 boot_list (by decide) (Qa 4))) (Qp (ZK (Yp XL PySem.F.plainAttrs_list PySem.F.slot_list_append PySem.F.type_list_append (Qa 4) (Qd (Q9 (Qd Qq (Qd Qq Qm))) Qm)))) QG))) (Qh (ZK (Yp XL PySem.F.plainAttrs_list PySem.F.slot_list_append PySem.F.type_list_append (Qa 2) (Qd (Q9 (Qd Qq (Qd ZM Qm))) Qm))) (Qp (Qu Y4)))))
theorem yV:J7 P w K mg base "Weaver" "idle" 1 1 JY:=hM Z.u5 V3 fun _ _ _ _ _ _ _ hr=>Qp (Qu (xR (XU (jg hr.units) (Qt Z.k5 (Qa 0)) (Z8 Xg Z.z7 PySem.boot_len (Qd (Qt Z.k6 (Qa 0)) Qm)) (QV _)) (xS (Z8 (QgQ rfl) Z.z8 boot_all (Qd (Yo (caps:=[]) (idx:=[]) ⟨by with_unfolding_all rfl,by decide +kernel,rfl,by decide +kernel,rfl,(by exact trivial),by with_unfolding_all rfl,(by exact trivial),by decide⟩ rfl (qz (Qt Z.k7 (Qa 0))) (fun _ _ _ _=>jP) (fun _ _ _ _=>XU vC (Qa 0) ZM (QV _))) Qm)))))
theorem jT:Qab P w K mg base "Walk" 1 3 Jm:=hI Z.u6 yj fun _ _ _ _ _ _ _ hr=>Qh (Zd Z.k13 (Qa 0) (Qa 1)) (Qh (Zd Z.k1 (Qa 0) (Qa 2)) (Qh (Zd Z.k12 (Qa 0) (QO (QS hr) (Qa 2) Qq)) (Qh (Zd Z.k11 (Qa 0) Qq) (Qh (Zd Z.k10 (Qa 0) ZM) (Qh (Zd Z.k9 (Qa 0) G7) (Qh (Zd Z.k8 (Qa 0) ZM) (Qh (Zd Z.k0 (Qa 0) ZM) (Qh (Zd Z.k2 (Qa 0) (zO Qm)) (Qp (Zd Z.k3 (Qa 0) Y4))))))))))
theorem zq:J7 P w K mg base "Weaver" "take_deed" 3 2 Jj:=hM Z.u7 sc_Weaver_take_deed fun _ _ _ _ _ _ _ hr=>Qh (QK 2 sc_Weaver_take_deed.nd (Qt Z.k5 (Qa 0))) (Qh (xW (Q9 (Qd (Qa 2) (Qd (K4 (jT Z) hr (by decide) QE (Qd (Qt Z.k14 (Qa 0)) (Qd (QO (QS hr) (Qt Z.k6 (Qa 0)) (Qa 2)) Qm))) Qm))) (xU (QS hr) (Qt Z.k7 (Qa 0)) (Qa 1))) (Qh (zP Z.k5 (Qa 0) Qq) (Qp (Qu (Q9 (Qd Zk (Qd (Qa 1) (Qd (Qa 2) Qm))))))))
theorem Uz:J7 P w K mg base "Walk" "over" 1 1 XD:=hM Z.u8 GC fun _ _ _ _ _ _ _ hr=>Qp (Qu (Qt Z.k3 (Qa 0)))
theorem ja:J7 P w K mg base "Walk" "read_pairs" 1 3 Xe:=hM Z.u9 sc_Walk_read_pairs fun _ _ _ _ _ _ _ hr=>let ⟨_,g_SIDE⟩:=Z.g0.ex;let ⟨_,g_HIGH⟩:=Z.g1.ex;let ⟨_,g_KEYS⟩:=Z.g2.ex;let ⟨_,g_PARTS⟩:=Z.g3.ex;Qh (QK 3 sc_Walk_read_pairs.nd (QO (QS hr) (Qt Z.k1 (Qa 0)) Qq)) (Qh (QK 4 sc_Walk_read_pairs.nd (QO (QS hr) (Qt Z.k1 (Qa 0)) Qq)) (Qh (Qbw 5 sc_Walk_read_pairs.nd (caps:=["low", "high"]) (idx:=[3,4]) ⟨by with_unfolding_all rfl,by decide +kernel,rfl,by decide +kernel,rfl,(by exact ⟨rfl,⟨rfl,trivial⟩⟩),by with_unfolding_all rfl,(by exact ⟨rfl,.inl rfl,⟨_,rfl⟩,(fun h=>NameKind.noConfusion (Option.some.inj (show some NameKind.cell=some NameKind.local from h))),⟨rfl,.inl rfl,⟨_,rfl⟩,(fun h=>NameKind.noConfusion (Option.some.inj (show some NameKind.cell=some NameKind.local from h))),trivial⟩⟩),by decide⟩ rfl (U5 (Qds (by rfl) (by exact Z.z6) (QO (QS hr) (Qa 2) (Zb rfl g_KEYS)) (QO (QS hr) (Qa 2) (Zb rfl g_PARTS)))) (fun _ _ _ _=>K6 (Vp QdW VL (Qa 1) (QO (QS hr) (Qa 0) Qq) (Qa 2))) (fun _ _ _ _=>Qa 0)) (Qh (ZK (Yp Qb5 PySem.F.plainAttrs_list PySem.F.slot_list_extend PySem.F.type_list_extend (Qt Z.k2 (Qa 0)) (Qd (Qa 5) Qm))) (Qh (Zo (DW.pt (Qby (Ze vC (QO (QS hr) (Qa 2) (Zb rfl g_HIGH)) ZM (QV _)) (uA (Ze Qhj (QO (QS hr) (Qa 2) (Zb rfl g_HIGH)) (Qa 4) (QV _))))) (Qh (Zd Z.k3 (Qa 0) Y4) (Qp (Qu (Q9 (Qd Zk (Qd (Qa 1) (Qd (gI GY Z.z4 boot_tuple (Qd (Qa 5) Qm)) (Qd ZM (Qd ZM Qm))))))))) QG) (Qh (Zd Z.k12 (Qa 0) (QO (QS hr) (Qa 2) (Zb rfl g_HIGH))) (Qh (Zd Z.k10 (Qa 0) (QO (QS hr) (Qa 2) (Zb rfl g_SIDE))) (Qp (Qu (Q9 (Qd Zk (Qd (Qa 1) (Qd (gI GY Z.z4 boot_tuple (Qd (Qa 5) Qm)) (Qd (Qt Z.k10 (Qa 0)) (Qd (Qt Z.k12 (Qa 0)) Qm))))))))))))))
theorem Jl:J7 P w K mg base "Shelf" "check_number" 1 2 Zs:=hM Z.u10 qY fun _ _ _ _ _ _ _ hr=>Qp (Zo (zj (Vp QdW VL Qq (Qa 1) (Z8 Xg Z.z7 PySem.boot_len (Qd (Qt Z.k15 (Qa 0)) Qm)))) (Qp gO) QG)
theorem XV:J7 P w K mg base "Shelf" "write" 2 3 Jp:=hM Z.u11 V1 fun _ _ _ _ _ _ _ hr=>Qh (ZK (Zj (Jl Z) hr (by decide) QE (Qa 0) (Qd (Qa 1) Qm))) (Qh (zP Z.k16 (Qa 0) Qq) (Qp (xW (Qa 2) (xU (QS hr) (Qt Z.k15 (Qa 0)) (Qa 1)))))
theorem jW:Has P w K mg base "refilled" 1 3 qp:=hf Z.u12 vN fun _ _ _ _ _ _ _ hr=>let ⟨_,g_SIDE⟩:=Z.g0.ex;let ⟨_,g_HIGH⟩:=Z.g1.ex;let ⟨_,g_LEVEL⟩:=Z.g4.ex;Qp (Qu (Q9 (Qd (JF (Qa 0) (Zb rfl g_LEVEL)) (Qd (Qa 1) (Qd (Qa 2) (Qd (JF (Qa 0) (Zb rfl g_HIGH)) (Qd (JF (Qa 0) (Zb rfl g_SIDE)) Qm)))))))
theorem Jc:Has P w K mg base "count_not_above" 1 2 Zw:=hf Z.u13 jB fun _ _ _ _ _ _ _ hr=>Qp (Qu (Z8 Xg Z.z7 PySem.boot_len (Qd (Yo (caps:=["key"]) (idx:=[1]) ⟨by with_unfolding_all rfl,by decide +kernel,rfl,by decide +kernel,rfl,(by exact ⟨rfl,trivial⟩),by with_unfolding_all rfl,(by exact ⟨rfl,.inl rfl,⟨_,rfl⟩,(fun h=>NameKind.noConfusion (Option.some.inj (show some NameKind.cell=some NameKind.local from h))),trivial⟩),by decide⟩ rfl (U5 (Qbt (Qa 0))) (fun _ _ _ _=>K6 (Ze QdW (Qa 0) (Qa 1) (QV _))) (fun _ _ _ _=>Qa 0)) Qm)))
theorem qS:Has P w K mg base "count_below" 1 2 XA:=hf Z.u14 V5 fun _ _ _ _ _ _ _ hr=>Qp (Qu (Z8 Xg Z.z7 PySem.boot_len (Qd (Yo (caps:=["key"]) (idx:=[1]) ⟨by with_unfolding_all rfl,by decide +kernel,rfl,by decide +kernel,rfl,(by exact ⟨rfl,trivial⟩),by with_unfolding_all rfl,(by exact ⟨rfl,.inl rfl,⟨_,rfl⟩,(fun h=>NameKind.noConfusion (Option.some.inj (show some NameKind.cell=some NameKind.local from h))),trivial⟩),by decide⟩ rfl (U5 (Qbt (Qa 0))) (fun _ _ _ _=>K6 (Ze VL (Qa 0) (Qa 1) (QV _))) (fun _ _ _ _=>Qa 0)) Qm)))
theorem jX:Has P w K mg base "with_run" 2 4 qr:=hf Z.u15 sc_with_run fun _ _ _ _ _ _ _ hr=>let ⟨_,g_PARTS⟩:=Z.g3.ex;let ⟨_,g_KEYS⟩:=Z.g2.ex;Qh (QK 4 sc_with_run.nd (JF (Qa 0) (Zb rfl g_KEYS))) (Qh (QK 5 sc_with_run.nd (JF (Qa 0) (Zb rfl g_PARTS))) (Qh (QK 6 sc_with_run.nd (QZ (qS Z) hr (by decide) QE (Qd (Qa 4) (Qd (Qa 1) Qm)))) (Qh (QK 7 sc_with_run.nd (QZ (Jc Z) hr (by decide) QE (Qd (Qa 4) (Qd (Qa 1) Qm)))) (Qp (Qu (QZ (jW Z) hr (by decide) QE (Qd (Qa 0) (Qd (Qz Xb (Qz Xb (Y5 (Qa 4) JR (JS (Qa 6))) (Qa 2)) (Y5 (Qa 4) (JS (Qa 7)) JR)) (Qd (Qz Xb (Qz Xb (Y5 (Qa 5) JR (JS (Qa 6))) (Qa 3)) (Y5 (Qa 5) (JS (Qa 7)) JR)) Qm)))))))))
theorem vk:Has P w K mg base "without" 3 2 xJ:=hf Z.u16 gc fun _ _ _ _ _ _ _ hr=>Qp (Qu (QZ (jX Z) hr (by decide) QE (Qd (Qa 0) (Qd (Qa 1) (Qd (Q9 Qm) (Qd (Q9 Qm) Qm))))))
theorem qC:Has P w K mg base "worth_of" 2 2 J6:=hf Z.u17 sc_worth_of fun _ _ _ _ _ _ _ hr=>let ⟨_,g_PARTS⟩:=Z.g3.ex;let ⟨_,g_KEYS⟩:=Z.g2.ex;Qh (QK 2 sc_worth_of.nd (JF (Qa 0) (Zb rfl g_KEYS))) (Qh (QK 3 sc_worth_of.nd (QZ (qS Z) hr (by decide) QE (Qd (Qa 2) (Qd (Qa 1) Qm)))) (Qh (Zo (Ze (QaQ hr.units) (Qa 3) (QZ (Jc Z) hr (by decide) QE (Qd (Qa 2) (Qd (Qa 1) Qm))) (QV _)) (Qp (Qu ZM)) QG) (Qp (Qu (JF (JF (Qa 0) (Zb rfl g_PARTS)) (Qa 3))))))
theorem xY:J7 P w K mg base "Walk" "cut_key" 4 3 Yj:=hM Z.u18 yY fun _ _ _ _ _ _ _ hr=>Qh (Zd Z.k0 (Qa 0) (QZ (qC Z) hr (by decide) QE (Qd (Qa 2) (Qd (Qt Z.k12 (Qa 0)) Qm)))) (Qh (Zo (Ze Qcj (Qt Z.k0 (Qa 0)) ZM (QV _)) (Qp (ZK (Zj (XV Z) hr (by decide) QE (Qt Z.k13 (Qa 0)) (Qd (Qa 1) (Qd (QZ (vk Z) hr (by decide) QE (Qd (Qa 2) (Qd (Qt Z.k12 (Qa 0)) Qm))) Qm))))) QG) (Qh (Zd Z.k3 (Qa 0) Y4) (Qp (Qu (Q9 (Qd Zk (Qd (Qa 1) (Qd (Qt Z.k0 (Qa 0)) Qm))))))))
theorem jf:J7 P w K mg base "Shelf" "lay" 1 2 XC:=hM Z.u19 GB fun _ _ _ _ _ _ _ hr=>Qh (zP Z.k16 (Qa 0) Qq) (Qh (ZK (Yp XL PySem.F.plainAttrs_list PySem.F.slot_list_append PySem.F.type_list_append (Qt Z.k15 (Qa 0)) (Qd (Qa 1) Qm))) (Qp (Qu (Qz yx (Z8 Xg Z.z7 PySem.boot_len (Qd (Qt Z.k15 (Qa 0)) Qm)) Qq))))
theorem yT:J7 P w K mg base "Shelf" "pages" 1 1 Xy:=hM Z.u20 V0 fun _ _ _ _ _ _ _ hr=>Qp (Qu (Z8 Xg Z.z7 PySem.boot_len (Qd (Qt Z.k15 (Qa 0)) Qm)))
theorem uD:Has P w K mg base "parted" 1 2 jF:=hf Z.u21 sc_parted fun _ _ _ _ _ _ _ hr=>let ⟨_,g_SIDE⟩:=Z.g0.ex;let ⟨_,g_HIGH⟩:=Z.g1.ex;let ⟨_,g_PARTS⟩:=Z.g3.ex;let ⟨_,g_KEYS⟩:=Z.g2.ex;let ⟨_,g_LEVEL⟩:=Z.g4.ex;Qh (QK 2 sc_parted.nd (JF (Qa 0) (Zb rfl g_LEVEL))) (Qh (QK 3 sc_parted.nd (JF (Qa 0) (Zb rfl g_KEYS))) (Qh (QK 4 sc_parted.nd (JF (Qa 0) (Zb rfl g_PARTS))) (Qh (QK 5 sc_parted.nd (Qz xk (Z8 gF Z.z7 PySem.boot_len (Qd (Qa 3) Qm)) Qq)) (Qh (QK 6 sc_parted.nd (JF (Qa 3) (Qa 5))) (Qh (QK 7 sc_parted.nd (QeS (Ze (QaQ hr.units) (Qa 2) Qq (QV _)) (Qa 5) (Qz Xb (Qa 5) Qq))) (Qh (QK 8 sc_parted.nd (Q9 (Qd (Qa 2) (Qd (Y5 (Qa 3) JR (JS (Qa 5))) (Qd (Y5 (Qa 4) JR (JS (Qa 7))) (Qd (Qa 6) (Qd (Qa 1) Qm))))))) (Qh (QK 9 sc_parted.nd (Q9 (Qd (Qa 2) (Qd (Y5 (Qa 3) (JS (Qa 7)) JR) (Qd (Y5 (Qa 4) (JS (Qa 7)) JR) (Qd (JF (Qa 0) (Zb rfl g_HIGH)) (Qd (JF (Qa 0) (Zb rfl g_SIDE)) Qm))))))) (Qp (Qu (Q9 (Qd (Qa 8) (Qd (Qa 9) (Qd (Qa 6) Qm)))))))))))))
theorem Vx:J7 P w K mg base "Shelf" "room" 1 1 Ji:=hM Z.u22 UN fun _ _ _ _ _ _ _ hr=>Qp (Qu (Qt Z.k17 (Qa 0)))
theorem vi:Has P w K mg base "is_full" 1 2 Yf:=hf Z.u23 ga fun _ _ _ _ _ _ _ hr=>let ⟨_,g_KEYS⟩:=Z.g2.ex;Qp (Qu (XU QfS (Z8 gF Z.z7 PySem.boot_len (Qd (JF (Qa 0) (Zb rfl g_KEYS)) Qm)) (Qa 1) (QV _)))
theorem qQ:J7 P w K mg base "Walk" "settle" 3 3 Xz:=hM Z.u24 sc_Walk_settle fun _ _ _ _ _ _ _ hr=>let ⟨_,g_LEVEL⟩:=Z.g4.ex;Qh (Zo (zj (XZ (QZ (vi Z) hr (by decide) QE (Qd (Qa 2) (Qd (JZ (Vx Z) hr (by decide) QE (Qt Z.k13 (Qa 0))) Qm))))) (Qh (ZK (Zj (XV Z) hr (by decide) QE (Qt Z.k13 (Qa 0)) (Qd (Qa 1) (Qd (Qa 2) Qm)))) (Qh (Zd Z.k3 (Qa 0) Y4) (Qp (Qu ZM)))) QG) (Qh (QK 3 sc_Walk_settle.nd (QZ (uD Z) hr (by decide) QE (Qd (Qa 2) (Qd (JZ (yT Z) hr (by decide) QE (Qt Z.k13 (Qa 0))) Qm)))) (Qh (Zd Z.k8 (Qa 0) (Zj (jf Z) hr (by decide) QE (Qt Z.k13 (Qa 0)) (Qd (QO (QS hr) (Qa 3) Qq) Qm))) (Qh (ZK (Zj (XV Z) hr (by decide) QE (Qt Z.k13 (Qa 0)) (Qd (Qa 1) (Qd (QO (QS hr) (Qa 3) Qq) Qm)))) (Qh (Zd Z.k12 (Qa 0) (QO (QS hr) (Qa 3) Qq)) (Qh (Zd Z.k11 (Qa 0) (Qz Xb (QO (QS hr) (Qa 2) (Zb rfl g_LEVEL)) Qq)) (Qh (Zd Z.k10 (Qa 0) (Yp (Qb4 (QS hr)) PySem.F.plainAttrs_dict PySem.F.slot_dict_get PySem.F.type_dict_get (Qt Z.k9 (Qa 0)) (Qd (Qt Z.k11 (Qa 0)) Qm))) (Qp (Qu (Qt Z.k8 (Qa 0))))))))))
theorem UE:Has P w K mg base "with_pair" 3 3 qZ:=hf Z.u25 GE fun _ _ _ _ _ _ _ hr=>Qp (Qu (QZ (jX Z) hr (by decide) QE (Qd (Qa 0) (Qd (Qa 1) (Qd (Q9 (Qd (Qa 1) Qm)) (Qd (Q9 (Qd (Qa 2) Qm)) Qm))))))
theorem jU:J7 P w K mg base "Walk" "put_pair" 4 3 XQ:=hM Z.u26 sc_Walk_put_pair fun _ _ _ _ _ _ _ hr=>Qh (Zd Z.k0 (Qa 0) (QZ (qC Z) hr (by decide) QE (Qd (Qa 2) (Qd (Qt Z.k12 (Qa 0)) Qm)))) (Qh (QK 3 sc_Walk_put_pair.nd (Zj (qQ Z) hr (by decide) QE (Qa 0) (Qd (Qa 1) (Qd (QZ (UE Z) hr (by decide) QE (Qd (Qa 2) (Qd (Qt Z.k12 (Qa 0)) (Qd (QO (QS hr) (Qt Z.k1 (Qa 0)) Qq) Qm)))) Qm)))) (Qp (Qu (Q9 (Qd Zk (Qd (Qa 1) (Qd (Qt Z.k0 (Qa 0)) (Qd (Qa 3) Qm))))))))
theorem zZ:J7 P w K mg base "Walk" "find_worth" 3 3 Xd:=hM Z.u27 jy fun _ _ _ _ _ _ _ hr=>Qh (Zd Z.k0 (Qa 0) (QZ (qC Z) hr (by decide) QE (Qd (Qa 2) (Qd (Qt Z.k12 (Qa 0)) Qm)))) (Qh (Zd Z.k3 (Qa 0) Y4) (Qp (Qu (Q9 (Qd Zk (Qd (Qa 1) (Qd (Qt Z.k0 (Qa 0)) Qm)))))))
theorem xZ:J7 P w K mg base "Walk" "do_deed" 5 3 Yk:=hM Z.u28 sc_Walk_do_deed fun _ _ _ _ _ _ _ hr=>Qh (QK 3 sc_Walk_do_deed.nd (QO (QS hr) (Qt Z.k1 (Qa 0)) Qq)) (Qh (Zo (Ze (jg hr.units) (Qa 3) Zk (QV _)) (Qp (Qu (Zj (zZ Z) hr (by decide) QE (Qa 0) (Qd (Qa 1) (Qd (Qa 2) Qm))))) QG) (Qh (Zo (Ze (jg hr.units) (Qa 3) Zk (QV _)) (Qp (Qu (Zj (jU Z) hr (by decide) QE (Qa 0) (Qd (Qa 1) (Qd (Qa 2) Qm))))) QG) (Qh (Zo (Ze (jg hr.units) (Qa 3) Zk (QV _)) (Qp (Qu (Zj (xY Z) hr (by decide) QE (Qa 0) (Qd (Qa 1) (Qd (Qa 2) Qm))))) QG) (Qp (Qu (Zj (ja Z) hr (by decide) QE (Qa 0) (Qd (Qa 1) (Qd (Qa 2) Qm))))))))
theorem Gc:Has P w K mg base "with_kid" 2 3 qq:=hf Z.u29 sc_with_kid fun _ _ _ _ _ _ _ hr=>let ⟨_,g_PARTS⟩:=Z.g3.ex;let ⟨_,g_KEYS⟩:=Z.g2.ex;Qh (QK 3 sc_with_kid.nd (JF (Qa 0) (Zb rfl g_KEYS))) (Qh (QK 4 sc_with_kid.nd (JF (Qa 0) (Zb rfl g_PARTS))) (Qh (QK 5 sc_with_kid.nd (QZ (Jc Z) hr (by decide) QE (Qd (Qa 3) (Qd (Qa 1) Qm)))) (Qh (QK 6 sc_with_kid.nd (Qz Xb (Qa 5) Qq)) (Qp (Qu (QZ (jW Z) hr (by decide) QE (Qd (Qa 0) (Qd (Qz Xb (Qz Xb (Y5 (Qa 3) JR (JS (Qa 5))) (Q9 (Qd (Qa 1) Qm))) (Y5 (Qa 3) (JS (Qa 5)) JR)) (Qd (Qz Xb (Qz Xb (Y5 (Qa 4) JR (JS (Qa 6))) (Q9 (Qd (Qa 2) Qm))) (Y5 (Qa 4) (JS (Qa 6)) JR)) Qm)))))))))
theorem jv:J7 P w K mg base "Walk" "tell_fork" 4 3 Xt:=hM Z.u30 sc_Walk_tell_fork fun _ _ _ _ _ _ _ hr=>Qh (QK 3 sc_Walk_tell_fork.nd (Zj (qQ Z) hr (by decide) QE (Qa 0) (Qd (Qa 1) (Qd (QZ (Gc Z) hr (by decide) QE (Qd (Qa 2) (Qd (Qt Z.k12 (Qa 0)) (Qd (Qt Z.k8 (Qa 0)) Qm)))) Qm)))) (Qp (Qu (Q9 (Qd Zk (Qd (Qa 1) (Qd (Qa 3) Qm))))))
theorem zo:J7 P w K mg base "Walk" "go_on" 1 4 JO:=hM Z.u31 UP fun _ _ _ _ _ _ _ hr=>Qh (Zd Z.k10 (Qa 0) (Qa 3)) (Qp (Qu (Q9 (Qd (Qa 1) (Qd (Qa 2) (Qd (Qa 3) Qm))))))
theorem vj:Has P w K mg base "kid_for" 2 2 YW:=hf Z.u32 gb fun _ _ _ _ _ _ _ hr=>let ⟨_,g_PARTS⟩:=Z.g3.ex;let ⟨_,g_KEYS⟩:=Z.g2.ex;Qp (Qu (JF (JF (Qa 0) (Zb rfl g_PARTS)) (QZ (Jc Z) hr (by decide) QE (Qd (JF (Qa 0) (Zb rfl g_KEYS)) (Qd (Qa 1) Qm)))))
theorem uC:Has P w K mg base "beyond" 1 2 YV:=hf Z.u33 sc_beyond fun _ _ _ _ _ _ _ hr=>let ⟨_,g_HIGH⟩:=Z.g1.ex;Qh (QK 2 sc_beyond.nd (JF (Qa 0) (Zb rfl g_HIGH))) (Qp (Qu (xR (XU Qcj (Qa 2) ZM (QV _)) (xS (XU Qhj (Qa 1) (Qa 2) (QV _))))))
theorem zn:J7 P w K mg base "Shelf" "raise_root" 2 3 ZW:=hM Z.u34 sc_Shelf_raise_root fun _ _ _ _ _ _ _ hr=>let ⟨_,g_LEVEL⟩:=Z.g4.ex;Qh (ZK (Zj (Jl Z) hr (by decide) QE (Qa 0) (Qd (Qa 2) Qm))) (Qh (QK 3 sc_Shelf_raise_root.nd (Qz Xb (QO (QS hr) (QO (QS hr) (Qt Z.k15 (Qa 0)) (Qt Z.k18 (Qa 0))) (Zb rfl g_LEVEL)) Qq)) (Qh (Zd Z.k18 (Qa 0) (Zj (jf Z) hr (by decide) QE (Qa 0) (Qd (Q9 (Qd (Qa 3) (Qd (Q9 (Qd (Qa 1) Qm)) (Qd (Q9 (Qd (Qt Z.k18 (Qa 0)) (Qd (Qa 2) Qm))) (Qd ZM (Qd ZM Qm)))))) Qm))) (Qp (Qu (Qt Z.k18 (Qa 0))))))
theorem YQ:J7 P w K mg base "Walk" "raise_root_over" 3 2 ZP:=hM Z.u35 qh fun _ _ _ _ _ _ _ hr=>Qh (Zd Z.k3 (Qa 0) Y4) (Qp (Qu (Q9 (Qd Zk (Qd (Qa 1) (Qd (Zj (zn Z) hr (by decide) QE (Qt Z.k13 (Qa 0)) (Qd (Qt Z.k12 (Qa 0)) (Qd (Qt Z.k8 (Qa 0)) Qm))) Qm))))))
theorem Vw:J7 P w K mg base "Shelf" "read" 2 2 JM:=hM Z.u36 UL fun _ _ _ _ _ _ _ hr=>Qh (ZK (Zj (Jl Z) hr (by decide) QE (Qa 0) (Qd (Qa 1) Qm))) (Qh (zP Z.k19 (Qa 0) Qq) (Qp (Qu (QO (QS hr) (Qt Z.k15 (Qa 0)) (Qa 1)))))
theorem Vy:J7 P w K mg base "Shelf" "root" 1 1 JN:=hM Z.u37 UO fun _ _ _ _ _ _ _ hr=>Qp (Qu (Qt Z.k18 (Qa 0)))
theorem UA:J7 P w K mg base "Walk" "step" 6 1 Yx:=hM Z.u38 sc_Walk_step fun _ _ _ _ _ _ _ hr=>let ⟨_,g_LEVEL⟩:=Z.g4.ex;let ⟨_,g_SIDE⟩:=Z.g0.ex;Qh (Zo (XZ (Qt Z.k3 (Qa 0))) (Qp (Qu ZM)) QG) (Qh (QK 1 sc_Walk_step.nd (QeS (Ze vC (Qt Z.k10 (Qa 0)) ZM (QV _)) (JZ (Vy Z) hr (by decide) QE (Qt Z.k13 (Qa 0))) (Qt Z.k10 (Qa 0)))) (Qh (QK 2 sc_Walk_step.nd (Zj (Vw Z) hr (by decide) QE (Qt Z.k13 (Qa 0)) (Qd (Qa 1) Qm))) (Qh (Zo (DW.pt (Qfl (Ze vC (Qt Z.k10 (Qa 0)) ZM (QV _)) (Qdu (Ze VL (QO (QS hr) (Qa 2) (Zb rfl g_LEVEL)) (Qt Z.k11 (Qa 0)) (QV _))))) (Qp (Qu (Zj (YQ Z) hr (by decide) QE (Qa 0) (Qd (Qa 1) Qm)))) QG) (Qh (Zo (XZ (QZ (uC Z) hr (by decide) QE (Qd (Qa 2) (Qd (Qt Z.k12 (Qa 0)) Qm)))) (Qp (Qu (Zj (zo Z) hr (by decide) QE (Qa 0) (Qd Zk (Qd (Qa 1) (Qd (QO (QS hr) (Qa 2) (Zb rfl g_SIDE)) Qm)))))) QG) (Qh (Zo (Ze QfS (QO (QS hr) (Qa 2) (Zb rfl g_LEVEL)) (Qt Z.k11 (Qa 0)) (QV _)) (Qh (xW (Qa 1) (xU (QS hr) (Qt Z.k9 (Qa 0)) (QO (QS hr) (Qa 2) (Zb rfl g_LEVEL)))) (Qp (Qu (Zj (zo Z) hr (by decide) QE (Qa 0) (Qd Zk (Qd (Qa 1) (Qd (QZ (vj Z) hr (by decide) QE (Qd (Qa 2) (Qd (Qt Z.k12 (Qa 0)) Qm))) Qm))))))) QG) (Qh (Zo (Ze QfS (Qt Z.k11 (Qa 0)) Qq (QV _)) (Qp (Qu (Zj (jv Z) hr (by decide) QE (Qa 0) (Qd (Qa 1) (Qd (Qa 2) Qm))))) QG) (Qp (Qu (Zj (xZ Z) hr (by decide) QE (Qa 0) (Qd (Qa 1) (Qd (Qa 2) Qm)))))))))))
theorem zp:J7 P w K mg base "Weaver" "step_walk" 7 2 J5:=hM Z.u39 sc_Weaver_step_walk fun _ _ _ _ _ _ _ hr=>Qh (QK 2 sc_Weaver_step_walk.nd (QO (QS hr) (Qt Z.k7 (Qa 0)) (Qa 1))) (Qh (QK 3 sc_Weaver_step_walk.nd (QO (QS hr) (Qa 2) Qq)) (Qh (QK 4 sc_Weaver_step_walk.nd (JZ (UA Z) hr (by decide) QE (Qa 3))) (Qh (Zo (XZ (JZ (Uz Z) hr (by decide) QE (Qa 3))) (Qh (xW ZM (xU (QS hr) (Qt Z.k7 (Qa 0)) (Qa 1))) (Qp (ZK (Yp XL PySem.F.plainAttrs_list PySem.F.slot_list_append PySem.F.type_list_append (Qt Z.k4 (Qa 0)) (Qd (Qa 2) Qm))))) QG) (Qp (Qu (Qz Xb (Q9 (Qd (QO (QS hr) (Qa 4) Qq) (Qd (Qa 1) (Qd (QO (QS hr) (Qa 2) Qq) Qm)))) (Y5 (Qa 4) (JS Qq) JR)))))))
theorem qR:J7 P w K mg base "Weaver" "move" 8 2 ZE:=hM Z.u40 V4 fun _ _ _ _ _ _ _ hr=>Qh (Zo (zj (Vp QdW VL Qq (Qa 1) (Z8 Xg Z.z7 PySem.boot_len (Qd (Qt Z.k7 (Qa 0)) Qm)))) (Qp gO) QG) (Qh (Zo (Ze Qcj (QO (QS hr) (Qt Z.k7 (Qa 0)) (Qa 1)) ZM (QV _)) (Qp (Qu (Zj (zp Z) hr (by decide) QE (Qa 0) (Qd (Qa 1) Qm)))) QG) (Qh (Zo (Ze VL (Qt Z.k5 (Qa 0)) (Z8 Xg Z.z7 PySem.boot_len (Qd (Qt Z.k6 (Qa 0)) Qm)) (QV _)) (Qp (Qu (Zj (zq Z) hr (by decide) QE (Qa 0) (Qd (Qa 1) Qm)))) QG) (Qp (Qu (Q9 (Qd Zk (Qd (Qa 1) Qm)))))))
theorem YA:J7 P w K mg base "Weaver" "finish" 9 1 Z2:=hM Z.u41 sc_Weaver_finish fun _ _ _ _ _ _ _ hr=>Qh (QK 1 sc_Weaver_finish.nd (zO Qm)) (Qh (QK 2 sc_Weaver_finish.nd Qq) (Qh (Qbx 100000 PassesOwn.never (zj (XZ (JZ (yV Z) hr (by decide) QE (Qa 0)))) (Qh (ZK (Yp XL PySem.F.plainAttrs_list PySem.F.slot_list_append PySem.F.type_list_append (Qa 1) (Qd (Zj (qR Z) hr (by decide) QE (Qa 0) (Qd (Qa 2) Qm)) Qm))) (Qp (QK 2 sc_Weaver_finish.nd (Qz Y8 (Qz Xb (Qa 2) Qq) (Z8 Xg Z.z7 PySem.boot_len (Qd (Qt Z.k7 (Qa 0)) Qm))))))) (Qp (Qu (Qa 1)))))
theorem YR:Has P w K mg base "_law_noted" 1 4 Z4:=hf Z.u42 sc_law_noted fun _ _ _ _ _ _ _ hr=>Qh (Zo (Ze (kE (QS hr)) (QO (QS hr) (Qa 0) Qq) (Q9 (Qd Zk (Qd Zk (Qd Zk (Qd Zk Qm))))) (by with_unfolding_all rfl)) (Qp Qdt) QG) (Qh (QK 4 sc_law_noted.nd (QO (QS hr) (Qa 0) Qq)) (Qh (Zo (Ze (kE (QS hr)) (QO (QS hr) (Qa 0) Qq) (Q9 (Qd Zk (Qd Zk (Qd Zk Qm)))) (by with_unfolding_all rfl)) (Qp (xW (QO (QS hr) (Qa 0) Qq) (xU (QS hr) (Qa 2) (Qa 4)))) QG) (Qh (Zo (Ze (jg hr.units) (QO (QS hr) (Qa 0) Qq) Zk (QV _)) (Qp (xW (Qz Xb (Yp (Qb4 (QS hr)) PySem.F.plainAttrs_dict PySem.F.slot_dict_get PySem.F.type_dict_get (Qa 2) (Qd (Qa 4) (Qd (KZ Qm) Qm))) (gI Qfd Z.z5 boot_list (Qd (QO (QS hr) (Qa 0) Qq) Qm))) (xU (QS hr) (Qa 2) (Qa 4)))) QG) (Qh (QK 5 sc_law_noted.nd (XU (kE (QS hr)) (QO (QS hr) (Qa 0) Qq) (Q9 (Qd Zk (Qd Zk (Qd Zk Qm)))) (by with_unfolding_all rfl))) (Qh (Zo (Ze (kE (QS hr)) (QO (QS hr) (Qa 0) Qq) (Q9 (Qd Zk (Qd Zk Qm))) (by with_unfolding_all rfl)) (Qp (QK 5 sc_law_noted.nd (XU vC (QO (QS hr) (Qa 0) (K5 Qq)) ZM (QV _)))) QG) (Qh (Zo (Ze (jg hr.units) (QO (QS hr) (Qa 0) Qq) Zk (QV _)) (Qp (QK 5 sc_law_noted.nd (XU vC (QO (QS hr) (Qa 0) Qq) ZM (QV _)))) QG) (Qp (Zo (XZ (Qa 5)) (Qp (ZK (Yp XL PySem.F.plainAttrs_list PySem.F.slot_list_append PySem.F.type_list_append (Qa 3) (Qd (Q9 (Qd (Qa 4) (Qd (QO (QS hr) (Qa 2) (Qa 4)) Qm))) Qm)))) QG))))))))
theorem Ys:J7 P w K mg base "Weaver" "hand_in" 1 2 ZV:=hM Z.u43 xy fun _ _ _ _ _ _ _ hr=>Qh (ZK (Yp XL PySem.F.plainAttrs_list PySem.F.slot_list_append PySem.F.type_list_append (Qt Z.k6 (Qa 0)) (Qd (Qa 1) Qm))) (Qp (Qu (Qz yx (Z8 Xg Z.z7 PySem.boot_len (Qd (Qt Z.k6 (Qa 0)) Qm)) Qq)))
theorem zr:Has P w K mg base "_law_key" 1 1 Xu:=hf Z.u44 sc_law_key fun _ _ _ _ _ _ _ hr=>Qh (QK 1 sc_law_key.nd (Qz xk (Qa 0) Qq)) (Qh (Zo (Ze (QaQ hr.units) (Qz Y8 (Qa 0) Qq) Qq (QV _)) (Qp (Qu (Qz yx (Qz Y8 (Qz QfT (Qa 1) (Qz yw Qq Qq)) (Qz Xb (Qz QeZ Qq (Qz yw Qq Qq)) Qq)) (Qz yw Qq Qq)))) QG) (Qh (Zo (Ze (QaQ hr.units) (Qz Y8 (Qa 0) Qq) Qq (QV _)) (Qp (Qu (JF (KZ (Qd (Qz yw Qq Qq) (Qd (K5 (Qz yw Qq Qq)) (Qd (Qz yx (Qz yw Qq Qq) Qq) (Qd (Qz yx Qq (Qz yw Qq Qq)) Qm))))) (Qz Y8 (Qa 1) Qq)))) QG) (Qp (Qu (Qz yx (Qz Y8 (Qa 1) Qq) Qq)))))
theorem Gb:Has P w K mg base "_law_deed" 2 1 Yl:=hf Z.u45 sc_law_deed fun _ _ _ _ _ _ _ hr=>Qh (QK 1 sc_law_deed.nd (Qz Y8 (Qa 0) Qq)) (Qh (QK 2 sc_law_deed.nd (QZ (zr Z) hr (by decide) QE (Qd (Qz xk (Qa 0) Qq) Qm))) (Qh (Zo (Ze (QaQ hr.units) (Qa 1) Qq (QV _)) (Qp (Qu (Q9 (Qd Zk (Qd (Qa 2) Qm))))) QG) (Qh (Zo (Ze VL (Qa 1) Qq (QV _)) (Qp (Qu (Q9 (Qd Zk (Qd (Qa 2) (Qd (QZ (zr Z) hr (by decide) QE (Qd (Qz xk (Qa 0) Qq) Qm)) Qm)))))) QG) (Qh (Zo (Ze VL (Qa 1) Qq (QV _)) (Qp (Qu (Q9 (Qd Zk (Qd (Qa 2) Qm))))) QG) (Qh (QK 3 sc_law_deed.nd (QZ (zr Z) hr (by decide) QE (Qd (Qz xk (Qa 0) Qq) Qm))) (Qh (Zo (Ze (QaQ hr.units) (Qa 3) (Qa 2) (QV _)) (Qp (QK 3 sc_law_deed.nd (Qz yx (Qa 2) Qq))) QG) (Qh (Zo (Ze VL (Qa 3) (K5 (Qz yw Qq Qq)) (QV _)) (Qp (QK 3 sc_law_deed.nd (Qz Xb (Qa 2) Qq))) QG) (Qp (Qu (Q9 (Qd Zk (Qd (Z8 (QgS rfl) Z.z10 boot_min (Qd (Qa 2) (Qd (Qa 3) Qm))) (Qd (Z8 (QgR rfl) Z.z9 boot_max (Qd (Qa 2) (Qd (Qa 3) Qm))) Qm)))))))))))))
theorem UB:Has P w K mg base "_law_ahead" 1 1 Yy:=hf Z.u46 sc_law_ahead fun _ _ _ _ _ _ _ hr=>Qh (QK 1 sc_law_ahead.nd (QO (QS hr) (KZ (Qd Qq (Qd Qq (Qd Qq (Qd Qq (Qd Qq Qm)))))) (Qz Y8 (Qz xk (Qa 0) Qq) Qq))) (Qp (Qu (Yo (caps:=["step"]) (idx:=[1]) ⟨by with_unfolding_all rfl,by decide +kernel,rfl,by decide +kernel,rfl,(by exact ⟨rfl,trivial⟩),by with_unfolding_all rfl,(by exact ⟨rfl,.inl rfl,⟨_,rfl⟩,(fun h=>NameKind.noConfusion (Option.some.inj (show some NameKind.cell=some NameKind.local from h))),trivial⟩),by decide⟩ rfl (U5 (xV rfl Z.z11 (Qd (Qz Y8 (Qa 0) Qq) Qm))) (fun _ _ _ _=>jP) (fun _ _ _ _=>Q9 (Qd Zk (Qd (Qz yx (Qz Y8 (Qz QeZ (Qa 0) (Qa 1)) Qq) Qq) (Qd (Qz Xb Qq (Qa 0)) Qm)))))))
theorem jb:Qab P w K mg base "Weaver" 1 3 Jx:=hI Z.u47 jA fun _ _ _ _ _ _ _ hr=>Qh (Zd Z.k14 (Qa 0) (Qa 1)) (Qh (Zd Z.k6 (Qa 0) (zO Qm)) (Qh (Zd Z.k5 (Qa 0) Qq) (Qh (Zd Z.k7 (Qa 0) (Qz QfU (KZ (Qd ZM Qm)) (Qa 2))) (Qp (Zd Z.k4 (Qa 0) (zO Qm))))))
theorem ju:Qab P w K mg base "Shelf" 1 2 Zz:=hI Z.u48 xu fun _ _ _ _ _ _ _ hr=>let ⟨_,g_EMPTY_LEAF,q_EMPTY_LEAF⟩:=Z.t0.ex;Qh (Zd Z.k17 (Qa 0) (Qa 1)) (Qh (Zd Z.k15 (Qa 0) (zO (Qd (Qdq rfl g_EMPTY_LEAF q_EMPTY_LEAF) Qm))) (Qh (Zd Z.k18 (Qa 0) Qq) (Qh (Zd Z.k19 (Qa 0) Qq) (Qp (Zd Z.k16 (Qa 0) Qq)))))
theorem yW:Has P w K mg base "_law_cell_at" 1 2 Jr:=hf Z.u49 V6 fun _ _ _ _ _ _ _ hr=>Qh (Zo (Ze VL (Qa 1) (Z8 gF Z.z7 PySem.boot_len (Qd (Qa 0) Qm)) (QV _)) (Qp (Qu (JF (Qa 0) (Qa 1)))) QG) (Qp (Qu Qq))
theorem law_fn {g:Addr} {fd:FuncData} (F:Fun K "law" "law" yD g fd):q8 P w K mg base CX0 10 g fd ["script"] (spD K 1 GP):=Qg0 F sc_law fun _ _ _ _ _ _ hr=>Qh (QK 1 sc_law.nd (QZ (yW Z) hr (by decide) QE (Qd (Qa 0) (Qd Qq Qm)))) (Qh (QK 2 sc_law.nd (Qz Xb Qq (Qz Y8 (Qa 1) Qq))) (Qh (QK 3 sc_law.nd (K4 (jb Z) hr (by decide) QE (Qd (K4 (ju Z) hr (by decide) QE (Qd (Qz Xb Qq (Qz Y8 (Qz xk (Qa 1) Qq) Qq)) Qm)) (Qd (Qa 2) Qm)))) (Qh (QK 4 sc_law.nd (QZ (UB Z) hr (by decide) QE (Qd (Qz xk (Qa 1) Qq) Qm))) (Qh (QK 5 sc_law.nd G7) (Qh (QK 6 sc_law.nd (zO Qm)) (Qh (zQ PassesOwn.never rfl (qz (Qa 4)) (Vb 7 sc_law.nd) (Qp (ZK (Zj (Ys Z) hr (by decide) QE (Qa 3) (Qd (Qa 7) Qm))))) (Qh (zQ PassesOwn.never rfl (qz (JZ (YA Z) hr (by decide) QE (Qa 3))) (Vb 8 sc_law.nd) (Qp (ZK (QZ (YR Z) hr (by decide) QE (Qd (Qa 8) (Qd (Qa 4) (Qd (Qa 5) (Qd (Qa 6) Qm)))))))) (Qh (zQ PassesOwn.never rfl (U5 (xV rfl Z.z11 (Qd (Z8 Xg Z.z7 PySem.boot_len (Qd (Qa 0) Qm)) Qm))) (Vb 9 sc_law.nd) (Qh (Zo (Ze VL (Qa 9) Qq (QV _)) (Qh (ZK (Yp XL PySem.F.plainAttrs_list PySem.F.slot_list_append PySem.F.type_list_append (Qa 4) (Qd (QZ (Gb Z) hr (by decide) QE (Qd (QO (QS hr) (Qa 0) (Qa 9)) Qm)) Qm))) (Qp (ZK (Zj (Ys Z) hr (by decide) QE (Qa 3) (Qd (QO (QS hr) (Qa 4) (K5 Qq)) Qm))))) QG) (Qh (ZK (QZ (YR Z) hr (by decide) QE (Qd (Zj (qR Z) hr (by decide) QE (Qa 3) (Qd (Qz Y8 (Qz xk (QO (QS hr) (Qa 0) (Qa 9)) Qq) (Qa 2)) Qm)) (Qd (Qa 4) (Qd (Qa 5) (Qd (Qa 6) Qm)))))) (Qp (Zo (zj (XZ (QZ (Xr Z) hr (by decide) QE (Qd (Qa 3) (Qd (Qa 6) Qm))))) (Qp (Qu Y4)) QG))))) (Qh (zQ PassesOwn.never rfl (qz (JZ (YA Z) hr (by decide) QE (Qa 3))) (Vb 8 sc_law.nd) (Qp (ZK (QZ (YR Z) hr (by decide) QE (Qd (Qa 8) (Qd (Qa 4) (Qd (Qa 5) (Qd (Qa 6) Qm)))))))) (Qp (Qu (xR (QZ (Xr Z) hr (by decide) QE (Qd (Qa 3) (Qd (Qa 6) Qm))) (xS (XU (jg hr.units) (Z8 (Qal rfl) Z.z12 boot_sorted (Qd (Yo (caps:=[]) (idx:=[]) ⟨by with_unfolding_all rfl,by decide +kernel,rfl,by decide +kernel,rfl,(by exact trivial),by with_unfolding_all rfl,(by exact trivial),by decide⟩ rfl (qz (Qa 6)) (fun _ _ _ _=>jP) (fun _ _ _ _=>QO (QS hr) (Qa 0) Qq)) Qm)) (Yo (caps:=[]) (idx:=[]) ⟨by with_unfolding_all rfl,by decide +kernel,rfl,by decide +kernel,rfl,(by exact trivial),by with_unfolding_all rfl,(by exact trivial),by decide⟩ rfl (U5 (xV rfl Z.z11 (Qd (Z8 Xg Z.z7 PySem.boot_len (Qd (Qa 4) Qm)) Qm))) (fun _ _ _ _=>jP) (fun _ _ _ _=>Qa 0)) (QV _)))))))))))))))
end
def _root_.PySem.W.Fast.tw3424414782628962454:Nat:=0
def _root_.PySem.W.Fast.tw13219890943959542479:Nat:=0
def _root_.PySem.W.Fast.tw10323511677262596646:Nat:=0
def _root_.PySem.W.Fast.tw6890566077011792603:Nat:=0
def _root_.PySem.W.Fast.tw2289730351263785957:Nat:=0
def _root_.PySem.W.Fast.tw4171009115121017738:Nat:=0
def _root_.PySem.W.Fast.tw2313840177428728351:Nat:=0
def _root_.PySem.W.Fast.tw12542626434407403046:Nat:=0
def _root_.PySem.W.Fast.tw8059842280319315957:Nat:=0
def _root_.PySem.W.Fast.tw3508525604688928627:Nat:=0
def _root_.PySem.W.Fast.tw12399923220926276781:Nat:=0
def _root_.PySem.W.Fast.tw15864323645932002060:Nat:=0
def _root_.PySem.W.Fast.tw4741942004686726408:Nat:=0
def _root_.PySem.W.Fast.tw14272882409146581225:Nat:=0
def _root_.PySem.W.Fast.tw2064854128865291066:Nat:=0
def _root_.PySem.W.Fast.tw4617935498653172361:Nat:=0
def _root_.PySem.W.Fast.tw1625205155911456866:Nat:=0
def _root_.PySem.W.Fast.tw8355270331481051525:Nat:=0
def _root_.PySem.W.Fast.tw4635609200159402141:Nat:=0
def _root_.PySem.W.Fast.tw17249701640828888240:Nat:=0
def _root_.PySem.W.Fast.tw18218042815041356044:Nat:=0
def _root_.PySem.W.Fast.tw3564068552949007477:Nat:=0
def _root_.PySem.W.Fast.tw12611674082947784014:Nat:=0
def _root_.PySem.W.Fast.tw6195197638316310275:Nat:=0
def _root_.PySem.W.Fast.tw11312784516679743021:Nat:=0
def _root_.PySem.W.Fast.tw10106746962360343981:Nat:=0
def _root_.PySem.W.Fast.tw3227365264456574692:Nat:=0
def _root_.PySem.W.Fast.tw5569248314944335859:Nat:=0
def _root_.PySem.W.Fast.tw12644266822557293358:Nat:=0
def _root_.PySem.W.Fast.tw866682030211862462:Nat:=0
def _root_.PySem.W.Fast.tw10161545037603929902:Nat:=0
def _root_.PySem.W.Fast.tw16647103868984499875:Nat:=0
def _root_.PySem.W.Fast.tw8691820187231224588:Nat:=0
def _root_.PySem.W.Fast.tw13586008584792828579:Nat:=0
def _root_.PySem.W.Fast.tw9318034096043493086:Nat:=0
def _root_.PySem.W.Fast.tw8844057216564815417:Nat:=0
def _root_.PySem.W.Fast.tw16282492620219446374:Nat:=0
def _root_.PySem.W.Fast.tw7572563065841872307:Nat:=0
def _root_.PySem.W.Fast.tw1999748361633327974:Nat:=0
def _root_.PySem.W.Fast.tw11586867666118130763:Nat:=0
def _root_.PySem.W.Fast.tw1300748555683685309:Nat:=0
def _root_.PySem.W.Fast.tw18305524590683145840:Nat:=0
def _root_.PySem.W.Fast.tw6781035617487718842:Nat:=0
def _root_.PySem.W.Fast.tw18340987161756443613:Nat:=0
def _root_.PySem.W.Fast.tw5035573388164888828:Nat:=0
def _root_.PySem.W.Fast.tw1014970342617956234:Nat:=0
def _root_.PySem.W.Fast.tw4836393774822447977:Nat:=0
def _root_.PySem.W.Fast.tw3730649487539472227:Nat:=0
def _root_.PySem.W.Fast.tw3465465133892012391:Nat:=0
def _root_.PySem.W.Fast.tw11406332231103269152:Nat:=0
def _root_.PySem.W.Fast.tw4785935546460664008:Nat:=0
def _root_.PySem.W.Fast.tw399271309525379206:Nat:=0
def _root_.PySem.W.Fast.tw4514516703835487232:Nat:=0
def _root_.PySem.W.Fast.tw362905389406266916:Nat:=0
def _root_.PySem.W.Fast.tw5927772547965095031:Nat:=0
def _root_.PySem.W.Fast.tw16089137657119702350:Nat:=0
def _root_.PySem.W.Fast.tw14760908469714048601:Nat:=0
def _root_.PySem.W.Fast.tw14384264827658462231:Nat:=0
def _root_.PySem.W.Fast.tw17000307326280335194:Nat:=0
def _root_.PySem.W.Fast.tw8937745207479887325:Nat:=0
def _root_.PySem.W.Fast.tw5535378582915459412:Nat:=0
def _root_.PySem.W.Fast.tw16880318590149265614:Nat:=0
def _root_.PySem.W.Fast.tw1427876442001928939:Nat:=0
def _root_.PySem.W.Fast.tw2784899483617959944:Nat:=0
def _root_.PySem.W.Fast.tw10911091330907439950:Nat:=0
def _root_.PySem.W.Fast.tw10321884980649304005:Nat:=0
def _root_.PySem.W.Fast.tw9717022468984423263:Nat:=0
def _root_.PySem.W.Fast.tw723423907520058300:Nat:=0
def _root_.PySem.W.Fast.tw2055122951345711441:Nat:=0
def _root_.PySem.W.Fast.tw4510683478363419018:Nat:=0
def _root_.PySem.W.Fast.tw16511249894503749635:Nat:=0
def _root_.PySem.W.Fast.tw9496080438446681190:Nat:=0
def _root_.PySem.W.Fast.tw12133583525664348717:Nat:=0
def _root_.PySem.W.Fast.tw14181081739445488699:Nat:=0
def _root_.PySem.W.Fast.tw15238881365429551123:Nat:=0
def _root_.PySem.W.Fast.tw6372466675963821902:Nat:=0
def _root_.PySem.W.Fast.tw18186191483712870162:Nat:=0
def _root_.PySem.W.Fast.tw2925823757293666667:Nat:=0
def _root_.PySem.W.Fast.tw18217763342984871172:Nat:=0
def _root_.PySem.W.Fast.tw12554104222777344053:Nat:=0
def _root_.PySem.W.Fast.tw7905149843806319377:Nat:=0
def _root_.PySem.W.Fast.tw10644283769517111172:Nat:=0
def _root_.PySem.W.Fast.tw430770781353637107:Nat:=0
def _root_.PySem.W.Fast.tw7073475722253609312:Nat:=0
def _root_.PySem.W.Fast.tw14716421141643930097:Nat:=0
def _root_.PySem.W.Fast.tw10959915524517774897:Nat:=0
def _root_.PySem.W.Fast.tw11453060850250046938:Nat:=0
def _root_.PySem.W.Fast.tw6289025274209192894:Nat:=0
def _root_.PySem.W.Fast.tw12542888349505155261:Nat:=0
def _root_.PySem.W.Fast.tw14325011742113658977:Nat:=0
def _root_.PySem.W.Fast.tw13629134454082601948:Nat:=0
def _root_.PySem.W.Fast.tw1612441993539611349:Nat:=0
def _root_.PySem.W.Fast.tw16529176583773339:Nat:=0
def _root_.PySem.W.Fast.tw17987885564366429448:Nat:=0
def _root_.PySem.W.Fast.tw16431024503999856797:Nat:=0
def _root_.PySem.W.Fast.tw1401739362622787092:Nat:=0
def _root_.PySem.W.Fast.tw11094402240103579819:Nat:=0
def _root_.PySem.W.Fast.tw17042926422673381247:Nat:=0
def _root_.PySem.W.Fast.tw65399672607120426:Nat:=0
def _root_.PySem.W.Fast.tw13052276787630653329:Nat:=0
def _root_.PySem.W.Fast.tw12747517279816035846:Nat:=0
def _root_.PySem.W.Fast.tw15248241175785260930:Nat:=0
def _root_.PySem.W.Fast.tw2441525921673905094:Nat:=0
def _root_.PySem.W.Fast.tw16099775648881438502:Nat:=0
def _root_.PySem.W.Fast.tw14356486697678943193:Nat:=0
def _root_.PySem.W.Fast.tw12232195924661794581:Nat:=0
def _root_.PySem.W.Fast.tw12922147111535067194:Nat:=0
def _root_.PySem.W.Fast.tw9895746086283508039:Nat:=0
def _root_.PySem.W.Fast.tw3735761884077138760:Nat:=0
def _root_.PySem.W.Fast.tw5869425586776457914:Nat:=0
def _root_.PySem.W.Fast.tw14470498589311683686:Nat:=0
def _root_.PySem.W.Fast.tw7789442975292831084:Nat:=0
def _root_.PySem.W.Fast.tw11938752942196284143:Nat:=0
def _root_.PySem.W.Fast.tw9565541345808468687:Nat:=0
def _root_.PySem.W.Fast.tw15549389320971231312:Nat:=0
def _root_.PySem.W.Fast.tw2410396952797716750:Nat:=0
def _root_.PySem.W.Fast.tw4748653471757999187:Nat:=0
def _root_.PySem.W.Fast.tw3064763128939591344:Nat:=0
def _root_.PySem.W.Fast.tw628289255909379247:Nat:=0
def _root_.PySem.W.Fast.tw18311836410470821673:Nat:=0
def _root_.PySem.W.Fast.tw14273530504292312806:Nat:=0
def _root_.PySem.W.Fast.tw12821795509690153879:Nat:=0
def _root_.PySem.W.Fast.tw13655384657506826421:Nat:=0
def _root_.PySem.W.Fast.tw8257035184155816425:Nat:=0
def _root_.PySem.W.Fast.tw9637239605898352576:Nat:=0
def _root_.PySem.W.Fast.tw4041117219350135399:Nat:=0
def _root_.PySem.W.Fast.tw5683222708504853113:Nat:=0
def _root_.PySem.W.Fast.tw12379927286200670915:Nat:=0
def _root_.PySem.W.Fast.tw6986198252676986690:Nat:=0
def _root_.PySem.W.Fast.tw7681286363174822042:Nat:=0
def _root_.PySem.W.Fast.tw5908437052908585943:Nat:=0
def _root_.PySem.W.Fast.tw15347944812945355598:Nat:=0
def _root_.PySem.W.Fast.tw13223135055010920255:Nat:=0
def _root_.PySem.W.Fast.tw9981344473252217142:Nat:=0
def _root_.PySem.W.Fast.tw11896769259821217221:Nat:=0
def _root_.PySem.W.Fast.tw10661318610385032122:Nat:=0
def _root_.PySem.W.Fast.tw8074176868480286835:Nat:=0
def _root_.PySem.W.Fast.tw3613185033998181066:Nat:=0
def _root_.PySem.W.Fast.tw15472250403339945848:Nat:=0
def _root_.PySem.W.Fast.tw1481113092617843979:Nat:=0
def _root_.PySem.W.Fast.tw15614078754699898501:Nat:=0
def _root_.PySem.W.Fast.tw8828493059486120802:Nat:=0
def _root_.PySem.W.Fast.tw11661190032810168680:Nat:=0
def _root_.PySem.W.Fast.tw8882455126594459733:Nat:=0
def _root_.PySem.W.Fast.tw9467009640682598194:Nat:=0
def _root_.PySem.W.Fast.tw6151366449450751491:Nat:=0
def _root_.PySem.W.Fast.tw4537273208673408306:Nat:=0
def _root_.PySem.W.Fast.tw11436397056388116020:Nat:=0
def _root_.PySem.W.Fast.tw33287309798183085:Nat:=0
def _root_.PySem.W.Fast.tw6483545182432518317:Nat:=0
def _root_.PySem.W.Fast.tw12495699767978027035:Nat:=0
def _root_.PySem.W.Fast.tw2874345132369028769:Nat:=0
def _root_.PySem.W.Fast.tw15248709497021630107:Nat:=0
def _root_.PySem.W.Fast.tw14681346738123091500:Nat:=0
def _root_.PySem.W.Fast.tw16555561183119383284:Nat:=0
def _root_.PySem.W.Fast.tw1486990082473791052:Nat:=0
def _root_.PySem.W.Fast.tw9910795113507929461:Nat:=0
def _root_.PySem.W.Fast.tw7673278259851723220:Nat:=0
def _root_.PySem.W.Fast.tw13564796601238594745:Nat:=0
def _root_.PySem.W.Fast.tw18385963385597952885:Nat:=0
def _root_.PySem.W.Fast.tw7234231971425828746:Nat:=0
def _root_.PySem.W.Fast.tw12423938145839234125:Nat:=0
def _root_.PySem.W.Fast.tw6225038360533250452:Nat:=0
def _root_.PySem.W.Fast.tw2806558805508078335:Nat:=0
def _root_.PySem.W.Fast.tw16498315541296604150:Nat:=0
def _root_.PySem.W.Fast.tw11751465150682805724:Nat:=0
def _root_.PySem.W.Fast.tw10373673810413704758:Nat:=0
def _root_.PySem.W.Fast.tw8130000846499171093:Nat:=0
def _root_.PySem.W.Fast.tw10470931903387354044:Nat:=0
def _root_.PySem.W.Fast.tw13377984396442778015:Nat:=0
def _root_.PySem.W.Fast.tw5012250855830374974:Nat:=0
def _root_.PySem.W.Fast.tw16856229608356152772:Nat:=0
def _root_.PySem.W.Fast.tw451425112055143405:Nat:=0
def _root_.PySem.W.Fast.tw294177557369067074:Nat:=0
def _root_.PySem.W.Fast.tw4283910609232974761:Nat:=0
def _root_.PySem.W.Fast.tw2509498009300026557:Nat:=0
def _root_.PySem.W.Fast.tw15467639856843779607:Nat:=0
def _root_.PySem.W.Fast.tw10102713076440665742:Nat:=0
def _root_.PySem.W.Fast.tw6015602755285309418:Nat:=0
def _root_.PySem.W.Fast.tw9395106740451016479:Nat:=0
def _root_.PySem.W.Fast.tw3690307636738872221:Nat:=0
def _root_.PySem.W.Fast.tw15619945291282872450:Nat:=0
def _root_.PySem.W.Fast.tw4902796951152479088:Nat:=0
def _root_.PySem.W.Fast.tw7307280264892325432:Nat:=0
def _root_.PySem.W.Fast.tw5239376343288354852:Nat:=0
def _root_.PySem.W.Fast.tw14787022963744081726:Nat:=0
def _root_.PySem.W.Fast.tw6568204893445162073:Nat:=0
def _root_.PySem.W.Fast.tw15328645963756726842:Nat:=0
def _root_.PySem.W.Fast.tw16885783752986443787:Nat:=0
def _root_.PySem.W.Fast.tw16200210677615689799:Nat:=0
def _root_.PySem.W.Fast.tw6674241405874794652:Nat:=0
def _root_.PySem.W.Fast.tw8117999242970516871:Nat:=0
def _root_.PySem.W.Fast.tw18225257593688522554:Nat:=0
def _root_.PySem.W.Fast.tw7311975892988545362:Nat:=0
def _root_.PySem.W.Fast.tw6582975183487341572:Nat:=0
def shF (r:Int) (k:Nat) (t a b:Int):List (Str×DV):=[("page_room", .int r),("kept", .ref k),("top", .int t),("read_count", .int a),("write_count", .int b)]
theorem QcR (r:Int) (k:Nat) (t a b:Int):List.lookup ("page_room" : Str) (shF r k t a b)=some (DV.int r):=by rfl
theorem qi (r:Int) (k:Nat) (t a b:Int):List.lookup ("kept" : Str) (shF r k t a b)=some (DV.ref k):=by rfl
theorem kP (r:Int) (k:Nat) (t a b:Int):List.lookup ("top" : Str) (shF r k t a b)=some (DV.int t):=by rfl
theorem Qe2 (r:Int) (k:Nat) (t a b:Int):List.lookup ("write_count" : Str) (shF r k t a b)=some (DV.int b):=by rfl
theorem Qhz (r:Int) (k:Nat) (t a b:Int):List.lookup ("read_count" : Str) (shF r k t a b)=some (DV.int a):=by rfl
theorem vS (r:Int) (k:Nat) (t a b c:Int):JI ("write_count" : Str) (.int c) (shF r k t a b)=shF r k t a c:=by rfl
theorem QcP (r:Int) (k:Nat) (t a b c:Int):JI ("read_count" : Str) (.int c) (shF r k t a b)=shF r k t c b:=by rfl
theorem QcQ (r:Int) (k:Nat) (t a b c:Int):JI ("top" : Str) (.int c) (shF r k t a b)=shF r k c a b:=by rfl
theorem Ve (r:Int) (k:Nat) (t a b:Int):(shF r k t a b).length=5:=rfl
theorem yk (r:Int) (k:Nat) (t a b:Int):List.lookup ("check_number" : Str) (shF r k t a b)=none:=by rfl
theorem Kv (r:Int) (k:Nat) (t a b:Int):List.lookup ("lay" : Str) (shF r k t a b)=none:=by rfl
theorem gi (r:Int) (k:Nat) (t a b:Int):List.lookup ("read" : Str) (shF r k t a b)=none:=by rfl
theorem zE (r:Int) (k:Nat) (t a b:Int):List.lookup ("write" : Str) (shF r k t a b)=none:=by rfl
theorem gj (r:Int) (k:Nat) (t a b:Int):List.lookup ("root" : Str) (shF r k t a b)=none:=by rfl
theorem vR (r:Int) (k:Nat) (t a b:Int):List.lookup ("raise_root" : Str) (shF r k t a b)=none:=by rfl
theorem QcO (r:Int) (k:Nat) (t a b:Int):List.lookup ("room" : Str) (shF r k t a b)=none:=by rfl
theorem vQ (r:Int) (k:Nat) (t a b:Int):List.lookup ("pages" : Str) (shF r k t a b)=none:=by rfl
section
variable {r t a b:Int} {n k:Nat} {ps:List DV} {hp:Hs}
theorem Qcl (h1:hp[n]?=some (.ins "Shelf" (shF r k t a b))) (h2:hp[k]?=some (.lst ps)):Xy [.ref n] hp=some (.int ps.length,hp):=by
 simp [Xy,jd,Q5,Qr,QM,QN,YF,sIf,Zf,VT,yS,VR,VS,Qk,Qb,eC,eB,asB,qA,eOr,Xc,J0,Vt,Y6,eIf,X6,Qn,Qc,Zg,Yw,QH,ZB,Qv,gN,Jn,JL,Jz,JA,JW,JT,JH,qT,zy,VP,Z6,Xl,Zu,Q8,X0,GA,XM,gSb,yh,Jf,XI,Qw,js,jC,onI,onL,onD,Zh,X8,xb,XJ,ixG,JD,qG,zx,XH,zh,asI,zd,GJ,QD,J1,Xk,Xj,jQ,evP,JJ,Yb,JK,Xm,JX,Ya,Yd,Yc,Zt,QI,Jk,h1,h2,qi]
theorem Qes (h1:hp[n]?=some (.ins "Shelf" (shF r k t a b))):JN [.ref n] hp=some (.int t,hp):=by
 simp [JN,jJ,Q5,Qr,QM,QN,YF,sIf,Zf,VT,yS,VR,VS,Qk,Qb,eC,eB,asB,qA,eOr,Xc,J0,Vt,Y6,eIf,X6,Qn,Qc,Zg,Yw,QH,ZB,Qv,gN,Jn,JL,Jz,JA,JW,JT,JH,qT,zy,VP,Z6,Xl,Zu,Q8,X0,GA,XM,gSb,yh,Jf,XI,Qw,js,jC,onI,onL,onD,Zh,X8,xb,XJ,ixG,JD,qG,zx,XH,zh,asI,zd,GJ,QD,J1,Xk,Xj,jQ,evP,JJ,Yb,JK,Xm,JX,Ya,Yd,Yc,Zt,QI,Jk,h1,kP]
theorem Qer (h1:hp[n]?=some (.ins "Shelf" (shF r k t a b))):Ji [.ref n] hp=some (.int r,hp):=by
 simp [Ji,jI,Q5,Qr,QM,QN,YF,sIf,Zf,VT,yS,VR,VS,Qk,Qb,eC,eB,asB,qA,eOr,Xc,J0,Vt,Y6,eIf,X6,Qn,Qc,Zg,Yw,QH,ZB,Qv,gN,Jn,JL,Jz,JA,JW,JT,JH,qT,zy,VP,Z6,Xl,Zu,Q8,X0,GA,XM,gSb,yh,Jf,XI,Qw,js,jC,onI,onL,onD,Zh,X8,xb,XJ,ixG,JD,qG,zx,XH,zh,asI,zd,GJ,QD,J1,Xk,Xj,jQ,evP,JJ,Yb,JK,Xm,JX,Ya,Yd,Yc,Zt,QI,Jk,h1,QcR]
theorem Vk {i:Int} (h1:hp[n]?=some (.ins "Shelf" (shF r k t a b))) (h2:hp[k]?=some (.lst ps)) (i0:0<=i) (i1:i < ps.length) :
  Zs [.ref n,.int i] hp=some (.non,hp):=by
 have q0:¬ i < 0:=by omega
 have q1:¬ (ps.length:Int)<=i:=by omega
 simp [Zs,XE,Q5,Qr,QM,QN,YF,sIf,Zf,VT,yS,VR,VS,Qk,Qb,eC,eB,asB,qA,eOr,Xc,J0,Vt,Y6,eIf,X6,Qn,Qc,Zg,Yw,QH,ZB,Qv,gN,Jn,JL,Jz,JA,JW,JT,JH,qT,zy,VP,Z6,Xl,Zu,Q8,X0,GA,XM,gSb,yh,Jf,XI,Qw,js,jC,onI,onL,onD,Zh,X8,xb,XJ,ixG,JD,qG,zx,XH,zh,asI,zd,GJ,QD,J1,Xk,Xj,jQ,evP,JJ,Yb,JK,Xm,JX,Ya,Yd,Yc,Zt,QI,Jk,Xi,h1,h2,qi,i0,i1,q0,q1]
theorem Qep {i:Nat} {d:DV} (h1:hp[n]?=some (.ins "Shelf" (shF r k t a b))) (h2:hp[k]?=some (.lst ps)) (hnk:n≠k) (hd:ps[i]?=some d) :
  JM [.ref n,.int i] hp=some (d,hp.set n (.ins "Shelf" (shF r k t (a+1) b))):=by
 have i1:i < ps.length:=(List.getElem?_eq_some_iff.mp hd).1
 have c:=Vk (i:=(i:Int)) h1 h2 (by omega) (by omega)
 have hd':=qv hd
 simp [JM,jH,Q5,Qr,QM,QN,YF,sIf,Zf,VT,yS,VR,VS,Qk,Qb,eC,eB,asB,qA,eOr,Xc,J0,Vt,Y6,eIf,X6,Qn,Qc,Zg,Yw,QH,ZB,Qv,gN,Jn,JL,Jz,JA,JW,JT,JH,qT,zy,VP,Z6,Xl,Zu,Q8,X0,GA,XM,gSb,yh,Jf,XI,Qw,js,jC,onI,onL,onD,Zh,X8,xb,XJ,ixG,JD,qG,zx,XH,zh,asI,zd,GJ,QD,J1,Xk,Xj,jQ,evP,JJ,Yb,JK,Xm,JX,Ya,Yd,Yc,Zt,QI,Jk,h1,h2,c,qi,Qhz,QcP,Ve,yk,hd',hnk,hnk.symm]
theorem Ul {i:Nat} {d:DV} (h1:hp[n]?=some (.ins "Shelf" (shF r k t a b))) (h2:hp[k]?=some (.lst ps)) (hnk:n≠k) (i1:i < ps.length) :
  Jp [.ref n,.int i,d] hp=some (.non,(hp.set n (.ins "Shelf" (shF r k t a (b+1)))).set k (.lst (ps.set i d))):=by
 have c:=Vk (i:=(i:Int)) h1 h2 (by omega) (by omega)
 simp [Jp,je,Q5,Qr,QM,QN,YF,sIf,Zf,VT,yS,VR,VS,Qk,Qb,eC,eB,asB,qA,eOr,Xc,J0,Vt,Y6,eIf,X6,Qn,Qc,Zg,Yw,QH,ZB,Qv,gN,Jn,JL,Jz,JA,JW,JT,JH,qT,zy,VP,Z6,Xl,Zu,Q8,X0,GA,XM,gSb,yh,Jf,XI,Qw,js,jC,onI,onL,onD,Zh,X8,xb,XJ,ixG,JD,qG,zx,XH,zh,asI,zd,GJ,QD,J1,Xk,Xj,jQ,evP,JJ,Yb,JK,Xm,JX,Ya,Yd,Yc,Zt,QI,Jk,h1,h2,c,qi,Qe2,vS,Ve,yk,hnk,hnk.symm,kj i1]
theorem Qb0 {pg:DV} (h1:hp[n]?=some (.ins "Shelf" (shF r k t a b))) (h2:hp[k]?=some (.lst ps)) (hnk:n≠k) (hl:ps.length < 99999) :
  XC [.ref n,pg] hp=some (.int ps.length,(hp.set n (.ins "Shelf" (shF r k t a (b+1)))).set k (.lst (ps++[pg]))):=by
 have hlim:ps.length < lim:=by unfold lim;omega
 simp [XC,yo,Q5,Qr,QM,QN,YF,sIf,Zf,VT,yS,VR,VS,Qk,Qb,eC,eB,asB,qA,eOr,Xc,J0,Vt,Y6,eIf,X6,Qn,Qc,Zg,Yw,QH,ZB,Qv,gN,Jn,JL,Jz,JA,JW,JT,JH,qT,zy,VP,Z6,Xl,Zu,Q8,X0,GA,XM,gSb,yh,Jf,XI,Qw,js,jC,onI,onL,onD,Zh,X8,xb,XJ,ixG,JD,qG,zx,XH,zh,asI,zd,GJ,QD,J1,Xk,Xj,jQ,evP,JJ,Yb,JK,Xm,JX,Ya,Yd,Yc,Zt,QI,Jk,h1,h2,qi,Qe2,vS,Ve,hlim,hnk,hnk.symm]
end
def Zp (l:Int) (ks ps:List Int) (hi sd:Option Int):DV:=.tup [.int l,.tup (ks.map .int),.tup (ps.map .int),opt hi,opt sd]
def hiB (hi:Option Int) (k:Int):Bool:=match hi with
 | none=>false
 | some h=>decide (h<=k)
def cLe (ks:List Int) (k:Int):Nat:=(ks.filter fun x=>decide (x<=k)).length
def cLt (ks:List Int) (k:Int):Nat:=(ks.filter fun x=>decide (x < k)).length
theorem Xv (ks:List Int) (k:Int):cLe ks k<=ks.length:=List.length_filter_le _ _
theorem xO (ks:List Int) (k:Int):cLt ks k<=ks.length:=List.length_filter_le _ _
theorem Qgv {f:DEx} {env:En} {hp:Hs} {ds:List DV} (hf:f env hp=some (.tup ds,hp)):iTp f env hp=some (ds,hp):=by
 unfold iTp;rw [Qg hf];rfl
theorem Qbm {t:DTx} {p:Int->Bool} (ks:List Int) (k:Int) (hl:ks.length<=100) (ht:∀ x hp,t [.val (.int x),.val (.int k)] hp=some (p x,hp)) (hp:Hs):ZB JD (Qc (Je false (xOf (iTp (Qb 0))) [1] t (Qb 0)) Qn) [.val (.tup (ks.map .int)),.val (.int k)] hp=some (.int (ks.filter p).length,hp):=by
 have q:Je false (xOf (iTp (Qb 0))) [1] t (Qb 0) [.val (.tup (ks.map .int)),.val (.int k)] hp=some (.lst (((ks.filter p).map fun x=>x).map .int),hp):=by
  unfold Je
  rw [Qg (GM (Qgv (ds:=ks.map .int) (Qe rfl)))]
  exact (Qg (uv (p:=p) (g:=fun x=>x) ks (fun i hi=>jx (ks.map .int) i (by rw [List.length_map];exact hi) hp) (fun x=>ht x hp) (fun x=>rfl) (by omega))).trans rfl
 rw [XS (ZI q) (vt ..),List.length_map,List.length_map]
theorem KW (ks:List Int) (k:Int) (hl:ks.length<=100):Zw [.tup (ks.map .int),.int k]=pure (.int (cLe ks k)):=gD fun hp=>Qy (env:=[.val (.tup (ks.map .int)),.val (.int k)]) (QB (Qbm ks k hl (fun _ _=>rfl) hp))
theorem QeR (ks:List Int) (k:Int) (hl:ks.length<=100):XA [.tup (ks.map .int),.int k]=pure (.int (cLt ks k)):=gD fun hp=>Qy (env:=[.val (.tup (ks.map .int)),.val (.int k)]) (QB (Qbm ks k hl (fun _ _=>rfl) hp))
theorem Qaj (l:Int) (ks ps:List Int) (hi sd:Option Int) (k:Int):YV [Zp l ks ps hi sd,.int k]=pure (.bl (hiB hi k)):=by
 cases hi<;>rfl
theorem QfB (l:Int) (ks ps:List Int) (hi sd:Option Int) (k:Int) (hl:ks.length<=100) (hp:ps.length=ks.length+1):YW [Zp l ks ps hi sd,.int k]=pure (.int (ps.getD (cLe ks k) 0)):=by
 have h:=Xv ks k
 have a:=KP ps (i:=(cLe ks k:Int)) (by omega) (by omega)
 rw [Int.toNat_natCast] at a
 refine YD (Ye (zR (x:=.tup (ps.map .int)) (y:=.int (cLe ks k)) rfl (xX (x:=.tup (ks.map .int)) (y:=.int k) rfl rfl (KW ks k hl)) ?_))<;>try exact []
 simp [ixD,a]
theorem Qc7 (l:Int) (ks ps:List Int) (hi sd:Option Int) (k:Int) (hl:ks.length<=100) (hp:ps.length=ks.length):J6 [Zp l ks ps hi sd,.int k]=pure (if cLt ks k=cLe ks k then .non else .int (ps.getD (cLt ks k) 0)):=by
 have h:=Xv ks k
 have hlt:=xO ks k
 refine YD (env:=[.val (Zp l ks ps hi sd),.val (.int k),.val (.tup (ks.map .int)),.val (.int (cLt ks k))]) ?_
 refine (ZS (Z1 (d:=.tup (ks.map .int)) rfl)).trans ?_
 refine (ZS (Z1 (d:=.int (cLt ks k)) (xX (x:=.tup (ks.map .int)) (y:=.int k) rfl rfl (QeR ks k hl)))).trans ?_
 have tst:eB (Qk eqD (Qb 3) (QH 2 Zw (Qc (Qb 2) (Qc (Qb 1) Qn)))) [.val (Zp l ks ps hi sd),.val (.int k),.val (.tup (ks.map .int)),.val (.int (cLt ks k))]=pure (decide (cLt ks k=cLe ks k)):=by
  refine QgW (zR (x:=.int (cLt ks k)) (y:=.int (cLe ks k)) rfl (xX (x:=.tup (ks.map .int)) (y:=.int k) rfl rfl (KW ks k hl)) ?_)
  rw [Z6]
  congr 2
  rw [Bool.eq_iff_iff];simp only [beq_iff_eq,decide_eq_true_eq];omega
 by_cases hc:cLt ks k=cLe ks k
 ·rw [if_pos hc]
  exact Qev ((Qhy (tst.trans (by simp [hc]))).trans (Ye rfl))
 ·rw [if_neg hc]
  refine (ZS ((Qhx (tst.trans (by simp [hc]))).trans rfl)).trans ?_
  have hlt2:cLt ks k < ks.length:=by
   have:cLt ks k<=cLe ks k:=by
    unfold cLt cLe
    rw [<- List.countP_eq_length_filter,<- List.countP_eq_length_filter]
    exact List.countP_mono_left fun x _ hx=>by simp at hx ⊢;omega
   omega
  have a:=KP ps (i:=(cLt ks k:Int)) (by omega) (by omega)
  rw [Int.toNat_natCast] at a
  exact Ye (zR (x:=.tup (ps.map .int)) (y:=.int (cLt ks k)) rfl rfl (by simp [ixD,a]))
theorem QbA {F:List DV->M DV} {f f' f'' f3:DEx} {env:En} {x y z u d:DV} (h:f env=pure x) (h':f' env=pure y) (h'':f'' env=pure z) (h3:f3 env=pure u) (hF:F [x,y,z,u]=pure d):QH 4 F (Qc f (Qc f' (Qc f'' (Qc f3 Qn)))) env=pure d:=by simp [QH,Qc,Qn,h,h',h'',h3,Qv,hF]
theorem yz (l:Int) (ks ps:List Int) (hi sd:Option Int) (a b:DV):qp [Zp l ks ps hi sd,a,b]=pure (.tup [.int l,a,b,opt hi,opt sd]):=rfl
theorem Qet (ks ns:List Int) (a b:Nat) (h:ks.length<=1000) (hn:ns.length<=10):(do let x <- slD (.tup (ks.map .int)) none (some (a:Int));let y <- Z5 x (.tup (ns.map .int));let d <- slD (.tup (ks.map .int)) (some (b:Int)) none;Z5 y d:M DV)=pure (.tup ((ks.take a++ns++ks.drop b).map .int)):=by
 rw [V9,V8]
 simp only [pure_bind,Z5]
 rw [Yh (by simp;omega)]
 simp only [Qv,if_true,pure_bind]
 rw [Yh (by simp;omega)]
 simp [List.map_take,List.map_drop]
theorem QeV {f g h q:DEx} {env:En} {ks ns:List Int} {a b:Nat} (hf:f env=pure (.tup (ks.map .int))) (hg:g env=pure (.int (a:Int))) (hh:h env=pure (.int (b:Int))) (hq:q env=pure (.tup (ns.map .int))) (hl:ks.length<=1000) (hn:ns.length<=10):Qk Z5 (Qk Z5 (eSl f ZN (ZO g)) q) (eSl f (ZO h) ZN) env=pure (.tup ((ks.take a++ns++ks.drop b).map .int)):=by
 have e1:eSl f ZN (ZO g) env=slD (.tup (ks.map .int)) none (some (a:Int)):=by simp only [eSl,hf,hg,ZN,ZO,asI,pure_bind]
 have e2:eSl f (ZO h) ZN env=slD (.tup (ks.map .int)) (some (b:Int)) none:=by simp only [eSl,hf,hh,ZN,ZO,asI,pure_bind]
 rw [<- Qet ks ns a b hl hn]
 simp only [Qk,e1,e2,hq,pure_bind,bind_assoc]
theorem yL (l:Int) (ks ps nk nw:List Int) (hi sd:Option Int) (k:Int) (hl:ks.length<=100) (hp:ps.length<=100) (h1:nk.length<=10) (h2:nw.length<=10):qr [Zp l ks ps hi sd,.int k,.tup (nk.map .int),.tup (nw.map .int)]=pure (Zp l (ks.take (cLt ks k)++nk++ks.drop (cLe ks k)) (ps.take (cLt ks k)++nw++ps.drop (cLe ks k)) hi sd):=by
 refine YD (env:=[.val (Zp l ks ps hi sd),.val (.int k),.val (.tup (nk.map .int)),.val (.tup (nw.map .int)),.val (.tup (ks.map .int)),.val (.tup (ps.map .int)),.val (.int (cLt ks k:Int)),.val (.int (cLe ks k:Int))]) ?_
 refine (ZS (Z1 (d:=.tup (ks.map .int)) rfl)).trans ?_
 refine (ZS (Z1 (d:=.tup (ps.map .int)) rfl)).trans ?_
 refine (ZS (Z1 (d:=.int (cLt ks k:Int)) (xX (x:=.tup (ks.map .int)) (y:=.int k) rfl rfl (QeR ks k hl)))).trans ?_
 refine (ZS (Z1 (d:=.int (cLe ks k:Int)) (xX (x:=.tup (ks.map .int)) (y:=.int k) rfl rfl (KW ks k hl)))).trans ?_
 exact Ye (Qbz (x:=Zp l ks ps hi sd) rfl (QeV rfl rfl rfl rfl (by omega) h1) (QeV rfl rfl rfl rfl (by omega) h2) (yz l ks ps hi sd _ _))
def uF (ks:List Int) (c:Nat) (k:Int):List Int:=ks.take c++k::ks.drop c
theorem Qgo (ks:List Int) (c:Nat) (k:Int) (h:ks.length<=1000):(do let a <- slD (.tup (ks.map .int)) none (some (c:Int));let b <- Z5 a (.tup [.int k]);let d <- slD (.tup (ks.map .int)) (some (c:Int)) none;Z5 b d:M DV)=pure (.tup ((uF ks c k).map .int)):=by
 rw [V9,V8]
 simp only [pure_bind,Z5]
 rw [Yh (by simp;omega)]
 simp only [Qv,if_true,pure_bind]
 rw [Yh (by simp;omega)]
 simp [uF,List.map_take,List.map_drop]
theorem gP {f g h:DEx} {env:En} {ks:List Int} {c:Nat} {k:Int} (hf:f env=pure (.tup (ks.map .int))) (hg:g env=pure (.int (c:Int))) (hk:h env=pure (.int k)) (hl:ks.length<=1000):Qk Z5 (Qk Z5 (eSl f ZN (ZO g)) (Zg (Qc h Qn))) (eSl f (ZO g) ZN) env=pure (.tup ((uF ks c k).map .int)):=by
 have e1:eSl f ZN (ZO g) env=slD (.tup (ks.map .int)) none (some (c:Int)):=by simp only [eSl,hf,hg,ZN,ZO,asI,pure_bind]
 have e2:eSl f (ZO g) ZN env=slD (.tup (ks.map .int)) (some (c:Int)) none:=by simp only [eSl,hf,hg,ZN,ZO,asI,pure_bind]
 have e3:Zg (Qc h Qn) env=pure (.tup [.int k]):=by
  simp only [Zg,Qc,Qn,hk,pure_bind];rfl
 rw [<- Qgo ks c k hl]
 simp only [Qk,e1,e2,e3,pure_bind,bind_assoc]
theorem QaD (l:Int) (ks ps:List Int) (hi sd:Option Int) (k kid:Int) (hl:ks.length<=100) (hp:ps.length<=1000):qq [Zp l ks ps hi sd,.int k,.int kid]=pure (Zp l (uF ks (cLe ks k) k) (uF ps (cLe ks k+1) kid) hi sd):=by
 refine YD (env:=[.val (Zp l ks ps hi sd),.val (.int k),.val (.int kid),.val (.tup (ks.map .int)),.val (.tup (ps.map .int)),.val (.int (cLe ks k:Int)),.val (.int ((cLe ks k:Int)+1))]) ?_
 refine (ZS (Z1 (d:=.tup (ks.map .int)) rfl)).trans ?_
 refine (ZS (Z1 (d:=.tup (ps.map .int)) rfl)).trans ?_
 refine (ZS (Z1 (d:=.int (cLe ks k:Int)) (xX (x:=.tup (ks.map .int)) (y:=.int k) rfl rfl (KW ks k hl)))).trans ?_
 refine (ZS (Z1 (d:=.int ((cLe ks k:Int)+1)) rfl)).trans ?_
 refine Ye (Qbz (x:=Zp l ks ps hi sd) (y:=.tup ((uF ks (cLe ks k) k).map .int)) (z:=.tup ((uF ps (cLe ks k+1) kid).map .int)) rfl ?_ ?_ (yz l ks ps hi sd _ _))
 ·exact gP rfl rfl rfl (by omega)
 ·exact gP rfl (by show (pure (DV.int ((cLe ks k:Int)+1)):M DV)=_;rw [show ((cLe ks k:Int)+1)=((cLe ks k+1:Nat):Int) by omega]) rfl hp
def Zr (l:Int) (n:Nat):Nat:=if l=0 then n / 2 else n / 2+1
def Qcn (l:Int) (ks ps:List Int) (hi sd:Option Int) (num:Int):DV :=
 .tup [Zp l (ks.take (ks.length / 2)) (ps.take (Zr l ks.length)) (some (ks.getD (ks.length / 2) 0)) (some num),Zp l (ks.drop (Zr l ks.length)) (ps.drop (Zr l ks.length)) hi sd,.int (ks.getD (ks.length / 2) 0)]
theorem QaR (l:Int) (ks ps:List Int) (hi sd:Option Int) (num:Int) (h3:3<=ks.length) (hl:ks.length<=100):jF [Zp l ks ps hi sd,.int num]=pure (Qcn l ks ps hi sd num):=by
 have hm:((ks.length:Int)) / 2=((ks.length / 2:Nat):Int):=by omega
 have a:=KP ks (i:=((ks.length / 2:Nat):Int)) (by omega) (by omega)
 rw [Int.toNat_natCast] at a
 have hcut:(if l=0 then DV.int ((ks.length / 2:Nat):Int) else .int (((ks.length / 2:Nat):Int)+1))=.int ((Zr l ks.length:Nat):Int):=by
  unfold Zr
  split<;>simp
 generalize hC:Zr l ks.length=C at hcut
 generalize hK:ks.getD (ks.length / 2) 0=kk at a
 have e7:eIf (eB (Qk eqD (Qb 2) (eC (.int 0)))) (Qb 5) (Qk Z5 (Qb 5) (eC (.int 1))) [.val (Zp l ks ps hi sd),.val (.int num),.val (.int l),.val (.tup (ks.map .int)),.val (.tup (ps.map .int)),.val (.int ((ks.length / 2:Nat):Int)),.val (.int kk),.un,.un,.un]=pure (.int (C:Int)):=by
  rw [<- hcut]
  by_cases q:l=0
  ·simp [eIf,eB,Qk,Qb,eC,Z6,asB,q]
  ·have:(l==0)=false:=by simpa using q
   simp [eIf,eB,Qk,Qb,eC,Z6,asB,q,this,Jn]
 unfold Qcn
 rw [hC,hK]
 refine YD (env:=[.val (Zp l ks ps hi sd),.val (.int num),.val (.int l),.val (.tup (ks.map .int)),.val (.tup (ps.map .int)),.val (.int ((ks.length / 2:Nat):Int)),.val (.int kk),.val (.int (C:Int)),.val (Zp l (ks.take (ks.length / 2)) (ps.take C) (some kk) (some num)),.val (Zp l (ks.drop C) (ps.drop C) hi sd)]) ?_
 refine (ZS (Z1 (d:=.int l) rfl)).trans ?_
 refine (ZS (Z1 (d:=.tup (ks.map .int)) rfl)).trans ?_
 refine (ZS (Z1 (d:=.tup (ps.map .int)) rfl)).trans ?_
 refine (ZS (Z1 (d:=.int ((ks.length / 2:Nat):Int)) ?_)).trans ?_
 ·refine zR (x:=.int (ks.length:Int)) (y:=.int 2) ?_ rfl ((Xh _ 2 (by decide) (by decide)).trans (by rw [hm]))
  show (pure (DV.int ((ks.map DV.int).length:Int)):M DV)=_
  rw [List.length_map]
 refine (ZS (Z1 (d:=.int kk) (zR (x:=.tup (ks.map .int)) (y:=.int ((ks.length / 2:Nat):Int)) rfl rfl (QdG a)))).trans ?_
 refine (ZS (Z1 (d:=.int (C:Int)) e7)).trans ?_
 refine (ZS (Z1 (d:=Zp l (ks.take (ks.length / 2)) (ps.take C) (some kk) (some num)) ?_)).trans ?_
 ·have t1:=vc (f:=Qb 3) (g:=Qb 5) (env:=[.val (Zp l ks ps hi sd),.val (.int num),.val (.int l),.val (.tup (ks.map .int)),.val (.tup (ps.map .int)),.val (.int ((ks.length / 2:Nat):Int)),.val (.int kk),.val (.int (C:Int)),.un,.un]) (ds:=ks.map .int) (m:=ks.length / 2) rfl rfl
  have t2:=vc (f:=Qb 4) (g:=Qb 7) (env:=[.val (Zp l ks ps hi sd),.val (.int num),.val (.int l),.val (.tup (ks.map .int)),.val (.tup (ps.map .int)),.val (.int ((ks.length / 2:Nat):Int)),.val (.int kk),.val (.int (C:Int)),.un,.un]) (ds:=ps.map .int) (m:=C) rfl rfl
  simp only [List.set_cons_succ,List.set_cons_zero,List.map_cons,List.map_nil,List.length_cons,List.length_nil,List.cons_append,List.nil_append,List.replicate,Zg,Qc,Qn,t1,t2,pure_bind]
  simp only [Zp,List.map_take,opt]
  rfl
 refine (ZS (Z1 (d:=Zp l (ks.drop C) (ps.drop C) hi sd) ?_)).trans ?_
 ·have t1:=vb (f:=Qb 3) (g:=Qb 7) (env:=[.val (Zp l ks ps hi sd),.val (.int num),.val (.int l),.val (.tup (ks.map .int)),.val (.tup (ps.map .int)),.val (.int ((ks.length / 2:Nat):Int)),.val (.int kk),.val (.int (C:Int)),.val (Zp l (ks.take (ks.length / 2)) (ps.take C) (some kk) (some num)),.un]) (ds:=ks.map .int) (m:=C) rfl rfl
  have t2:=vb (f:=Qb 4) (g:=Qb 7) (env:=[.val (Zp l ks ps hi sd),.val (.int num),.val (.int l),.val (.tup (ks.map .int)),.val (.tup (ps.map .int)),.val (.int ((ks.length / 2:Nat):Int)),.val (.int kk),.val (.int (C:Int)),.val (Zp l (ks.take (ks.length / 2)) (ps.take C) (some kk) (some num)),.un]) (ds:=ps.map .int) (m:=C) rfl rfl
  simp only [List.set_cons_succ,List.set_cons_zero,List.map_cons,List.map_nil,List.length_cons,List.length_nil,List.cons_append,List.nil_append,List.replicate,Zg,Qc,Qn,t1,t2,pure_bind]
  simp only [Zp,List.map_drop]
  rfl
 exact Ye rfl
theorem Xw (p:TR.Pg):pgD p=Zp p.lv p.ks p.ps p.hi (p.sd.map fun n=>(n:Int)):=by
 unfold pgD Zp;cases p.sd<;>rfl
theorem QaU (p:TR.Pg) (k:Int):YV [pgD p,.int k]=pure (.bl (TR.JQ p k)):=by
 rw [Xw,Qaj]
 unfold hiB TR.JQ
 cases p.hi<;>rfl
theorem Qf7 (p:TR.Pg) (k c:Int) (hl:p.ks.length<=100) (hp:p.ps.length=p.ks.length+1) (hc:p.ps[TR.cLe p.ks k]?=some c):YW [pgD p,.int k]=pure (.int c):=by
 rw [Xw,QfB _ _ _ _ _ _ hl hp]
 rw [List.getD_eq_getElem?_getD,show p.ps[cLe p.ks k]?=some c from hc];rfl
theorem Qcu (p:TR.Pg) (k:Int) (hl:p.ks.length<=100) (hp:p.ps.length=p.ks.length):J6 [pgD p,.int k]=pure (opt (TR.QY p k)):=by
 rw [Xw,Qc7 _ _ _ _ _ _ hl hp]
 unfold TR.QY
 by_cases h:cLt p.ks k=cLe p.ks k
 ·rw [if_pos h,if_pos (show TR.cLt p.ks k=TR.cLe p.ks k from h)];rfl
 ·rw [if_neg h,if_neg (show ¬ TR.cLt p.ks k=TR.cLe p.ks k from h)]
  have h1:=TR.KS p.ks k
  have h2:=TR.Xv p.ks k
  have h3:¬ TR.cLt p.ks k=TR.cLe p.ks k:=h
  rw [List.getD_eq_getElem?_getD,show p.ps[cLt p.ks k]?=some (p.ps[TR.cLt p.ks k]'(by omega)) from List.getElem?_eq_getElem _,List.getElem?_eq_getElem (show TR.cLt p.ks k < p.ps.length by omega)];rfl
theorem Qd2 (p:TR.Pg) (k x:Int) (hl:p.ks.length<=100) (hp:p.ps.length<=100):qZ [pgD p,.int k,.int x]=pure (pgD (TR.QX p k x)):=by
 have e:=yL p.lv p.ks p.ps [k] [x] p.hi (p.sd.map fun n=>(n:Int)) k hl hp (by simp) (by simp)
 rw [Xw,Xw]
 refine YD (env:=[.val (Zp p.lv p.ks p.ps p.hi (p.sd.map fun n=>(n:Int))),.val (.int k),.val (.int x)]) (Ye (QbA rfl rfl rfl rfl (e.trans ?_)))
 simp [TR.QX,TR.cLt,TR.cLe,cLt,cLe]
theorem uT (p:TR.Pg) (k:Int) (hl:p.ks.length<=100) (hp:p.ps.length<=100):xJ [pgD p,.int k]=pure (pgD (TR.without p k)):=by
 have e:=yL p.lv p.ks p.ps [] [] p.hi (p.sd.map fun n=>(n:Int)) k hl hp (by simp) (by simp)
 rw [Xw,Xw]
 refine YD (env:=[.val (Zp p.lv p.ks p.ps p.hi (p.sd.map fun n=>(n:Int))),.val (.int k)]) (Ye (QbA rfl rfl rfl rfl (e.trans ?_)))
 simp [TR.without,TR.cLt,TR.cLe,cLt,cLe]
theorem uS (p:TR.Pg) (k:Int) (c:Nat) (hl:p.ks.length<=100) (hp:p.ps.length<=1000):qq [pgD p,.int k,.int c]=pure (pgD (TR.Zv p k c)):=by
 rw [Xw,QaD _ _ _ _ _ _ _ hl hp,Xw];rfl
theorem Qd1 (p:TR.Pg) (room:Nat):Yf [pgD p,.int room]=pure (.bl (decide (room < p.ks.length))):=by
 have e:(decide ((room:Int) < ((p.ks.map DV.int).length:Int)))=decide (room < p.ks.length):=by
  rw [List.length_map];congr 1;rw [eq_iff_iff];omega
 refine YD (env:=[.val (pgD p),.val (.int room)]) (Ye (zR (x:=.int ((p.ks.map DV.int).length:Int)) (y:=.int room) rfl rfl ((Jz _ _).trans ?_)))
 rw [<- e]
theorem QaV (p:TR.Pg) (n:Nat) (h3:3<=p.ks.length) (hl:p.ks.length<=100):jF [pgD p,.int n]=pure (.tup [pgD (TR.Q7 p n),pgD (TR.QP p),.int (TR.J9 p)]):=by
 rw [Xw,QaR _ _ _ _ _ _ h3 hl]
 unfold Qcn
 rw [Xw,Xw]
 have hc:Zr p.lv p.ks.length=TR.Zr p:=by
  unfold Zr TR.Zr TR.mid
  by_cases h:p.lv=0
  ·simp [h]
  ·rw [if_neg h,if_neg (by omega)]
 rw [hc];rfl
structure At (hp:Hs) (n k a f q:Nat) (S:TR.Sh) (w:TR.Wk):Prop where
 h1:hp[n]?=some (.ins "Shelf" (shF S.room k S.top S.rd S.wr))
 h2:hp[k]?=some (.lst (S.pg.map pgD))
 h3:hp[a]?=some (wkO n f q w)
 h4:hp[f]?=some (.dic (fkD w.forks))
 h5:hp[q]?=some (.lst (prD w.pairs))
structure Dif (n k a f q:Nat):Prop where
 nk:n≠k
 na:n≠a
 nf:n≠f
 nq:n≠q
 ka:k≠a
 kf:k≠f
 kq:k≠q
 af:a≠f
 aq:a≠q
 fq:f≠q
def Fr (hp hp':Hs) (n k a f q:Nat):Prop:=hp.length<=hp'.length/\∀ i,i < hp.length->i≠n->i≠k->i≠a->i≠f->i≠q->hp'[i]?=hp[i]?
section
variable {hp hp' hp2:Hs} {n k a f q:Nat} {S S':TR.Sh} {w w':TR.Wk}
theorem Fr.refl:Fr hp hp n k a f q:=⟨Nat.le_refl _,fun _ _ _ _ _ _ _=>rfl⟩
theorem Fr.trans (x:Fr hp hp' n k a f q) (y:Fr hp' hp2 n k a f q):Fr hp hp2 n k a f q:=⟨Nat.le_trans x.1 y.1,fun i hi a1 a2 a3 a4 a5=>(y.2 i (Nat.lt_of_lt_of_le hi x.1) a1 a2 a3 a4 a5).trans (x.2 i hi a1 a2 a3 a4 a5)⟩
theorem gs {n m:Nat} {X:OV} {Y:Option OV} (h:n≠m) (h':hp[m]?=Y):(hp.set n X)[m]?=Y:=(QI _ _ _ _ h).trans h'
theorem gss {n:Nat} {X Y:OV} (h':hp[n]?=some Y):(hp.set n X)[n]?=some X:=Zt _ _ _ (by rw [h'];rfl)
theorem At.walk (A:At hp n k a f q S w) (D:Dif n k a f q) (w':TR.Wk) (e1:w'.forks=w.forks) (e2:w'.pairs=w.pairs):At (hp.set a (wkO n f q w')) n k a f q S w'/\Fr hp (hp.set a (wkO n f q w')) n k a f q :=
 ⟨⟨gs D.na.symm A.h1,gs D.ka.symm A.h2,gss A.h3,gs D.af (by rw [e1];exact A.h4),gs D.aq (by rw [e2];exact A.h5)⟩,by simp,fun i hi a1 a2 a3 a4 a5=>QI _ _ _ _ (Ne.symm a3)⟩
theorem At.shelf (A:At hp n k a f q S w) (D:Dif n k a f q) (S':TR.Sh) (e:S'.room=S.room):At ((hp.set n (.ins "Shelf" (shF S.room k S'.top S'.rd S'.wr))).set k (.lst (S'.pg.map pgD))) n k a f q S' w/\Fr hp ((hp.set n (.ins "Shelf" (shF S.room k S'.top S'.rd S'.wr))).set k (.lst (S'.pg.map pgD))) n k a f q :=
 ⟨⟨gs D.nk.symm (by rw [e];exact gss A.h1),gss (gs D.nk A.h2),gs D.ka (gs D.na A.h3),gs D.kf (gs D.nf A.h4),gs D.kq (gs D.nq A.h5)⟩,by simp,fun i hi a1 a2 a3 a4 a5=>(QI _ _ _ _ (Ne.symm a2)).trans (QI _ _ _ _ (Ne.symm a1))⟩
theorem At.count (A:At hp n k a f q S w) (D:Dif n k a f q) (S':TR.Sh) (e:S'.room=S.room) (e2:S'.pg=S.pg):At (hp.set n (.ins "Shelf" (shF S.room k S'.top S'.rd S'.wr))) n k a f q S' w/\Fr hp (hp.set n (.ins "Shelf" (shF S.room k S'.top S'.rd S'.wr))) n k a f q :=
 ⟨⟨by rw [e];exact gss A.h1,gs D.nk (by rw [e2];exact A.h2),gs D.na A.h3,gs D.nf A.h4,gs D.nq A.h5⟩,by simp,fun i hi a1 a2 a3 a4 a5=>QI _ _ _ _ (Ne.symm a1)⟩
theorem At.fork (A:At hp n k a f q S w) (D:Dif n k a f q) (w':TR.Wk) (h:wkO n f q w'=wkO n f q w) (e:w'.pairs=w.pairs):At (hp.set f (.dic (fkD w'.forks))) n k a f q S w'/\Fr hp (hp.set f (.dic (fkD w'.forks))) n k a f q :=
 ⟨⟨gs D.nf.symm A.h1,gs D.kf.symm A.h2,gs D.af.symm (by rw [h];exact A.h3),gss A.h4,gs D.fq (by rw [e];exact A.h5)⟩,by simp,fun i hi a1 a2 a3 a4 a5=>QI _ _ _ _ (Ne.symm a4)⟩
theorem At.pair (A:At hp n k a f q S w) (D:Dif n k a f q) (w':TR.Wk) (h:wkO n f q w'=wkO n f q w) (e:w'.forks=w.forks):At (hp.set q (.lst (prD w'.pairs))) n k a f q S w'/\Fr hp (hp.set q (.lst (prD w'.pairs))) n k a f q :=
 ⟨⟨gs D.nq.symm A.h1,gs D.kq.symm A.h2,gs D.aq.symm (by rw [h];exact A.h3),gs D.fq.symm (by rw [e];exact A.h4),gss A.h5⟩,by simp,fun i hi a1 a2 a3 a4 a5=>QI _ _ _ _ (Ne.symm a5)⟩
theorem At.more (A:At hp n k a f q S w) (x:OV):At (hp++[x]) n k a f q S w/\Fr hp (hp++[x]) n k a f q:=by
 have ap:∀ {i:Nat} {y:OV},hp[i]?=some y->(hp++[x])[i]?=some y:=fun {i y} h=>by rw [List.getElem?_append_left (List.getElem?_eq_some_iff.mp h).1];exact h
 exact ⟨⟨ap A.h1,ap A.h2,ap A.h3,ap A.h4,ap A.h5⟩,by simp,fun i hi _ _ _ _ _=>List.getElem?_append_left hi⟩
theorem ku (ps:List TR.Pg) (p:TR.Pg):ps.map pgD++[pgD p]=(ps++[p]).map pgD:=by simp
theorem map_set (ps:List TR.Pg) (i:Nat) (p:TR.Pg):(ps.map pgD).set i (pgD p)=(ps.set i p).map pgD:=by rw [List.map_set]
theorem Xo (A:At hp n k a f q S w) {env:En} (h:env[0]?=some (.val (.ref a))):Qw "Walk" "shelf" (Qb 0) env hp=some (.ref n,hp):=QA (Qe h) A.h3 (Qa9 ..)
theorem Ks (A:At hp n k a f q S w) (D:Dif n k a f q) {i:Nat} (hi:i < S.pg.length) (P:TR.Pg) (h3:S.room < P.ks.length->3<=P.ks.length) (hP:P.ks.length<=100) (hl:S.pg.length < 90000) :
  ∃ hp',Xz [.ref a,.int i,pgD P] hp=some (oN (TR.Qx S w i P).1,hp')/\At hp' n k a f q (TR.Qx S w i P).2.1 (TR.Qx S w i P).2.2/\Fr hp hp' n k a f q:=by
 have t0:QH 2 Yf (Qc (Qb 2) (Qc (QD "Shelf" "room" 1 Ji (Qw "Walk" "shelf" (Qb 0)) Qn) Qn)) [.val (.ref a),.val (.int i),.val (pgD P),.un] hp=some (.bl (decide (S.room < P.ks.length)),hp) :=
  ZJ (ZH (Qe rfl) (Q6 (Xo A rfl) A.h1 (QcO ..) za rfl (Qer A.h1))) rfl (Zx (Qd1 P S.room) hp)
 unfold TR.Qx
 by_cases hr:P.ks.length<=S.room
 ·rw [if_pos hr]
  have hd:decide (S.room < P.ks.length)=false:=decide_eq_false (by omega)
  rw [hd] at t0
  have t1:Xc (eB (QH 2 Yf (Qc (Qb 2) (Qc (QD "Shelf" "room" 1 Ji (Qw "Walk" "shelf" (Qb 0)) Qn) Qn)))) [.val (.ref a),.val (.int i),.val (pgD P),.un] hp=some (true,hp):=X7 (b:=false) (QR t0)
  have wr:=Ul (d:=pgD P) (i:=i) A.h1 A.h2 D.nk (by simpa using hi)
  rw [map_set] at wr
  obtain ⟨A1,F1⟩:=A.shelf D { S with pg:=S.pg.set i P,wr:=S.wr+1 } rfl
  obtain ⟨A2,F2⟩:=A1.walk D { w with ended:=true } rfl rfl
  refine ⟨_,?_,A2,F1.trans F2⟩
  refine Qy (env:=[.val (.ref a),.val (.int i),.val (pgD P),.un]) (Zi ((Zl t1).trans ?_))
  refine (Qj (ZX (Q6 (Xo A rfl) A.h1 (zE ..) (ZH (Qe rfl) (Qe rfl)) rfl wr))).trans ?_
  exact (Qj (Jb (v:=.bl true) rfl (Qe rfl) A1.h3 wl)).trans (QB (d:=.non) rfl)
 ·rw [if_neg hr]
  have hd:decide (S.room < P.ks.length)=true:=decide_eq_true (by omega)
  rw [hd] at t0
  have t1:Xc (eB (QH 2 Yf (Qc (Qb 2) (Qc (QD "Shelf" "room" 1 Ji (Qw "Walk" "shelf" (Qb 0)) Qn) Qn)))) [.val (.ref a),.val (.int i),.val (pgD P),.un] hp=some (false,hp):=X7 (b:=true) (QR t0)
  have pl:(S.pg.map pgD).length=S.pg.length:=by simp
  have pe:=QaV P S.pg.length (h3 (by omega)) hP
  have ly:=Qb0 (pg:=pgD (TR.QP P)) A.h1 A.h2 D.nk (by rw [pl];omega)
  rw [pl,ku] at ly
  obtain ⟨A1,F1⟩:=A.shelf D { S with pg:=S.pg++[TR.QP P],wr:=S.wr+1 } rfl
  obtain ⟨A2,F2⟩:=A1.walk D { w with newp:=some S.pg.length } rfl rfl
  have wr:=Ul (d:=pgD (TR.Q7 P S.pg.length)) (i:=i) A2.h1 A2.h2 D.nk (by simp;omega)
  rw [map_set] at wr
  obtain ⟨A3,F3⟩:=A2.shelf D { S with pg:=(S.pg++[TR.QP P]).set i (TR.Q7 P S.pg.length),wr:=S.wr+1+1 } rfl
  obtain ⟨A4,F4⟩:=A3.walk D { w with newp:=some S.pg.length,aim:=TR.J9 P } rfl rfl
  obtain ⟨A5,F5⟩:=A4.walk D { w with newp:=some S.pg.length,aim:=TR.J9 P,goal:=P.lv+1 } rfl rfl
  obtain ⟨A6,F6⟩:=A5.walk D { w with newp:=some S.pg.length,aim:=TR.J9 P,goal:=P.lv+1,place:=TR.JU w.forks (P.lv+1) } rfl rfl
  refine ⟨_,?_,A6,F1.trans (F2.trans (F3.trans (F4.trans (F5.trans F6))))⟩
  refine Qy (env:=[.val (.ref a),.val (.int i),.val (pgD P),.val (.tup [pgD (TR.Q7 P S.pg.length),pgD (TR.QP P),.int (TR.J9 P)])]) ?_
  refine (Qj ((QF t1).trans nil_at)).trans ?_
  have pg:=Qcl A.h1 A.h2
  rw [pl] at pg
  refine (Qj (Q0 (ZJ (ZH (Qe rfl) (Q6 (Xo A rfl) A.h1 (vQ ..) za rfl pg)) rfl (Zx pe hp)))).trans ?_
  refine (Qj (Jb (Q6 (Xo A rfl) A.h1 (Kv ..) (ZI (Ql (Qe rfl) rfl (ZZ (i:=1) rfl _))) rfl ly) (Qe rfl) A1.h3 wl)).trans ?_
  refine (Qj (ZX (Q6 (Xo A2 rfl) A2.h1 (zE ..) (ZH (Qe rfl) (Ql (Qe rfl) rfl (ZZ (i:=0) rfl _))) rfl wr))).trans ?_
  refine (Qj (Jb (Ql (Qe rfl) rfl (ZZ (i:=2) rfl _)) (Qe rfl) A3.h3 wl)).trans ?_
  refine (Qj (Jb (v:=.int ((P.lv+1:Nat):Int)) (Ql (Ql (Qe rfl) rfl (Qcs P _)) rfl rfl) (Qe rfl) A4.h3 wl)).trans ?_
  have dg:Jf "dict" XJ (Qw "Walk" "forks" (Qb 0)) (Qc (Qw "Walk" "goal" (Qb 0)) Qn) [.val (.ref a),.val (.int i),.val (pgD P),.val (.tup [pgD (TR.Q7 P S.pg.length),pgD (TR.QP P),.int (TR.J9 P)])] _=some (oN (TR.JU w.forks (P.lv+1)),_) :=
   Qdr (QA (Qe rfl) A5.h3 (KC ..)) A5.h4 (ZI (QA (Qe rfl) A5.h3 (ua ..)))
  refine (Qj (Jb dg (Qe rfl) A5.h3 wl)).trans ?_
  exact QB (QA (Qe rfl) A6.h3 (GL ..))
end
theorem Qbg (x:DV) (xs:List DV):atI (x::xs) 0=some x:=qv (j:=0) rfl
theorem UJ {r a b:Int} {n k:Nat} {ps:List DV} {hp:Hs} {t i:Nat} {key:Int} {l:Int} {ks qs:List Int} {hi sd:Option Int} (h1:hp[n]?=some (.ins "Shelf" (shF r k t a b))) (h2:hp[k]?=some (.lst ps)) (hnk:n≠k) (hi1:i < ps.length) (ht:ps[t]?=some (Zp l ks qs hi sd)) (hl:ps.length < 99999) :
  ZW [.ref n,.int key,.int i] hp=some (.int ps.length,(hp.set n (.ins "Shelf" (shF r k ps.length a (b+1)))).set k (.lst (ps++[Zp (l+1) [key] [(t:Int),(i:Int)] none none]))):=by
 have c:=Vk (i:=(i:Int)) h1 h2 (by omega) (by omega)
 have ht':atI ps (t:Int)=some (.tup [.int l,.tup (ks.map .int),.tup (qs.map .int),opt hi,opt sd]):=qv ht
 have y:=Qb0 (pg:=Zp (l+1) [key] [(t:Int),(i:Int)] none none) h1 h2 hnk hl
 have pd:DV.tup [.int (l+1),.tup [.int key],.tup [.int (t:Int),.int (i:Int)],.non,.non]=Zp (l+1) [key] [(t:Int),(i:Int)] none none:=rfl
 have g1:((hp.set n (.ins "Shelf" (shF r k t a (b+1)))).set k (.lst (ps++[Zp (l+1) [key] [(t:Int),(i:Int)] none none])))[n]?=some (.ins "Shelf" (shF r k t a (b+1))):=by
  rw [QI _ _ _ _ hnk.symm];exact Zt _ _ _ (by rw [h1];rfl)
 have g2:∀ X Y Z:OV,((hp.set n X).set k Y).set n Z=(hp.set n Z).set k Y:=fun X Y Z=>by
  rw [List.set_comm _ _ hnk,List.set_set,List.set_comm _ _ hnk.symm,List.set_comm _ _ hnk]
 have g3:((hp.set n (.ins "Shelf" (shF r k ps.length a (b+1)))).set k (.lst (ps++[Zp (l+1) [key] [(t:Int),(i:Int)] none none])))[n]?=some (.ins "Shelf" (shF r k ps.length a (b+1))):=by
  rw [QI _ _ _ _ hnk.symm];exact Zt _ _ _ (by rw [h1];rfl)
 simp [ZW,Ym,Q5,Qr,QM,QN,YF,sIf,Zf,VT,yS,VR,VS,Qk,Qb,eC,eB,asB,qA,eOr,Xc,J0,Vt,Y6,eIf,X6,Qn,Qc,Zg,Yw,QH,ZB,Qv,gN,Jn,JL,Jz,JA,JW,JT,JH,qT,zy,VP,Z6,Xl,Zu,Q8,X0,GA,XM,gSb,yh,Jf,XI,Qw,js,jC,onI,onL,onD,Zh,X8,xb,XJ,ixG,JD,qG,zx,XH,zh,asI,zd,GJ,QD,J1,Xk,Xj,jQ,evP,JJ,Yb,JK,Xm,JX,Ya,Yd,Yc,Zt,QI,Jk,qX,lim,ixD,h1,h2,c,qi,kP,QcQ,Ve,yk,Kv,ht',Qbg,pd,y,g1,g2,g3]
theorem QcC {hp:Hs} {n k a f q:Nat} {S:TR.Sh} {w:TR.Wk} (A:At hp n k a f q S w) (D:Dif n k a f q) {c:Nat} {r:TR.Pg} {key:Int} (hc:c < S.pg.length) (hr:S.pg[S.top]?=some r) (hl:S.pg.length < 90000) :
  ZW [.ref n,.int key,.int c] hp=some (.int S.pg.length,(hp.set n (.ins "Shelf" (shF S.room k S.pg.length S.rd (S.wr+1)))).set k (.lst ((S.pg++[(⟨r.lv+1,[key],[(S.top:Int),(c:Int)],none,none⟩:TR.Pg)]).map pgD))):=by
 have ht:(S.pg.map pgD)[S.top]?=some (Zp r.lv r.ks r.ps r.hi (r.sd.map fun n=>(n:Int))):=by rw [List.getElem?_map,hr,Option.map_some,Xw]
 have e:=UJ (key:=key) A.h1 A.h2 D.nk (i:=c) (by simpa using hc) ht (by simp;omega)
 rw [e,List.length_map]
 rw [show Zp ((r.lv:Int)+1) [key] [(S.top:Int),(c:Int)] none none=pgD ⟨r.lv+1,[key],[(S.top:Int),(c:Int)],none,none⟩ from rfl,ku]
theorem GG (S:TR.Sh) (w:TR.Wk) (i:Nat) (P:TR.Pg):(TR.Qx S w i P).2.2.worth=w.worth:=by
 unfold TR.Qx;split<;>rfl
section
variable {hp:Hs} {n k a f q:Nat} {S:TR.Sh} {w:TR.Wk} {i:Nat} {p:TR.Pg}
theorem vh (A:At hp n k a f q S w) (D:Dif n k a f q) (word:Str) (t:Option Nat):∃ hp',JO [.ref a,.str word,.int i,oN t] hp=some (.tup [.str word,.int i,oN t],hp')/\At hp' n k a f q S { w with place:=t }/\Fr hp hp' n k a f q:=by
 obtain ⟨A1,F1⟩:=A.walk D { w with place:=t } rfl rfl
 refine ⟨_,?_,A1,F1⟩
 refine Qy (env:=[.val (.ref a),.val (.str word),.val (.int i),.val (oN t)]) ?_
 exact (Qj (Jb (Qe rfl) (Qe rfl) A.h3 wl)).trans (QB (ZY (XX (Qe rfl) (Qe rfl) (Qe rfl)) (by simp)))
theorem UH (A:At hp n k a f q S w) (D:Dif n k a f q) {c:Nat} {r:TR.Pg} (hw:w.newp=some c) (hc:c < S.pg.length) (hr:S.pg[S.top]?=some r) (hl:S.pg.length < 90000):∃ hp',ZP [.ref a,.int i] hp=some (.tup [.str "raised", .int i,.int S.pg.length],hp')/\At hp' n k a f q { S with pg:=S.pg++[⟨r.lv+1,[w.aim],[(S.top:Int),(c:Int)],none,none⟩],top:=S.pg.length,wr:=S.wr+1 } { w with ended:=true }/\Fr hp hp' n k a f q:=by
 obtain ⟨A1,F1⟩:=A.walk D { w with ended:=true } rfl rfl
 have e:=QcC (key:=w.aim) A1 D hc hr hl
 obtain ⟨A2,F2⟩:=A1.shelf D { S with pg:=S.pg++[⟨r.lv+1,[w.aim],[(S.top:Int),(c:Int)],none,none⟩],top:=S.pg.length,wr:=S.wr+1 } rfl
 refine ⟨_,?_,A2,F1.trans F2⟩
 refine Qy (env:=[.val (.ref a),.val (.int i)]) ?_
 refine (Qj (Jb (v:=.bl true) rfl (Qe rfl) A.h3 wl)).trans ?_
 refine QB (ZY (XX rfl (Qe rfl) (Q6 (Xo A1 rfl) A1.h1 (vR ..) (ZH (QA (Qe rfl) A1.h3 (YL ..)) (QA (d:=.int c) (Qe rfl) A1.h3 ((GL ..).trans (by show some (oN w.newp)=_;rw [hw];rfl)))) rfl e)) (by simp))
theorem Uk (A:At hp n k a f q S w) (D:Dif n k a f q) {env:En} (e0:env[0]?=some (.val (.ref a))) (e2:env[2]?=some (.val (pgD p))) (h1:p.ks.length<=100) (h2:p.ps.length=p.ks.length) :
  ∃ hp',Q8 "Walk" "worth" (Qb 0) (QH 2 J6 (Qc (Qb 2) (Qc (Qw "Walk" "aim" (Qb 0)) Qn))) env hp=some ((.nx,env),hp')/\At hp' n k a f q S { w with worth:=TR.QY p w.aim }/\Fr hp hp' n k a f q:=by
 obtain ⟨A1,F1⟩:=A.walk D { w with worth:=TR.QY p w.aim } rfl rfl
 exact ⟨_,Jb (ZJ (ZH (Qe e2) (QA (Qe e0) A.h3 (YL ..))) rfl (Zx (Qcu p w.aim h1 h2) hp)) (Qe e0) A.h3 wl,A1,F1⟩
theorem Qdw (A:At hp n k a f q S w) (D:Dif n k a f q) (h1:p.ks.length<=100) (h2:p.ps.length=p.ks.length) :
  ∃ hp',Xd [.ref a,.int i,pgD p] hp=some (.tup [.str "found", .int i,opt (TR.QY p w.aim)],hp')/\At hp' n k a f q S { w with worth:=TR.QY p w.aim,ended:=true }/\Fr hp hp' n k a f q:=by
 obtain ⟨hp1,e1,A1,F1⟩:=Uk (env:=[.val (.ref a),.val (.int i),.val (pgD p)]) A D rfl rfl h1 h2
 obtain ⟨A2,F2⟩:=A1.walk D { w with worth:=TR.QY p w.aim,ended:=true } rfl rfl
 refine ⟨_,?_,A2,F1.trans F2⟩
 refine Qy (env:=[.val (.ref a),.val (.int i),.val (pgD p)]) ?_
 refine (Qj e1).trans ((Qj (Jb (v:=.bl true) rfl (Qe rfl) A1.h3 wl)).trans ?_)
 exact QB (ZY (XX rfl (Qe rfl) (QA (Qe rfl) A2.h3 (Yi ..))) (by simp))
theorem Qgj (A:At hp n k a f q S w) (D:Dif n k a f q) (hi:i < S.pg.length) {x y:Int} (hd:w.deed=.put y x) (h1:p.ks.length<=90) (h2:p.ps.length=p.ks.length) (h3:S.room < (TR.QX p w.aim x).ks.length->3<=(TR.QX p w.aim x).ks.length) (h4:(TR.QX p w.aim x).ks.length<=100) (hl:S.pg.length < 90000) :
  ∃ hp',XQ [.ref a,.int i,pgD p] hp=some (.tup [.str "put", .int i,opt (TR.QY p w.aim),oN (TR.Qx S { w with worth:=TR.QY p w.aim } i (TR.QX p w.aim x)).1],hp')/\At hp' n k a f q (TR.Qx S { w with worth:=TR.QY p w.aim } i (TR.QX p w.aim x)).2.1 (TR.Qx S { w with worth:=TR.QY p w.aim } i (TR.QX p w.aim x)).2.2/\Fr hp hp' n k a f q:=by
 obtain ⟨hp1,e1,A1,F1⟩:=Uk (env:=[.val (.ref a),.val (.int i),.val (pgD p),.un]) A D rfl rfl (by omega) h2
 obtain ⟨hp2,e2,A2,F2⟩:=Ks A1 D hi (TR.QX p w.aim x) h3 h4 hl
 refine ⟨hp2,?_,A2,F1.trans F2⟩
 refine Qy (env:=[.val (.ref a),.val (.int i),.val (pgD p),.val (oN (TR.Qx S { w with worth:=TR.QY p w.aim } i (TR.QX p w.aim x)).1)]) ?_
 refine (Qj e1).trans ?_
 have dx:ixG (QU w.deed) (.int 2) hp1=some (.int x,hp1):=by rw [hd];exact ZZ (i:=2) rfl hp1
 refine (Qj (Q0 (Q6 (Qe rfl) A1.h3 (Qc5 ..) (ZH (Qe rfl) (ZJ (XX (Qe rfl) (QA (Qe rfl) A1.h3 (YL ..)) (Ql (QA (Qe rfl) A1.h3 (zI ..)) rfl dx)) rfl (Zx (Qd2 p w.aim x (by omega) (by omega)) hp1))) rfl e2))).trans ?_
 refine QB (ZY (gB rfl (Qe rfl) (QA (Qe rfl) A2.h3 ((Yi ..).trans ?_)) (Qe rfl)) (by simp))
 rw [GG]
theorem Qff (A:At hp n k a f q S w) (D:Dif n k a f q) (hi:i < S.pg.length) (h1:p.ks.length<=100) (h2:p.ps.length=p.ks.length) :
    ∃ hp',Yj [.ref a,.int i,pgD p] hp=some (.tup [.str "cut", .int i,opt (TR.QY p w.aim)],hp')/\At hp' n k a f q (if (TR.QY p w.aim).isSome=true then { S with pg:=S.pg.set i (TR.without p w.aim),wr:=S.wr+1 } else S) { w with worth:=TR.QY p w.aim,ended:=true }/\Fr hp hp' n k a f q:=by
  obtain ⟨hp1,e1,A1,F1⟩:=Uk (env:=[.val (.ref a),.val (.int i),.val (pgD p)]) A D rfl rfl h1 h2
  have t:∀ b:Bool,(TR.QY p w.aim).isSome=b->eB (Qk vm (Qw "Walk" "worth" (Qb 0)) (eC .non)) [.val (.ref a),.val (.int i),.val (pgD p)] hp1=some (b,hp1):=fun b hb=>QR (Ql (QA (Qe rfl) A1.h3 (Yi ..)) rfl (by rw [uR,hb];rfl))
  cases hs:(TR.QY p w.aim).isSome with
  | true =>
    rw [if_pos rfl]
    have wr:=Ul (d:=pgD (TR.without p w.aim)) (i:=i) A1.h1 A1.h2 D.nk (by simpa using hi)
    rw [map_set] at wr
    obtain ⟨A2,F2⟩:=A1.shelf D { S with pg:=S.pg.set i (TR.without p w.aim),wr:=S.wr+1 } rfl
    obtain ⟨A3,F3⟩:=A2.walk D { w with worth:=TR.QY p w.aim,ended:=true } rfl rfl
    refine ⟨_,?_,A3,F1.trans (F2.trans F3)⟩
    refine Qy (env:=[.val (.ref a),.val (.int i),.val (pgD p)]) ?_
    refine (Qj e1).trans ?_
    refine (Qj ((Zl (t true hs)).trans (ZX (Q6 (Xo A1 rfl) A1.h1 (zE ..) (ZH (Qe rfl) (ZJ (ZH (Qe rfl) (QA (Qe rfl) A1.h3 (YL ..))) rfl (Zx (uT p w.aim (by omega) (by omega)) hp1))) rfl wr)))).trans ?_
    refine (Qj (Jb (v:=.bl true) rfl (Qe rfl) A2.h3 wl)).trans ?_
    exact QB (ZY (XX rfl (Qe rfl) (QA (Qe rfl) A3.h3 (Yi ..))) (by simp))
  | false =>
    rw [if_neg (by simp)]
    obtain ⟨A3,F3⟩:=A1.walk D { w with worth:=TR.QY p w.aim,ended:=true } rfl rfl
    refine ⟨_,?_,A3,F1.trans F3⟩
    refine Qy (env:=[.val (.ref a),.val (.int i),.val (pgD p)]) ?_
    refine (Qj e1).trans ?_
    refine (Qj ((QF (t false hs)).trans nil_at)).trans ?_
    refine (Qj (Jb (v:=.bl true) rfl (Qe rfl) A1.h3 wl)).trans ?_
    exact QB (ZY (XX rfl (Qe rfl) (QA (Qe rfl) A3.h3 (Yi ..))) (by simp))
theorem QeD (A:At hp n k a f q S w) (D:Dif n k a f q) (hi:i < S.pg.length) {c:Nat} (hw:w.newp=some c) (h1:p.ks.length<=90) (h2:p.ps.length<=100) (h3:S.room < (TR.Zv p w.aim c).ks.length->3<=(TR.Zv p w.aim c).ks.length) (h4:(TR.Zv p w.aim c).ks.length<=100) (hl:S.pg.length < 90000) :
  ∃ hp',Xt [.ref a,.int i,pgD p] hp=some (.tup [.str "told", .int i,oN (TR.Qx S w i (TR.Zv p w.aim c)).1],hp')/\At hp' n k a f q (TR.Qx S w i (TR.Zv p w.aim c)).2.1 (TR.Qx S w i (TR.Zv p w.aim c)).2.2/\Fr hp hp' n k a f q:=by
 obtain ⟨hp2,e2,A2,F2⟩:=Ks A D hi (TR.Zv p w.aim c) h3 h4 hl
 refine ⟨hp2,?_,A2,F2⟩
 refine Qy (env:=[.val (.ref a),.val (.int i),.val (pgD p),.val (oN (TR.Qx S w i (TR.Zv p w.aim c)).1)]) ?_
 have nw:Qw "Walk" "new_page" (Qb 0) [.val (.ref a),.val (.int i),.val (pgD p),.un] hp=some (.int c,hp):=QA (Qe rfl) A.h3 ((GL ..).trans (by rw [hw];rfl))
 refine (Qj (Q0 (Q6 (Qe rfl) A.h3 (Qc5 ..) (ZH (Qe rfl) (ZJ (XX (Qe rfl) (QA (Qe rfl) A.h3 (YL ..)) nw) rfl (Zx (uS p w.aim c (by omega) (by omega)) hp))) rfl e2))).trans ?_
 exact QB (ZY (XX rfl (Qe rfl) (Qe rfl)) (by simp))
end
section
variable {hp:Hs} {n k a f q:Nat} {S:TR.Sh} {w:TR.Wk} {i:Nat} {p:TR.Pg}
theorem Qcm (A:At hp n k a f q S w) {l h:Int} (hl:p.ks.length<=100) :
  Ja [.val (.ref a),.val (.int i),.val (pgD p),.val (.int l),.val (.int h),.un] hp=some (.ref hp.length,hp++[OV.lst (prD (TR.QW p l h))]):=by
 have e0:QbP (Qk ixG (Qb 2) (eC (.int 1))) (Qk ixG (Qb 2) (eC (.int 2))) [.val (.ref a),.val (.int i),.val (pgD p),.val (.int l),.val (.int h),.un] hp=some (prD (p.ks.zip p.ps),hp):=by
  have x1:Qk ixG (Qb 2) (eC (.int 1)) [.val (.ref a),.val (.int i),.val (pgD p),.val (.int l),.val (.int h),.un] hp=some (.tup (p.ks.map .int),hp):=Ql (Qe rfl) rfl (Qf5 p hp)
  have x2:Qk ixG (Qb 2) (eC (.int 2)) [.val (.ref a),.val (.int i),.val (pgD p),.val (.int l),.val (.int h),.un] hp=some (.tup (p.ps.map .int),hp):=Ql (Qe rfl) rfl (Qf6 p hp)
  unfold QbP
  rw [Qg x1]
  show (vY (.tup (p.ks.map .int)) >>= _) hp=_
  rw [show vY (.tup (p.ks.map .int))=pure (p.ks.map .int) from rfl,pure_bind,Qg x2,show vY (.tup (p.ps.map .int))=pure (p.ps.map .int) from rfl,pure_bind,kZ];rfl
 have e1:xOf (QbP (Qk ixG (Qb 2) (eC (.int 1))) (Qk ixG (Qb 2) (eC (.int 2)))) [.val (.ref a),.val (.int i),.val (pgD p),.val (.int l),.val (.int h),.un] hp=some (nxD (prD (p.ks.zip p.ps)),hp):=by
  unfold xOf;rw [Qg e0];rfl
 have hz:(p.ks.zip p.ps).length<=100:=by rw [List.length_zip];omega
 have e2:=Qap (hp:=hp) (t:=fun d=>eB (Xi leD ltD (Qb 1) (Qk ixG (Qb 0) (eC (.int 0))) (Qb 2)) (cE [3,4] [.val (.ref a),.val (.int i),.val (pgD p),.val (.int l),.val (.int h),.un] d)) (f:=fun d=>Qb 0 (cE [3,4] [.val (.ref a),.val (.int i),.val (pgD p),.val (.int l),.val (.int h),.un] d)) (p:=Qec l h) (prD (p.ks.zip p.ps)) (fun d hd=>by
   obtain ⟨z,_,rfl⟩:=List.mem_map.mp hd
   have c:cE [3,4] [.val (.ref a),.val (.int i),.val (pgD p),.val (.int l),.val (.int h),.un] (.tup [.int z.1,.int z.2])=[.val (.tup [.int z.1,.int z.2]),.val (.int l),.val (.int h)]:=rfl
   show eB (Xi leD ltD (Qb 1) (Qk ixG (Qb 0) (eC (.int 0))) (Qb 2)) (cE [3,4] [.val (.ref a),.val (.int i),.val (pgD p),.val (.int l),.val (.int h),.un] (.tup [.int z.1,.int z.2])) hp=_
   rw [c]
   have x1:Qk ixG (Qb 0) (eC (.int 0)) [.val (.tup [.int z.1,.int z.2]),.val (.int l),.val (.int h)] hp=some (.int z.1,hp):=Ql (Qe rfl) rfl (ZZ (i:=0) rfl hp)
   by_cases q1:l<=z.1
   ·by_cases q2:z.1 < h<;>simp [eB,Xi,JJ,JK,x1,Qb,JW,JA,asB,Qec,q1,q2]
   ·simp [eB,Xi,JJ,JK,x1,Qb,JW,JA,asB,Qec,q1])
  (fun d hd=>rfl) (by rw [qJ];omega)
 rw [uV] at e2
 unfold Ja Je
 rw [Qg e1,Qg (show Z9 _ _ _ lim 0 hp=_ from e2)]
 rfl
theorem UK (A:At hp n k a f q S w) (D:Dif n k a f q) {l h:Int} (hd:w.deed=.stretch l h) (h1:p.ks.length<=100) (hw:w.pairs.length<=50000) (hlk:(p.hi=none/\p.sd=none)∨∃ x s,p.hi=some x/\p.sd=some s) :
  ∃ hp',Xe [.ref a,.int i,pgD p] hp=some (Gx (TR.Z7 S w i p).1,hp')/\At hp' n k a f q (TR.Z7 S w i p).2.1 (TR.Z7 S w i p).2.2/\Fr hp hp' n k a f q:=by
 have d1:ixG (QU w.deed) (.int 1) hp=some (.int l,hp):=by rw [hd];exact ZZ (i:=1) rfl hp
 have d2:ixG (QU w.deed) (.int 2) hp=some (.int h,hp):=by rw [hd];exact ZZ (i:=2) rfl hp
 obtain ⟨A1,F1⟩:=A.more (OV.lst (prD (TR.QW p l h)))
 obtain ⟨A2,F2⟩:=A1.pair D { w with pairs:=w.pairs++TR.QW p l h } rfl rfl
 have pl:(TR.QW p l h).length<=100:=by
  unfold TR.QW
  refine Nat.le_trans (List.length_filter_le _ _) ?_
  rw [List.length_zip];omega
 have gl:(hp++[OV.lst (prD (TR.QW p l h))])[hp.length]?=some (.lst (prD (TR.QW p l h))):=by simp
 have ql:q≠hp.length:=fun e=>by
  have:=(List.getElem?_eq_some_iff.mp A.h5).1;omega
 have ex:=Qaw (o:=Qw "Walk" "pairs" (Qb 0)) (fa:=Qc (Qb 5) Qn) (env:=[.val (.ref a),.val (.int i),.val (pgD p),.val (.int l),.val (.int h),.val (.ref hp.length)]) (QA (Qe rfl) A1.h3 (KD ..)) A1.h5 (ZI (Qe rfl)) gl (by rw [qJ,qJ];omega)
 rw [Qeb] at ex
 have tw:∀ {hpx:Hs} {env:En},hpx[hp.length]?=some (.lst (prD (TR.QW p l h)))->env[5]?=some (.val (.ref hp.length))->ZB Qa5 (Qc (Qb 5) Qn) env hpx=some (.tup (prD (TR.QW p l h)),hpx):=fun {hpx env} hx he=>by
  unfold ZB
  rw [Qg (ZI (Qe he))]
  show (ZG hp.length >>= _) hpx=_
  rw [Qg (Zn hx)];rfl
 have gl2:((hp++[OV.lst (prD (TR.QW p l h))]).set q (OV.lst (prD (w.pairs++TR.QW p l h))))[hp.length]?=some (.lst (prD (TR.QW p l h))):=gs ql gl
 have al:a≠hp.length:=fun e=>by
  have:=(List.getElem?_eq_some_iff.mp A.h3).1;omega
 have start:∀ (g:DSx) (r:(Fl×En)×Hs),g [.val (.ref a),.val (.int i),.val (pgD p),.val (.int l),.val (.int h),.val (.ref hp.length)] ((hp++[OV.lst (prD (TR.QW p l h))]).set q (OV.lst (prD (w.pairs++TR.QW p l h))))=some r ->
   Qr (QM 3 (Qk ixG (Qw "Walk" "deed" (Qb 0)) (eC (.int 1)))) (Qr (QM 4 (Qk ixG (Qw "Walk" "deed" (Qb 0)) (eC (.int 2)))) (Qr (QM 5 Ja) (Qr (Zu (Jf "list" xc (Qw "Walk" "pairs" (Qb 0)) (Qc (Qb 5) Qn))) g))) [.val (.ref a),.val (.int i),.val (pgD p),.un,.un,.un] hp=some r:=fun g r hg=>by
  refine (Qj (Q0 (Ql (QA (Qe rfl) A.h3 (zI ..)) rfl d1))).trans ?_
  refine (Qj (Q0 (Ql (QA (Qe rfl) A.h3 (zI ..)) rfl d2))).trans ?_
  refine (Qj (Q0 (Qcm A h1))).trans ?_
  exact (Qj (ZX ex)).trans hg
 have fin:∃ hp',Qr (Q8 "Walk" "ended" (Qb 0) (eC (.bl true))) (QN (Zg (Qc (eC (.str "read")) (Qc (Qb 1) (Qc (ZB Qa5 (Qc (Qb 5) Qn)) (Qc (eC .non) (Qc (eC .non) Qn))))))) [.val (.ref a),.val (.int i),.val (pgD p),.val (.int l),.val (.int h),.val (.ref hp.length)] ((hp++[OV.lst (prD (TR.QW p l h))]).set q (OV.lst (prD (w.pairs++TR.QW p l h))))=some ((.rt (Gx (.read i (TR.QW p l h) none)),[.val (.ref a),.val (.int i),.val (pgD p),.val (.int l),.val (.int h),.val (.ref hp.length)]),hp')/\At hp' n k a f q S { w with pairs:=w.pairs++TR.QW p l h,ended:=true }/\Fr hp hp' n k a f q:=by
  obtain ⟨A3,F3⟩:=A2.walk D { w with pairs:=w.pairs++TR.QW p l h,ended:=true } rfl rfl
  refine ⟨_,?_,A3,F1.trans (F2.trans F3)⟩
  refine (Qj (Jb (v:=.bl true) rfl (Qe rfl) A2.h3 wl)).trans ?_
  exact QB (ZY (QeO rfl (Qe rfl) (tw (gs al gl2) rfl) rfl rfl) (by simp))
 have hiE:∀ hpx:Hs,Qk ixG (Qb 2) (eC (.int 3)) [.val (.ref a),.val (.int i),.val (pgD p),.val (.int l),.val (.int h),.val (.ref hp.length)] hpx=some (opt p.hi,hpx):=fun hpx=>Ql (Qe rfl) rfl (Qf4 p hpx)
 have sdE:∀ hpx:Hs,Qk ixG (Qb 2) (eC (.int 4)) [.val (.ref a),.val (.int i),.val (pgD p),.val (.int l),.val (.int h),.val (.ref hp.length)] hpx=some (oN p.sd,hpx):=fun hpx=>Ql (Qe rfl) rfl (Qct p hpx)
 rcases hlk with ⟨e1,e2⟩ | ⟨x,s,e1,e2⟩
 ·rw [QaF hd e1]
  obtain ⟨hp',ef,Af,Ff⟩:=fin
  refine ⟨hp',Qy (start _ _ (Zi ((Zl (hp1:=_) ?_).trans ef))),Af,Ff⟩
  exact QeU (QR (Ql (hiE _) rfl (by rw [yg,e1];rfl)))
 ·rw [Qb1 hd e1 e2]
  by_cases hx:h<=x
  ·rw [if_pos hx]
   obtain ⟨hp',ef,Af,Ff⟩:=fin
   refine ⟨hp',Qy (start _ _ (Zi ((Zl (hp1:=_) ?_).trans ef))),Af,Ff⟩
   exact (Vu (QR (b:=false) (Ql (hiE _) rfl (by rw [yg,e1];rfl)))).trans (QR (Ql (hiE _) (Qe rfl) (by rw [e1];show geD (.int x) (.int h) _=_;rw [JT,decide_eq_true hx];rfl)))
  ·rw [if_neg hx]
   obtain ⟨A3,F3⟩:=A2.walk D { w with pairs:=w.pairs++TR.QW p l h,aim:=x } rfl rfl
   obtain ⟨A4,F4⟩:=A3.walk D { w with pairs:=w.pairs++TR.QW p l h,aim:=x,place:=some s } rfl rfl
   refine ⟨_,Qy (env:=[.val (.ref a),.val (.int i),.val (pgD p),.val (.int l),.val (.int h),.val (.ref hp.length)]) (start _ _ ?_),A4,F1.trans (F2.trans (F3.trans F4))⟩
   refine (Qj ((QF ((Vu (QR (b:=false) (Ql (hiE _) rfl (by rw [yg,e1];rfl)))).trans (QR (b:=false) (Ql (hiE _) (Qe rfl) (by rw [e1];show geD (.int x) (.int h) _=_;rw [JT,decide_eq_false hx];rfl))))).trans nil_at)).trans ?_
   refine (Qj (Jb (v:=.int x) ((hiE _).trans (by rw [e1];rfl)) (Qe rfl) A2.h3 wl)).trans ?_
   refine (Qj (Jb (v:=.int s) ((sdE _).trans (by rw [e2];rfl)) (Qe rfl) A3.h3 wl)).trans ?_
   exact QB (ZY (QeO rfl (Qe rfl) (tw (gs al (gs al gl2)) rfl) (QA (Qe rfl) A4.h3 (qm ..)) (QA (Qe rfl) A4.h3 (YL ..))) (by simp))
end
section
variable {hp:Hs} {n k a f q:Nat} {S:TR.Sh} {w:TR.Wk} {i:Nat} {p:TR.Pg}
theorem zG:PyData.strOk "find" = true:=by decide +kernel
theorem xE:PyData.strOk "put" = true:=by decide +kernel
theorem xD:PyData.strOk "cut" = true:=by decide +kernel
theorem GI:PyData.strOk "stretch" = true:=by decide +kernel
def yq:TR.Deed->Str
 | .find _ => "find"
 | .put _ _ => "put"
 | .cut _ => "cut"
 | .stretch _ _ => "stretch"
theorem U2 (d:TR.Deed) (hp:Hs):ixG (QU d) (.int 0) hp=some (.str (yq d),hp):=by cases d<;>exact ZZ (i:=0) rfl hp
theorem ux (A:At hp n k a f q S w) (D:Dif n k a f q) (hi:i < S.pg.length) (h1:p.ks.length<=90) (h2:p.ps.length=p.ks.length) (h3:∀ x,S.room < (TR.QX p w.aim x).ks.length->3<=(TR.QX p w.aim x).ks.length) (h4:∀ x,(TR.QX p w.aim x).ks.length<=100) (hl:S.pg.length < 90000) (hw:w.pairs.length<=50000) (hlk:(p.hi=none/\p.sd=none)∨∃ x s,p.hi=some x/\p.sd=some s) :
    ∃ hp',Yk [.ref a,.int i,pgD p] hp=some (Gx (TR.Z7 S w i p).1,hp')/\At hp' n k a f q (TR.Z7 S w i p).2.1 (TR.Z7 S w i p).2.2/\Fr hp hp' n k a f q:=by
  have s0:QM 3 (Qk ixG (Qw "Walk" "deed" (Qb 0)) (eC (.int 0))) [.val (.ref a),.val (.int i),.val (pgD p),.un] hp=some ((.nx,[.val (.ref a),.val (.int i),.val (pgD p),.val (.str (yq w.deed))]),hp):=Q0 (Ql (QA (Qe rfl) A.h3 (zI ..)) rfl (U2 w.deed hp))
  have tst:∀ (x:Str) (b:Bool),PyData.strOk (yq w.deed)=true->PyData.strOk x=true->(yq w.deed==x)=b->eB (Qk eqG (Qb 3) (eC (.str x))) [.val (.ref a),.val (.int i),.val (pgD p),.val (.str (yq w.deed))] hp=some (b,hp):=fun x b o1 o2 e=>QR (Ql (Qe rfl) rfl (eqS hp o1 o2 e))
  have ag:∀ (nm:Str) (fn:List DV->M DV) (d:DV) (hp':Hs),List.lookup nm (wkF n f q (QU w.deed) (.int w.aim) (.int w.goal) (oN w.place) (oN w.newp) (opt w.worth) (.bl w.ended))=none->fn [.ref a,.int i,pgD p] hp=some (d,hp')->QN (QD "Walk" nm 3 fn (Qb 0) (Qc (Qb 1) (Qc (Qb 2) Qn))) [.val (.ref a),.val (.int i),.val (pgD p),.val (.str (yq w.deed))] hp=some ((.rt d,[.val (.ref a),.val (.int i),.val (pgD p),.val (.str (yq w.deed))]),hp'):=fun nm fn d hp' e1 e2=>QB (Q6 (Qe rfl) A.h3 e1 (ZH (Qe rfl) (Qe rfl)) rfl e2)
  cases hd:w.deed with
  | find y =>
    obtain ⟨hp',e,A',F'⟩:=Qdw (i:=i) A D (by omega) h2
    refine ⟨hp',?_,by rw [VD hd];exact A',F'⟩
    rw [VD hd]
    have t:=tst "find" true (by rw [hd];exact zG) zG (by rw [hd];show (("find" : Str)==("find" : Str))=true;decide)
    exact Qy ((Qj s0).trans (Zi ((Zl t).trans (ag _ _ _ _ (QgC ..) e))))
  | put y x =>
    obtain ⟨hp',e,A',F'⟩:=Qgj (i:=i) A D hi hd h1 h2 (h3 x) (h4 x) hl
    refine ⟨hp',?_,by rw [Kf hd];exact A',F'⟩
    rw [Kf hd]
    have t1:=tst "find" false (by rw [hd];exact xE) zG (by rw [hd];show (("put" : Str)==("find" : Str))=false;decide)
    have t2:=tst "put" true (by rw [hd];exact xE) xE (by rw [hd];show (("put" : Str)==("put" : Str))=true;decide)
    exact Qy ((Qj s0).trans ((Qj ((QF t1).trans nil_at)).trans (Zi ((Zl t2).trans (ag _ _ _ _ (QgD ..) e)))))
  | cut y =>
    obtain ⟨hp',e,A',F'⟩:=Qff (i:=i) A D hi (by omega) h2
    refine ⟨hp',?_,by rw [Ke hd];exact A',F'⟩
    rw [Ke hd]
    have t1:=tst "find" false (by rw [hd];exact xD) zG (by rw [hd];show (("cut" : Str)==("find" : Str))=false;decide)
    have t2:=tst "put" false (by rw [hd];exact xD) xE (by rw [hd];show (("cut" : Str)==("put" : Str))=false;decide)
    have t3:=tst "cut" true (by rw [hd];exact xD) xD (by rw [hd];show (("cut" : Str)==("cut" : Str))=true;decide)
    exact Qy ((Qj s0).trans ((Qj ((QF t1).trans nil_at)).trans ((Qj ((QF t2).trans nil_at)).trans (Zi ((Zl t3).trans (ag _ _ _ _ (QgE ..) e))))))
  | stretch l h =>
    obtain ⟨hp',e,A',F'⟩:=UK (i:=i) A D hd (by omega) hw hlk
    refine ⟨hp',?_,A',F'⟩
    have t1:=tst "find" false (by rw [hd];exact GI) zG (by rw [hd];show (("stretch" : Str)==("find" : Str))=false;decide)
    have t2:=tst "put" false (by rw [hd];exact GI) xE (by rw [hd];show (("stretch" : Str)==("put" : Str))=false;decide)
    have t3:=tst "cut" false (by rw [hd];exact GI) xD (by rw [hd];show (("stretch" : Str)==("cut" : Str))=false;decide)
    exact Qy ((Qj s0).trans ((Qj ((QF t1).trans nil_at)).trans ((Qj ((QF t2).trans nil_at)).trans ((Qj ((QF t3).trans nil_at)).trans (ag _ _ _ _ (QgF ..) e)))))
theorem Qez {bg:TR.Bg} {r:TR.Row} {S':TR.Sh} {w':TR.Wk} (T:TR.Tree S bg) (W:TR.WOk S bg w) (hr:S.room<=50) (A:At hp n k a f q S w) (D:Dif n k a f q) (hl:S.pg.length < 90000) (hf:w.forks.length < 5000) (hw:w.pairs.length<=50000) (hs:TR.Jh S w=some (r,S',w')) :
    ∃ hp',Yx [.ref a] hp=some (Gx r,hp')/\At hp' n k a f q S' w'/\Fr hp hp' n k a f q:=by
  have env0:([DV.ref a].map Sl.val++List.replicate (3 - [DV.ref a].length) Sl.un)=[.val (.ref a),.un,.un]:=rfl
  cases he:w.ended with
  | true =>
    unfold TR.Jh at hs
    rw [if_pos he] at hs
    cases hs
    refine ⟨hp,?_,A,Fr.refl⟩
    exact Qy (env:=[.val (.ref a),.un,.un]) (Zi ((Zl (QR (QA (Qe rfl) A.h3 ((zV ..).trans (by rw [he]))))).trans (QB (d:=.non) rfl)))
  | false =>
    obtain ⟨m,hm0,hpl⟩:∃ m,w.place.getD S.top=m/\(w.place=some m∨(w.place=none/\m=S.top)):=by
      cases e:w.place with
      | none=>exact ⟨S.top,rfl,.inr ⟨rfl,rfl⟩⟩
      | some m=>exact ⟨m,rfl,.inl rfl⟩
    unfold TR.Jh at hs
    rw [if_neg (by rw [he];simp),hm0] at hs
    cases hg:S.pg[m]? with
    | none=>rw [hg] at hs;cases hs
    | some p =>
      rw [hg] at hs
      simp only at hs
      have ok:=T.page m p hg
      have hml:m < S.pg.length:=(List.getElem?_eq_some_iff.mp hg).1
      have hps:p.ps.length<=100:=by have a1:=ok.parts;have a2:=ok.few;split at a1<;>omega
      have hks:p.ks.length<=90:=by have a2:=ok.few;omega
      have r2:=T.room2
      have st0:sIf (eB (Qw "Walk" "ended" (Qb 0))) (QN (eC .non)) Zf [.val (.ref a),.un,.un] hp=some ((.nx,[.val (.ref a),.un,.un]),hp):=(QF (QR (QA (Qe rfl) A.h3 ((zV ..).trans (by rw [he]))))).trans nil_at
      have num:eIf (eB (Qk isD (Qw "Walk" "place" (Qb 0)) (eC .non))) (QD "Shelf" "root" 1 JN (Qw "Walk" "shelf" (Qb 0)) Qn) (Qw "Walk" "place" (Qb 0)) [.val (.ref a),.un,.un] hp=some (.int m,hp):=by
        rcases hpl with e | ⟨e,rfl⟩
        . exact (QgX (QR (b:=false) (Ql (QA (Qe rfl) A.h3 (qm ..)) rfl (by rw [VG,e];rfl)))).trans (QA (Qe rfl) A.h3 ((qm ..).trans (by rw [e];rfl)))
        . exact (QgY (QR (Ql (QA (Qe rfl) A.h3 (qm ..)) rfl (by rw [VG,e];rfl)))).trans (Q6 (Xo A rfl) A.h1 (gj ..) za rfl (Qes A.h1))
      have rd:=Qep (i:=m) (d:=pgD p) A.h1 A.h2 D.nk (by rw [List.getElem?_map,hg];rfl)
      obtain ⟨A1,F1⟩:=A.count D { S with rd:=S.rd+1 } rfl rfl
      have st1:=Q0 (i:=1) num
      have st2:QM 2 (QD "Shelf" "read" 2 JM (Qw "Walk" "shelf" (Qb 0)) (Qc (Qb 1) Qn)) [.val (.ref a),.val (.int m),.un] hp=some ((.nx,[.val (.ref a),.val (.int m),.val (pgD p)]),(hp.set n (.ins "Shelf" (shF S.room k S.top (S.rd+1) S.wr)))):=Q0 (Q6 (Xo A rfl) A.h1 (gi ..) (ZI (Qe rfl)) rfl rd)
      have lvE:∀ hpx:Hs,Qk ixG (Qb 2) (eC (.int 0)) [.val (.ref a),.val (.int m),.val (pgD p)] hpx=some (.int p.lv,hpx):=fun hpx=>Ql (Qe rfl) rfl (Qcs p hpx)
      have plE:eB (Qk isD (Qw "Walk" "place" (Qb 0)) (eC .non)) [.val (.ref a),.val (.int m),.val (pgD p)] (hp.set n (.ins "Shelf" (shF S.room k S.top (S.rd+1) S.wr)))=some (w.place.isNone,(hp.set n (.ins "Shelf" (shF S.room k S.top (S.rd+1) S.wr)))):=QR (Ql (QA (Qe rfl) A1.h3 (qm ..)) rfl (by rw [VG];rfl))
      have glE:Qw "Walk" "goal" (Qb 0) [.val (.ref a),.val (.int m),.val (pgD p)] (hp.set n (.ins "Shelf" (shF S.room k S.top (S.rd+1) S.wr)))=some (.int w.goal,(hp.set n (.ins "Shelf" (shF S.room k S.top (S.rd+1) S.wr)))):=QA (Qe rfl) A1.h3 (ua ..)
      have t1:qA (eB (Qk isD (Qw "Walk" "place" (Qb 0)) (eC .non))) (eB (Qk ltD (Qk ixG (Qb 2) (eC (.int 0))) (Qw "Walk" "goal" (Qb 0)))) [.val (.ref a),.val (.int m),.val (pgD p)] (hp.set n (.ins "Shelf" (shF S.room k S.top (S.rd+1) S.wr)))=some (decide (w.place=none/\p.lv < w.goal),(hp.set n (.ins "Shelf" (shF S.room k S.top (S.rd+1) S.wr)))):=by
        cases hp0:w.place with
        | none =>
          rw [hp0] at plE
          refine (Qfo plE).trans (QR (Ql (lvE _) glE ?_))
          rw [JA]
          show some (DV.bl _,_)=_
          congr 3
          by_cases z:p.lv < w.goal
          . rw [decide_eq_true (show (p.lv:Int) < w.goal by omega),decide_eq_true (show (none:Option Nat)=none/\p.lv < w.goal from ⟨rfl,z⟩)]
          . rw [decide_eq_false (show ¬ (p.lv:Int) < w.goal by omega),decide_eq_false (fun h=>z h.2)]
        | some z =>
          rw [hp0] at plE
          rw [decide_eq_false (fun h=>by cases h.1)]
          exact Qfn plE
      have go:∀ (g:DSx) (x:(Fl×En)×Hs),g [.val (.ref a),.val (.int m),.val (pgD p)] (hp.set n (.ins "Shelf" (shF S.room k S.top (S.rd+1) S.wr)))=some x->Qr (sIf (eB (Qw "Walk" "ended" (Qb 0))) (QN (eC .non)) Zf) (Qr (QM 1 (eIf (eB (Qk isD (Qw "Walk" "place" (Qb 0)) (eC .non))) (QD "Shelf" "root" 1 JN (Qw "Walk" "shelf" (Qb 0)) Qn) (Qw "Walk" "place" (Qb 0)))) (Qr (QM 2 (QD "Shelf" "read" 2 JM (Qw "Walk" "shelf" (Qb 0)) (Qc (Qb 1) Qn))) g)) [.val (.ref a),.un,.un] hp=some x:=fun g x hg=>(Qj st0).trans ((Qj st1).trans ((Qj st2).trans hg))
      by_cases hr1:w.place=none/\p.lv < w.goal
      . rw [if_pos hr1] at hs
        rw [decide_eq_true hr1] at t1
        cases hn:w.newp with
        | none=>rw [hn] at hs;cases hs
        | some c =>
          rw [hn] at hs
          simp only [Option.some.injEq,Prod.mk.injEq] at hs
          obtain ⟨rfl,rfl,rfl⟩:=hs
          have htop:m=S.top:=by
            rcases hpl with e | ⟨_,e⟩
            . rw [hr1.1] at e;cases e
            . exact e
          subst htop
          obtain ⟨c',z,b1,b2,_⟩:=W.tell (by omega)
          rw [hn] at b1;cases b1
          obtain ⟨hp',e,A',F'⟩:=UH (i:=S.top) A1 D hn (List.getElem?_eq_some_iff.mp b2).1 hg hl
          rw [hn] at A'
          refine ⟨hp',?_,A',F1.trans F'⟩
          exact Qy (go _ _ (Zi ((Zl t1).trans (QB (Q6 (Qe rfl) A1.h3 (QgB ..) (ZI (Qe rfl)) rfl e)))))
      . rw [if_neg hr1] at hs
        rw [decide_eq_false hr1] at t1
        have t2:eB (QH 2 YV (Qc (Qb 2) (Qc (Qw "Walk" "aim" (Qb 0)) Qn))) [.val (.ref a),.val (.int m),.val (pgD p)] (hp.set n (.ins "Shelf" (shF S.room k S.top (S.rd+1) S.wr)))=some (TR.JQ p w.aim,(hp.set n (.ins "Shelf" (shF S.room k S.top (S.rd+1) S.wr)))):=QR (ZJ (ZH (Qe rfl) (QA (Qe rfl) A1.h3 (YL ..))) rfl (Zx (QaU p w.aim) _))
        have go2:∀ (g:DSx) (x:(Fl×En)×Hs),g [.val (.ref a),.val (.int m),.val (pgD p)] (hp.set n (.ins "Shelf" (shF S.room k S.top (S.rd+1) S.wr)))=some x->Qr (sIf (qA (eB (Qk isD (Qw "Walk" "place" (Qb 0)) (eC .non))) (eB (Qk ltD (Qk ixG (Qb 2) (eC (.int 0))) (Qw "Walk" "goal" (Qb 0))))) (QN (QD "Walk" "raise_root_over" 2 ZP (Qb 0) (Qc (Qb 1) Qn))) Zf) g [.val (.ref a),.val (.int m),.val (pgD p)] (hp.set n (.ins "Shelf" (shF S.room k S.top (S.rd+1) S.wr)))=some x:=fun g x hg=>(Qj ((QF t1).trans nil_at)).trans hg
        cases hb:TR.JQ p w.aim with
        | true =>
          rw [hb,if_pos rfl] at hs
          rw [hb] at t2
          cases hsd:p.sd with
          | none=>rw [hsd] at hs;cases hs
          | some s =>
            rw [hsd] at hs
            simp only [Option.some.injEq,Prod.mk.injEq] at hs
            obtain ⟨rfl,rfl,rfl⟩:=hs
            obtain ⟨hp',e,A',F'⟩:=vh (i:=m) A1 D "side" (some s)
            refine ⟨hp',?_,A',F1.trans F'⟩
            refine Qy (go _ _ (go2 _ _ (Zi ((Zl t2).trans (QB (Q6 (Qe rfl) A1.h3 (Qc4 ..) (XX rfl (Qe rfl) (Ql (Qe rfl) rfl (Qct p _))) rfl ?_))))))
            rw [hsd];exact e
        | false =>
          rw [hb,if_neg (by simp)] at hs
          rw [hb] at t2
          have t3:eB (Qk gtD (Qk ixG (Qb 2) (eC (.int 0))) (Qw "Walk" "goal" (Qb 0))) [.val (.ref a),.val (.int m),.val (pgD p)] (hp.set n (.ins "Shelf" (shF S.room k S.top (S.rd+1) S.wr)))=some (decide (w.goal < p.lv),(hp.set n (.ins "Shelf" (shF S.room k S.top (S.rd+1) S.wr)))):=QR (Ql (lvE _) glE (by
            rw [Jz]
            show some (DV.bl _,_)=_
            congr 3
            by_cases z:w.goal < p.lv
            . rw [decide_eq_true z,decide_eq_true (by omega)]
            . rw [decide_eq_false z,decide_eq_false (by omega)]))
          by_cases hd:w.goal < p.lv
          . rw [if_pos hd] at hs
            rw [decide_eq_true hd] at t3
            cases hc:p.ps[TR.cLe p.ks w.aim]? with
            | none=>rw [hc] at hs;cases hs
            | some c =>
              rw [hc] at hs
              simp only [Option.some.injEq,Prod.mk.injEq] at hs
              obtain ⟨rfl,rfl,rfl⟩:=hs
              have pl:=ok.parts
              rw [if_neg (by omega)] at pl
              obtain ⟨c',z,b1,b2,_⟩:=T.kid m p hg (by omega) _ _ hc
              subst b1
              obtain ⟨A2,F2⟩:=A1.fork D { w with forks:=TR.zB w.forks p.lv m } rfl rfl
              obtain ⟨hp',e,A',F'⟩:=vh (i:=m) A2 D "down" (some c')
              refine ⟨hp',?_,by rw [Int.toNat_natCast];exact A',F1.trans (F2.trans F')⟩
              have ke:=Qf7 p w.aim c' (by omega) pl hc
              have pt:XM (Qb 1) (gSb (Qw "Walk" "forks" (Qb 0)) (Qk ixG (Qb 2) (eC (.int 0)))) [.val (.ref a),.val (.int m),.val (pgD p)] (hp.set n (.ins "Shelf" (shF S.room k S.top (S.rd+1) S.wr)))=some ((.nx,[.val (.ref a),.val (.int m),.val (pgD p)]),(hp.set n (.ins "Shelf" (shF S.room k S.top (S.rd+1) S.wr))).set f (.dic (fkD (TR.zB w.forks p.lv m)))):=Qgp (Qe rfl) (QA (Qe rfl) A1.h3 (KC ..)) (lvE _) A1.h4 hf
              refine Qy (go _ _ (go2 _ _ ((Qj ((QF t2).trans nil_at)).trans (Zi ((Zl t3).trans ((Qj pt).trans (QB (Q6 (Qe rfl) A2.h3 (Qc4 ..) (XX rfl (Qe rfl) (ZJ (ZH (Qe rfl) (QA (Qe rfl) A2.h3 (YL ..))) rfl (Zx ke _))) rfl ?_))))))))
              rw [show Gx (TR.Row.down m (c':Int).toNat)=.tup [.str "down", .int m,.int c'] from by rw [Int.toNat_natCast];rfl]
              exact e
          . rw [if_neg hd] at hs
            rw [decide_eq_false hd] at t3
            have go3:∀ (g:DSx) (x:(Fl×En)×Hs),g [.val (.ref a),.val (.int m),.val (pgD p)] (hp.set n (.ins "Shelf" (shF S.room k S.top (S.rd+1) S.wr)))=some x->Qr (sIf (eB (QH 2 YV (Qc (Qb 2) (Qc (Qw "Walk" "aim" (Qb 0)) Qn)))) (QN (QD "Walk" "go_on" 4 JO (Qb 0) (Qc (eC (.str "side")) (Qc (Qb 1) (Qc (Qk ixG (Qb 2) (eC (.int 4))) Qn))))) Zf) (Qr (sIf (eB (Qk gtD (Qk ixG (Qb 2) (eC (.int 0))) (Qw "Walk" "goal" (Qb 0)))) (Qr (XM (Qb 1) (gSb (Qw "Walk" "forks" (Qb 0)) (Qk ixG (Qb 2) (eC (.int 0))))) (QN (QD "Walk" "go_on" 4 JO (Qb 0) (Qc (eC (.str "down")) (Qc (Qb 1) (Qc (QH 2 YW (Qc (Qb 2) (Qc (Qw "Walk" "aim" (Qb 0)) Qn))) Qn)))))) Zf) g) [.val (.ref a),.val (.int m),.val (pgD p)] (hp.set n (.ins "Shelf" (shF S.room k S.top (S.rd+1) S.wr)))=some x:=fun g x hg=>(Qj ((QF t2).trans nil_at)).trans ((Qj ((QF t3).trans nil_at)).trans hg)
            have t4:eB (Qk gtD (Qw "Walk" "goal" (Qb 0)) (eC (.int 0))) [.val (.ref a),.val (.int m),.val (pgD p)] (hp.set n (.ins "Shelf" (shF S.room k S.top (S.rd+1) S.wr)))=some (decide (0 < w.goal),(hp.set n (.ins "Shelf" (shF S.room k S.top (S.rd+1) S.wr)))):=QR (Ql glE rfl (by
              rw [Jz]
              show some (DV.bl _,_)=_
              congr 3
              by_cases z:0 < w.goal
              . rw [decide_eq_true z,decide_eq_true (by omega)]
              . rw [decide_eq_false z,decide_eq_false (by omega)]))
            have glv:w.goal<=p.lv:=by
              rcases hpl with e | ⟨e,_⟩
              . obtain ⟨p',b1,b2,_⟩:=W.at_ m e
                rw [hg] at b1;cases b1;exact b2
              . exact Nat.le_of_not_lt fun h=>hr1 ⟨e,h⟩
            by_cases h0:0 < w.goal
            . rw [if_pos h0] at hs
              rw [decide_eq_true h0] at t4
              cases hn:w.newp with
              | none=>rw [hn] at hs;cases hs
              | some c =>
                rw [hn] at hs
                simp only [Option.some.injEq,Prod.mk.injEq] at hs
                obtain ⟨rfl,rfl,rfl⟩:=hs
                have kl:=TR.yK ok (k:=w.aim) (c:=c)
                obtain ⟨hp',e,A',F'⟩:=QeD (i:=m) (p:=p) A1 D hml hn hks hps (fun z=>by have:S.room < (TR.Zv p w.aim c).ks.length:=z;omega) (by omega) hl
                refine ⟨hp',?_,A',F1.trans F'⟩
                exact Qy (go _ _ (go2 _ _ (go3 _ _ (Zi ((Zl t4).trans (QB (Q6 (Qe rfl) A1.h3 (QgA ..) (ZH (Qe rfl) (Qe rfl)) rfl e)))))))
            . rw [if_neg h0] at hs
              rw [decide_eq_false h0] at t4
              have hz:p.lv=0:=by omega
              have pl:=ok.parts
              rw [if_pos hz] at pl
              have kl:∀ x,(TR.QX p w.aim x).ks.length<=S.room+1:=fun x=>TR.xH ok
              obtain ⟨hp',e,A',F'⟩:=ux (i:=m) (p:=p) A1 D hml hks (by omega) (fun x z=>by have:S.room < (TR.QX p w.aim x).ks.length:=z;omega) (fun x=>by have:=kl x;omega) hl hw ((T.link m p hg).imp id fun ⟨x,s,_,b1,b2,_⟩=>⟨x,s,b1,b2⟩)
              have hs':=Option.some.inj hs
              refine ⟨hp',?_,?_,F1.trans F'⟩
              . rw [show r=(TR.Z7 { S with rd:=S.rd+1 } w m p).1 by rw [hs']]
                exact Qy (go _ _ (go2 _ _ (go3 _ _ ((Qj ((QF t4).trans nil_at)).trans (QB (Q6 (Qe rfl) A1.h3 (Qgz ..) (ZH (Qe rfl) (Qe rfl)) rfl e))))))
              . rw [show S'=(TR.Z7 { S with rd:=S.rd+1 } w m p).2.1 by rw [hs'],show w'=(TR.Z7 { S with rd:=S.rd+1 } w m p).2.2 by rw [hs']]
                exact A'
end
theorem Qc3 (n:Nat) (d:TR.Deed) (hp:Hs):Jm [.ref hp.length,.ref n,QU d] (hp++[.ins "Walk" []])=some (.non,hp++[wkO n (hp.length+1) (hp.length+2) (TR.fresh d),.dic [],.lst []]):=by
 have st:∀ (nm:Str) (e:DEx) (v:DV) (fs:List (Str×DV)) (t t':Hs),e [.val (.ref hp.length),.val (.ref n),.val (QU d)] (hp++.ins "Walk" fs::t)=some (v,hp++.ins "Walk" fs::t')->fs.length < 1000->Q8 "Walk" nm (Qb 0) e [.val (.ref hp.length),.val (.ref n),.val (QU d)] (hp++.ins "Walk" fs::t)=some ((.nx,[.val (.ref hp.length),.val (.ref n),.val (QU d)]),hp++.ins "Walk" (JI nm v fs)::t'):=fun nm e v fs t t' he hl=>by
  rw [Jb he (Qe rfl) (QbJ hp _ _) hl,QcL]
 have a1:∀ fs,Xj [.val (.ref hp.length),.val (.ref n),.val (QU d)] (hp++.ins "Walk" fs::[])=some (.ref (hp.length+1),hp++.ins "Walk" fs::[.dic []]):=fun fs=>by
  show some (DV.ref (hp++[OV.ins "Walk" fs]).length,(hp++[OV.ins "Walk" fs])++[OV.dic []])=_
  simp
 have a2:∀ fs,Xk Qn [.val (.ref hp.length),.val (.ref n),.val (QU d)] (hp++.ins "Walk" fs::[.dic []])=some (.ref (hp.length+2),hp++.ins "Walk" fs::[.dic [],.lst []]):=fun fs=>by
  show some (DV.ref (hp++[OV.ins "Walk" fs,OV.dic []]).length,(hp++[OV.ins "Walk" fs,OV.dic []])++[OV.lst []])=_
  simp
 refine Gy (env:=[.val (.ref hp.length),.val (.ref n),.val (QU d)]) ?_
 refine (Qj (st "shelf" _ (.ref n) [] [] [] (Qe rfl) (Nat.lt_of_le_of_lt (m:=20) (by repeat (first | exact Nat.zero_le _ | refine J3 ?_)) (by decide)))).trans ?_
 refine (Qj (st "deed" _ (QU d) _ [] [] (Qe rfl) (Nat.lt_of_le_of_lt (m:=20) (by repeat (first | exact Nat.zero_le _ | refine J3 ?_)) (by decide)))).trans ?_
 refine (Qj (st "aim" _ (.int d.key) _ [] [] (Ql (Qe rfl) rfl (Qbr d _)) (Nat.lt_of_le_of_lt (m:=20) (by repeat (first | exact Nat.zero_le _ | refine J3 ?_)) (by decide)))).trans ?_
 refine (Qj (st "goal" _ (.int 0) _ [] [] rfl (Nat.lt_of_le_of_lt (m:=20) (by repeat (first | exact Nat.zero_le _ | refine J3 ?_)) (by decide)))).trans ?_
 refine (Qj (st "place" _ .non _ [] [] rfl (Nat.lt_of_le_of_lt (m:=20) (by repeat (first | exact Nat.zero_le _ | refine J3 ?_)) (by decide)))).trans ?_
 refine (Qj (st "forks" _ (.ref (hp.length+1)) _ [] [.dic []] (a1 _) (Nat.lt_of_le_of_lt (m:=20) (by repeat (first | exact Nat.zero_le _ | refine J3 ?_)) (by decide)))).trans ?_
 refine (Qj (st "new_page" _ .non _ [.dic []] [.dic []] rfl (Nat.lt_of_le_of_lt (m:=20) (by repeat (first | exact Nat.zero_le _ | refine J3 ?_)) (by decide)))).trans ?_
 refine (Qj (st "worth" _ .non _ [.dic []] [.dic []] rfl (Nat.lt_of_le_of_lt (m:=20) (by repeat (first | exact Nat.zero_le _ | refine J3 ?_)) (by decide)))).trans ?_
 refine (Qj (st "pairs" _ (.ref (hp.length+2)) _ [.dic []] [.dic [],.lst []] (a2 _) (Nat.lt_of_le_of_lt (m:=20) (by repeat (first | exact Nat.zero_le _ | refine J3 ?_)) (by decide)))).trans ?_
 exact st "ended" _ (.bl false) _ [.dic [],.lst []] [.dic [],.lst []] rfl (Nat.lt_of_le_of_lt (m:=20) (by repeat (first | exact Nat.zero_le _ | refine J3 ?_)) (by decide))
theorem Qc6 {n:Nat} {d:TR.Deed} {fa:DAx} {env:En} {hp0 hp:Hs} (ha:fa env hp0=some ([.ref n,QU d],hp)):J1 "Walk" 3 Jm fa env hp0=some (.ref hp.length,hp++[wkO n (hp.length+1) (hp.length+2) (TR.fresh d),.dic [],.lst []]):=by
 unfold J1
 rw [Qg ha]
 have al:Xf (.ins "Walk" []) hp=some (.ref hp.length,hp++[.ins "Walk" []]):=rfl
 have gd:Qv (decide ([DV.ref n,QU d].length+1=3)) hp=some ((),hp):=rfl
 rw [Qg gd,Qg al,Qg (Qc3 n d hp)];rfl
theorem QdU {hp:Hs} {n f q a:Nat} {w:TR.Wk} (h:hp[a]?=some (wkO n f q w)):XD [.ref a] hp=some (.bl w.ended,hp):=Qy (QB (QA (Qe rfl) h (zV ..)))
def emp:DV:=.tup [.int 0,.tup [],.tup [],.non,.non]
theorem pf0 (d:DV):JI ("page_room" : Str) d []=[(("page_room" : Str),d)]:=by rfl
theorem pf1 (x d:DV):JI ("kept" : Str) d [(("page_room" : Str),x)]=[(("page_room" : Str),x),(("kept" : Str),d)]:=by rfl
theorem pf2 (x y d:DV):JI ("top" : Str) d [(("page_room" : Str),x),(("kept" : Str),y)]=[(("page_room" : Str),x),(("kept" : Str),y),(("top" : Str),d)]:=by rfl
theorem pf3 (x y z d:DV):JI ("read_count" : Str) d [(("page_room" : Str),x),(("kept" : Str),y),(("top" : Str),z)]=[(("page_room" : Str),x),(("kept" : Str),y),(("top" : Str),z),(("read_count" : Str),d)]:=by rfl
theorem pf4 (x y z u d:DV):JI ("write_count" : Str) d [(("page_room" : Str),x),(("kept" : Str),y),(("top" : Str),z),(("read_count" : Str),u)]=[(("page_room" : Str),x),(("kept" : Str),y),(("top" : Str),z),(("read_count" : Str),u),(("write_count" : Str),d)]:=by rfl
theorem QdD (r:Int) (hp:Hs):Zz [.ref hp.length,.int r] (hp++[.ins "Shelf" []])=some (.non,hp++[.ins "Shelf" (shF r (hp.length+1) 0 0 0),.lst [emp]]):=by
 simp [Zz,YZ,Q5,Qr,QM,QN,YF,sIf,Zf,VT,yS,VR,VS,Qk,Qb,eC,eB,asB,qA,eOr,Xc,J0,Vt,Y6,eIf,X6,Qn,Qc,Zg,Yw,QH,ZB,Qv,gN,Jn,JL,Jz,JA,JW,JT,JH,qT,zy,VP,Z6,Xl,Zu,Q8,X0,GA,XM,gSb,yh,Jf,XI,Qw,js,jC,onI,onL,onD,Zh,X8,xb,XJ,ixG,JD,qG,zx,XH,zh,asI,zd,GJ,QD,J1,Xk,Xj,jQ,evP,JJ,Yb,JK,Xm,JX,Ya,Yd,Yc,Zt,QI,Jk,QbJ,QcL,pf0,pf1,pf2,pf3,pf4,qX,lim,shF,emp]
theorem QcX {f g:DEx} {env:En} {hp:Hs} {ds:List DV} {a:Nat} (hf:f env hp=some (.tup ds,hp)) (hg:g env hp=some (.int (a:Int),hp)):eSl f (ZO g) ZN env hp=some (.tup (ds.drop a),hp):=by
 unfold eSl ZO ZN
 rw [Qg hf]
 have e1:(do let i <- asI (<- g env);pure (some i):M (Option Int)) hp=some (some (a:Int),hp):=by rw [Qg hg];rfl
 rw [Qg e1,Qg (rfl:(pure none:M (Option Int)) hp=some (none,hp)),<- G4 ds a];rfl
theorem Qbj:∀ ds:List DV,blM (ds.map fun _=>.bl true)=some (ds.map fun _=>true)
  | []=>rfl
  | _::ds=>by
    show (blM (ds.map fun _=>.bl true)).map (true :: ·)=_
    rw [Qbj ds];rfl
section
end
theorem Qbl {g g':DV->DV->M DV} {fa fb fc:DEx} {env:En} {hp:Hs} {x y z:DV} {b b':Bool} (ha:fa env hp=some (x,hp)) (hb:fb env hp=some (y,hp)) (hc:fc env hp=some (z,hp)) (h1:g x y=pure (.bl b)) (h2:g' y z=pure (.bl b')):Xi g g' fa fb fc env hp=some (.bl (b&&b'),hp):=by
  unfold Xi
  rw [Qg ha,Qg hb,h1,pure_bind]
  show ((if b=true then _ else _:M DV)) hp=_
  cases b with
  | false=>rfl
  | true =>
    show (fc env >>= fun w=>g' y w) hp=_
    rw [Qg hc,h2];cases b'<;>rfl
def wvF (t:Int):List (Str×DV):=[("shelf", .ref 0),("deeds", .ref 3),("taken", .int t),("held", .ref 4),("done", .ref 5)]
theorem Qda (t:Int):List.lookup ("shelf" : Str) (wvF t)=some (DV.ref 0):=by rfl
theorem qo (t:Int):List.lookup ("deeds" : Str) (wvF t)=some (DV.ref 3):=by rfl
theorem zJ (t:Int):List.lookup ("taken" : Str) (wvF t)=some (DV.int t):=by rfl
theorem qP (t:Int):List.lookup ("held" : Str) (wvF t)=some (DV.ref 4):=by rfl
theorem kX (t:Int):List.lookup ("done" : Str) (wvF t)=some (DV.ref 5):=by rfl
theorem QgG (t u:Int):JI ("taken" : Str) (.int u) (wvF t)=wvF u:=by rfl
theorem QhL (t:Int):List.lookup ("step_walk" : Str) (wvF t)=none:=by rfl
theorem QhM (t:Int):List.lookup ("take_deed" : Str) (wvF t)=none:=by rfl
theorem Qe4 (t:Int):List.lookup ("move" : Str) (wvF t)=none:=by rfl
theorem Qe5 (t:Int):List.lookup ("idle" : Str) (wvF t)=none:=by rfl
theorem Qe6 (t:Int):List.lookup ("hand_in" : Str) (wvF t)=none:=by rfl
theorem QhN (t:Int):List.lookup ("finish" : Str) (wvF t)=none:=by rfl
theorem kJ {e f g:DEx} {env:En} {w w1:Hs} {a i:Nat} {ds:List DV} {d:DV} (he:e env w=some (d,w1)) (hf:f env w1=some (.ref a,w1)) (ha:w1[a]?=some (.lst ds)) (hg:g env w1=some (.int (i:Int),w1)) (hl:i < ds.length):XM e (gSb f g) env w=some ((.nx,env),w1.set a (.lst (ds.set i d))):=by
 refine Gz he ?_
 unfold gSb
 rw [Qg hf,Qg hg]
 have:yh (.ref a) (.int (i:Int)) d w1=some ((),w1.set a (.lst (ds.set i d))):=by
  show (ZG a >>= _) w1=_
  rw [Qg (Zn ha)]
  show (asI (.int (i:Int)) >>= fun k=>match ixN ds.length k with | some j=>xA a (.lst (ds.set j d)) | none=>failure) w1=_
  rw [Qg (rfl:asI (.int (i:Int)) w1=some ((i:Int),w1)),kj hl];rfl
 rw [Qg this];rfl
theorem QdA {c f:Str} {o e:DEx} {env:En} {hp:Hs} {a:Nat} {fs:List (Str×DV)} {x y:Int} (ho:o env hp=some (.ref a,hp)) (h:hp[a]?=some (.ins c fs)) (hf:fs.lookup f=some (.int x)) (he:e env hp=some (.int y,hp)) (hl:fs.length < 1000):X0 c f zd o e env hp=some ((.nx,env),hp.set a (.ins c (JI f (.int (x+y)) fs))):=by
 unfold X0
 have e1:js c f (.ref a) hp=some (.int x,hp):=by unfold js;rw [xh h,hf];rfl
 have e2:jC c f (.ref a) (.int (x+y)) hp=some ((),hp.set a (.ins c (JI f (.int (x+y)) fs))):=by unfold jC;rw [xh h,decide_eq_true hl];rfl
 rw [Qg ho,Qg e1,Qg he,Qg (rfl:zd (.int x) (.int y) hp=some (.int (x+y),hp)),Qg e2];rfl
section
variable {hp:Hs} {t h m:Nat} {hs ds ys:List DV}
theorem Qgt (h2:hp[2]?=some (.ins "Weaver" (wvF t))) (h3:hp[3]?=some (.lst ds)) (h4:hp[4]?=some (.lst hs)) (hl:h < hs.length) {d:TR.Deed} (hd:ds[t]?=some (QU d)) :
  Jj [.ref 2,.int h] hp=some (.tup [.str "take", .int h,.int t],((hp++[wkO 0 (hp.length+1) (hp.length+2) (TR.fresh d),.dic [],.lst []]).set 4 (.lst (hs.set h (.tup [.int t,.ref hp.length])))).set 2 (.ins "Weaver" (wvF (t+1)))):=by
 let E:En:=[.val (.ref 2),.val (.int h),.val (.int t)]
 let w1:Hs:=hp++[wkO 0 (hp.length+1) (hp.length+2) (TR.fresh d),.dic [],.lst []]
 have g:∀ {i:Nat} {o:OV},hp[i]?=some o->w1[i]?=some o:=fun {i o} e=>(List.getElem?_append_left (List.getElem?_eq_some_iff.mp e).1).trans e
 let w2:Hs:=w1.set 4 (.lst (hs.set h (.tup [.int t,.ref hp.length])))
 have h2':w2[2]?=some (.ins "Weaver" (wvF t)):=(QI _ _ _ _ (by decide)).trans (g h2)
 have mk:J1 "Walk" 3 Jm (Qc (Qw "Weaver" "shelf" (Qb 0)) (Qc (Qk ixG (Qw "Weaver" "deeds" (Qb 0)) (Qb 2)) (Qn))) E hp=some (.ref hp.length,w1):=Qc6 (d:=d) (ZH (QA (Qe rfl) h2 (Qda _)) (Ql (QA (Qe rfl) h2 (qo _)) (Qe rfl) (Gg h3 hd)))
 refine Qy (env:=E) ((Qj (env1:=E) (Q0 (QA (Qe rfl) h2 (zJ _)))).trans ?_)
 refine (Qj (env1:=E) (hp1:=w2) (kJ (ZY (ZH (Qe rfl) mk) (by simp)) (QA (Qe rfl) (g h2) (qP _)) (g h4) (Qe rfl) hl)).trans ?_
 refine (Qj (env1:=E) (hp1:=w2.set 2 (.ins "Weaver" (wvF (t+1)))) ((QdA (Qe rfl) h2' (zJ _) rfl (show (5:Nat) < 1000 by decide)).trans (by rw [QgG]))).trans ?_
 exact QB (ZY (XX rfl (Qe rfl) (Qe rfl)) (by simp))
end
theorem Vl {nxt:NX} {t:DV->M Bool} {f:DV->M DV} {g:DV->DV} {hp:Hs} (ds:List DV) (hx:∀ i,i<=ds.length->nxt i hp=some (ds[i]?,hp)) (ht:∀ d∈ds,t d hp=some (true,hp)) (hf:∀ d∈ds,f d hp=some (g d,hp)) (hl:ds.length < 100000):Z9 nxt t f 100000 0 hp=some (ds.map g,hp):=by
  suffices h:∀ (m i n:Nat),m+i=ds.length->m < n->Z9 nxt t f n i hp=some ((ds.drop i).map g,hp) by simpa using h ds.length 0 100000 rfl hl
  intro m
  induction m with
  | zero =>
    intro i n e hn'
    obtain ⟨n,rfl⟩:∃ k,n=k+1:=⟨n - 1,by omega⟩
    have:i=ds.length:=by omega
    subst this
    have e1:=hx ds.length (Nat.le_refl _)
    rw [show ds[ds.length]?=none by simp] at e1
    rw [Z9,Qg e1,List.drop_length];rfl
  | succ m ih =>
    intro i n e hn'
    obtain ⟨n,rfl⟩:∃ k,n=k+1:=⟨n - 1,by omega⟩
    have hlt:i < ds.length:=by omega
    have e1:=hx i (by omega)
    rw [List.getElem?_eq_getElem hlt] at e1
    rw [Z9,Qg e1]
    simp only
    rw [Qg (ht ds[i] (List.getElem_mem hlt)),List.drop_eq_getElem_cons hlt]
    simp only [if_true]
    rw [Qg (hf ds[i] (List.getElem_mem hlt)),Qg (ih (i+1) n (by omega) (by omega))];rfl
theorem xI {f:DEx} {env:En} {hp:Hs} {n:Nat} {ds:List DV} (h:f env hp=some (.ref n,hp)) (hn:hp[n]?=some (.lst ds)):xLs f env hp=some (nxW n,hp):=by
 unfold xLs
 rw [Qg h]
 show (ZG n >>= _) hp=_
 rw [Qg (Zn hn)];rfl
theorem YS {hp:Hs} {n:Nat} {ds:List DV} (hn:hp[n]?=some (.lst ds)) (i:Nat):nxW n i hp=some (ds[i]?,hp):=by
 unfold nxW
 rw [Qg (Zn hn)];rfl
theorem gE (p:DV->Bool):∀ ds:List DV,blM (ds.map fun d=>.bl (p d))=some (ds.map p)
 | []=>rfl
 | d::r=>by rw [List.map_cons,blM,gE p r];rfl
section
variable {hp:Hs} {t h:Nat} {hs ds:List DV} {x:Int}
theorem Qft (h2:hp[2]?=some (.ins "Weaver" (wvF t))) (h3:hp[3]?=some (.lst ds)) (h4:hp[4]?=some (.lst hs)) (hl:hs.length < 1000):JY [.ref 2] hp=some (.bl (((t:Int)==(ds.length:Int))&&hs.all isN),hp):=by
  let E:En:=[.val (.ref 2)]
  have cm:XO E hp=some (.lst (hs.map fun d=>.bl (isN d)),hp):=by
    unfold XO Je
    rw [Qg (xI (QA (Qe rfl) h2 (qP _)) h4)]
    have c:=Vl (nxt:=nxW 4) (t:=fun d=>y0 (cE [] E d)) (f:=fun d=>Qk isD (Qb 0) (eC .non) (cE [] E d)) (g:=fun d=>.bl (isN d)) (hp:=hp) hs (fun i _=>YS h4 i) (fun d _=>rfl) (fun d _=>Ql (Qe rfl) rfl rfl) (by omega)
    rw [show lim=100000 from rfl,Qg c];rfl
  refine Qy (env:=E) (QB ?_)
  rw [Vr (Ql (QA (Qe rfl) h2 (zJ _)) (YC (QA (Qe rfl) h2 (qo _)) h3) (eqI _ _ _))]
  cases ((t:Int)==(ds.length:Int)) with
  | false=>rfl
  | true =>
    rw [if_pos rfl]
    refine XS (ZI cm) ?_
    show (lsG (.lst (hs.map fun d=>.bl (isN d))) >>= _) hp=_
    rw [Qg (rfl:lsG (.lst (hs.map fun d=>DV.bl (isN d))) hp=some (hs.map fun d=>.bl (isN d),hp)),gE]
    show some (DV.bl ((hs.map isN).all id),hp)=_
    rw [List.all_map];rfl
theorem QbM {d:DV} (h2:hp[2]?=some (.ins "Weaver" (wvF t))) (h3:hp[3]?=some (.lst ds)) (hl:ds.length < 1000):ZV [.ref 2,d] hp=some (.int ds.length,hp.set 3 (.lst (ds++[d]))):=by
 have h2':(hp.set 3 (.lst (ds++[d])))[2]?=some (.ins "Weaver" (wvF t)):=(QI _ _ _ _ (by decide)).trans h2
 have h3':(hp.set 3 (.lst (ds++[d])))[3]?=some (.lst (ds++[d])):=Zt _ _ _ (by rw [h3];rfl)
 refine Qy (env:=[.val (.ref 2),.val d]) ((Qj (ZX (Yg (QA (Qe rfl) h2 (qo _)) h3 (Qe rfl) (by omega)))).trans (QB (Ql (YC (QA (Qe rfl) h2' (qo _)) h3') rfl ?_)))
 show some (DV.int (((ds++[d]).length:Int) - 1),_)=_
 rw [List.length_append];simp
theorem QgT (h2:hp[2]?=some (.ins "Weaver" (wvF t))) (h4:hp[4]?=some (.lst hs)):Xc (eB (Xi leD ltD (eC (.int 0)) (Qb 1) (ZB JD (Qc (Qw "Weaver" "held" (Qb 0)) (Qn))))) [.val (.ref 2),.val (.int x)] hp=some (!(decide (0<=x)&&decide (x < hs.length)),hp) :=
 X7 (QR (Qbl rfl (Qe rfl) (YC (QA (Qe rfl) h2 (qP _)) h4) rfl rfl))
theorem uu (h2:hp[2]?=some (.ins "Weaver" (wvF t))) (h4:hp[4]?=some (.lst hs)) (hl:h < hs.length):Xc (eB (Xi leD ltD (eC (.int 0)) (Qb 1) (ZB JD (Qc (Qw "Weaver" "held" (Qb 0)) (Qn))))) [.val (.ref 2),.val (.int h)] hp=some (false,hp):=by
 rw [QgT h2 h4,decide_eq_true (p:=(0:Int)<=h) (by omega),decide_eq_true (p:=(h:Int) < hs.length) (by omega)];rfl
theorem QbS {d:DV} (h2:hp[2]?=some (.ins "Weaver" (wvF t))) (h4:hp[4]?=some (.lst hs)) (hd:hs[h]?=some d):eB (Qk vm (Qk ixG (Qw "Weaver" "held" (Qb 0)) (Qb 1)) (eC .non)) [.val (.ref 2),.val (.int h)] hp=some (!isN d,hp) :=
 QR (Ql (Ql (QA (Qe rfl) h2 (qP _)) (Qe rfl) (Gg h4 hd)) rfl rfl)
theorem QeY {d r:DV} {hp':Hs} (h2:hp[2]?=some (.ins "Weaver" (wvF t))) (h4:hp[4]?=some (.lst hs)) (hd:hs[h]?=some d) (hn:isN d=false) (e:J5 [.ref 2,.int h] hp=some (r,hp')):ZE [.ref 2,.int h] hp=some (r,hp') :=
 Qy (env:=[.val (.ref 2),.val (.int h)]) ((Qj ((QF (uu h2 h4 (List.getElem?_eq_some_iff.mp hd).1)).trans nil_at)).trans (Zi ((Zl ((QbS h2 h4 hd).trans (by rw [hn];rfl))).trans (QB (Q6 (Qe rfl) h2 (QhL _) (ZI (Qe rfl)) rfl e)))))
theorem Qha {d r:DV} {hp':Hs} (h2:hp[2]?=some (.ins "Weaver" (wvF t))) (h3:hp[3]?=some (.lst ds)) (h4:hp[4]?=some (.lst hs)) (hd:hs[h]?=some d) (hn:isN d=true) (ht:t < ds.length) (e:Jj [.ref 2,.int h] hp=some (r,hp')):ZE [.ref 2,.int h] hp=some (r,hp') :=
 Qy (env:=[.val (.ref 2),.val (.int h)]) ((Qj ((QF (uu h2 h4 (List.getElem?_eq_some_iff.mp hd).1)).trans nil_at)).trans ((Qj ((QF ((QbS h2 h4 hd).trans (by rw [hn];rfl))).trans nil_at)).trans (Zi ((Zl (QR (Ql (QA (Qe rfl) h2 (zJ _)) (YC (QA (Qe rfl) h2 (qo _)) h3) (show some (DV.bl (decide ((t:Int) < ds.length)),hp)=some (.bl true,hp) by rw [decide_eq_true (by omega)])))).trans (QB (Q6 (Qe rfl) h2 (QhM _) (ZI (Qe rfl)) rfl e))))))
theorem Qg9 {d:DV} (h2:hp[2]?=some (.ins "Weaver" (wvF t))) (h3:hp[3]?=some (.lst ds)) (h4:hp[4]?=some (.lst hs)) (hd:hs[h]?=some d) (hn:isN d=true) (ht:¬ t < ds.length):ZE [.ref 2,.int h] hp=some (.tup [.str "rest", .int h],hp) :=
 Qy (env:=[.val (.ref 2),.val (.int h)]) ((Qj ((QF (uu h2 h4 (List.getElem?_eq_some_iff.mp hd).1)).trans nil_at)).trans ((Qj ((QF ((QbS h2 h4 hd).trans (by rw [hn];rfl))).trans nil_at)).trans ((Qj ((QF (QR (Ql (QA (Qe rfl) h2 (zJ _)) (YC (QA (Qe rfl) h2 (qo _)) h3) (show some (DV.bl (decide ((t:Int) < ds.length)),hp)=some (.bl false,hp) by rw [decide_eq_false (by omega)])))).trans nil_at)).trans (QB (ZY (ZH rfl (Qe rfl)) (by simp))))))
end
def hdD (v:TR.Wk) (n a:Nat):DV:=if v.ended=true then .non else .tup [.int n,.ref a]
def QgV (i n:Nat):DV->DV
 | .tup (x::xs)=>.tup ([x,.int i,.int n]++xs)
 | _=>.non
def xj (i:Nat):TR.Out->DV
 | .rest=>.tup [.str "rest", .int i]
 | .take n=>.tup [.str "take", .int i,.int n]
 | .did n r=>QgV i n (Gx r)
abbrev Dn:=List (Nat×Nat×TR.Wk)
def dnD (x:Nat×Nat×TR.Wk):DV:=.tup [.int x.1,.ref x.2.1]
structure WB (w:Hs) (ds:List TR.Deed) (s:TR.St) (L:Nat->Nat) (Q:Dn):Prop where
 h1:w[0]?=some (.ins "Shelf" (shF s.S.room 1 s.S.top s.S.rd s.S.wr))
 h2:w[1]?=some (.lst (s.S.pg.map pgD))
 hv:w[2]?=some (.ins "Weaver" (wvF s.tk))
 hd:w[3]?=some (.lst (ds.map QU))
 hh:∃ hs,w[4]?=some (.lst hs)/\hs.length=s.ws.length/\∀ (i:Nat) (v:TR.Wk),s.ws[i]?=some v->hs[i]?=some (hdD v (s.ns.getD i 0) (L i))
 hn:w[5]?=some (.lst (Q.map dnD))
 hq:Q.length+TR.lc s.ws<=s.tk
 ob:∀ (i:Nat) (v:TR.Wk),s.ws[i]?=some v->v.ended=false->w[L i]?=some (wkO 0 (L i+1) (L i+2) v)/\w[L i+1]?=some (.dic (fkD v.forks))/\w[L i+2]?=some (.lst (prD v.pairs))/\8 < L i
 dj:∀ (i j:Nat) (v u:TR.Wk),i≠j->s.ws[i]?=some v->v.ended=false->s.ws[j]?=some u->u.ended=false->L i+2 < L j∨L j+2 < L i
 od:∀ x∈Q,w[x.2.1]?=some (wkO 0 (x.2.1+1) (x.2.1+2) x.2.2)/\w[x.2.1+2]?=some (.lst (prD x.2.2.pairs))/\x.2.2.ended=true/\8 < x.2.1/\∀ (i:Nat) (v:TR.Wk),s.ws[i]?=some v->v.ended=false->L i+2 < x.2.1∨x.2.1+2 < L i
structure Fw (C:Nat->Prop) (w:Hs) (s:TR.St) (L:Nat->Nat) (w':Hs) (s':TR.St) (L':Nat->Nat):Prop where
 len:w.length<=w'.length
 own:∀ (i:Nat) (v:TR.Wk),s'.ws[i]?=some v->v.ended=false->(∃ u,s.ws[i]?=some u/\u.ended=false/\L' i=L i)∨w.length<=L' i
 old:∀ x,x < w.length->¬ C x->(∀ (i:Nat) (u:TR.Wk),s.ws[i]?=some u->u.ended=false->x < L i∨L i+2 < x)->w'[x]?=w[x]?
def CW (x:Nat):Prop:=x=0∨x=1∨x=2∨x=4∨x=5
section
variable {C:Nat->Prop} {w w1 w2:Hs} {s s1 s2:TR.St} {L L1 L2:Nat->Nat} {ds:List TR.Deed} {bg:TR.Bg} {b:Nat->Nat}
theorem Fw.refl:Fw C w s L w s L:=⟨Nat.le_refl _,fun i v h e=>.inl ⟨v,h,e,rfl⟩,fun _ _ _ _=>rfl⟩
theorem Fw.trans (a:Fw C w s L w1 s1 L1) (c:Fw C w1 s1 L1 w2 s2 L2):Fw C w s L w2 s2 L2:=by
 have l1:=a.len
 refine ⟨Nat.le_trans a.len c.len,fun i v h e=>?_,fun x hx hC hL=>?_⟩
 ·rcases c.own i v h e with ⟨u,h1,e1,q⟩ | q
  ·rw [q];exact a.own i u h1 e1
  ·exact .inr (by omega)
 ·rw [c.old x (by omega) hC fun i u h e=>?_]
  ·exact a.old x hx hC hL
  ·rcases a.own i u h e with ⟨v,h1,e1,q⟩ | q
   ·rw [q];exact hL i v h1 e1
   ·exact .inl (by omega)
theorem gZ {v:TR.Wk} {n a:Nat} (h:v.ended=true):hdD v n a=.non:=by unfold hdD;rw [if_pos h]
theorem gY {v:TR.Wk} {n a:Nat} (h:v.ended=false):hdD v n a=.tup [.int n,.ref a]:=by unfold hdD;rw [if_neg (by rw [h];simp)]
theorem QcE {S S':TR.Sh} {v v':TR.Wk} {r:TR.Row} (h:TR.Jh S v=some (r,S',v')) (he:v.ended=false) (T:TR.Tree S bg) (W:TR.WOk S bg v):∃ x xs,Gx r=.tup (x::xs)/\xs.length<=10:=by
  cases r with
  | non =>
    exfalso
    unfold TR.Jh at h
    rw [if_neg (by rw [he];simp)] at h
    split at h
    . cases h
    . split at h
      . split at h<;>cases h
      . split at h
        . split at h<;>cases h
        . split at h
          . split at h<;>cases h
          . split at h
            . split at h
              . cases h
              . cases h
            . have e:=Option.some.inj h
              unfold TR.Z7 at e
              split at e
              . cases e
              . cases e
              . cases e
              . split at e
                . split at e<;>cases e
                . cases e
  | side n t=>exact ⟨_,_,rfl,Nat.le_of_ble_eq_true rfl⟩
  | down n t=>exact ⟨_,_,rfl,Nat.le_of_ble_eq_true rfl⟩
  | found n t=>exact ⟨_,_,rfl,Nat.le_of_ble_eq_true rfl⟩
  | put n t k=>exact ⟨_,_,rfl,Nat.le_of_ble_eq_true rfl⟩
  | cut n t=>exact ⟨_,_,rfl,Nat.le_of_ble_eq_true rfl⟩
  | read n ps t=>cases t with
    | none=>exact ⟨_,_,rfl,Nat.le_of_ble_eq_true rfl⟩
    | some t=>obtain ⟨t,a⟩:=t;exact ⟨_,_,rfl,Nat.le_of_ble_eq_true rfl⟩
  | told n k=>exact ⟨_,_,rfl,Nat.le_of_ble_eq_true rfl⟩
  | raised n t=>exact ⟨_,_,rfl,Nat.le_of_ble_eq_true rfl⟩
theorem Go {v v':TR.Wk} {ws:List TR.Wk} {i:Nat} (h:ws[i]?=some v):TR.lc (ws.set i v')+(if v.ended=false then 1 else 0)=TR.lc ws+(if v'.ended=false then 1 else 0):=by
 have:=TR.jO TR.lf ws i v v' h
 unfold TR.lf at this
 unfold TR.lc TR.lf
 simpa using this
theorem Qca {Q:Dn} (A:WB w ds s L Q) (Y:TR.StOk ds s bg b) {i:Nat} (hi:i < s.ws.length) (h48:ds.length<=60) (h11:8 < w.length) (hb:b i<=9000) {o:TR.Out} {s':TR.St} (hm:TR.mv ds s i=some (o,s')):∃ w' L' Q',ZE [.ref 2,.int i] w=some (xj i o,w')/\WB w' ds s' L' Q'/\Fw CW w s L w' s' L'/\(∀ v,s.ws[i]?=some v->(v.ended=true->Q'=Q)/\(v.ended=false->∀ v2,s'.ws[i]?=some v2->Q'=if v2.ended=true then Q++[(s.ns.getD i 0,L i,v2)] else Q)):=by
  obtain ⟨hs,k6,hsl,hsi⟩:=A.hh
  have k7:=A.hn
  have hyl:=A.hq
  have tkl:=Y.tk
  have hw:=List.getElem?_eq_getElem hi
  generalize s.ws[i]=v at hw
  have hvi:=hsi i v hw
  unfold TR.mv at hm
  rw [hw] at hm
  dsimp only at hm
  cases he:v.ended with
  | true =>
    rw [he,if_pos rfl] at hm
    rw [gZ he] at hvi
    have fin:∀ u,s.ws[i]?=some u->(u.ended=true->Q=Q)/\(u.ended=false->∀ v2,s'.ws[i]?=some v2->Q=if v2.ended=true then Q++[(s.ns.getD i 0,L i,v2)] else Q):=fun u hu=>⟨fun _=>rfl,fun e=>by rw [hw] at hu;cases hu;rw [he] at e;cases e⟩
    cases hd:ds[s.tk]? with
    | none =>
      rw [hd] at hm
      cases hm
      have le:ds.length<=s.tk:=by simpa using hd
      exact ⟨w,L,Q,Qg9 A.hv A.hd k6 hvi rfl (by rw [List.length_map];omega),A,Fw.refl,fin⟩
    | some d =>
      rw [hd] at hm
      cases hm
      have lt:s.tk < ds.length:=(List.getElem?_eq_some_iff.mp hd).1
      have e:=Qgt (h:=i) A.hv A.hd k6 (by omega) (d:=d) (by rw [List.getElem?_map,hd];rfl)
      have old:∀ {x:Nat} {z:OV},x≠2->x≠4->w[x]?=some z->(((w++[wkO 0 (w.length+1) (w.length+2) (TR.fresh d),.dic [],.lst []]).set 4 (.lst (hs.set i (.tup [.int s.tk,.ref w.length])))).set 2 (.ins "Weaver" (wvF (s.tk+1))))[x]?=some z:=fun {x z} n4 n6 hx=>gs (Ne.symm n4) (gs (Ne.symm n6) ((List.getElem?_append_left (List.getElem?_eq_some_iff.mp hx).1).trans hx))
      have gap:∀ j x,[wkO 0 (w.length+1) (w.length+2) (TR.fresh d),.dic [],.lst []][j]?=some x->(w++[wkO 0 (w.length+1) (w.length+2) (TR.fresh d),.dic [],.lst []])[w.length+j]?=some x:=fun j x h=>by rw [List.getElem?_append_right (by omega),Nat.add_sub_cancel_left];exact h
      have lcs:=Go (v':=TR.fresh d) hw
      rw [if_neg (by rw [he];simp),if_pos (show (TR.fresh d).ended=false from rfl)] at lcs
      have small:∀ (j:Nat) (u:TR.Wk),s.ws[j]?=some u->u.ended=false->L j+2 < w.length:=fun j u hj hu=>(List.getElem?_eq_some_iff.mp (A.ob j u hj hu).2.2.1).1
      refine ⟨_,fun j=>if j=i then w.length else L j,Q,Qha A.hv A.hd k6 hvi rfl (by rw [List.length_map];exact lt) e,⟨old (by decide) (by decide) A.h1,old (by decide) (by decide) A.h2,gss (gs (by decide) ((List.getElem?_append_left (by omega)).trans A.hv)),old (by decide) (by decide) A.hd,⟨hs.set i (.tup [.int s.tk,.ref w.length]),gs (by decide) (gss ((List.getElem?_append_left (by omega)).trans k6)),by simp [hsl],fun j u hj=>?_⟩,old (by decide) (by decide) k7,by show Q.length+TR.lc (s.ws.set i (TR.fresh d))<=s.tk+1;omega,fun j u hj hu=>?_,fun j j' u u' hne hj hu hj' hu'=>?_,fun x hx=>?_⟩,⟨by simp,fun j u hj hu=>?_,fun x hx hC _=>?_⟩,fin⟩
      . rcases TR.QL hj with ⟨rfl,e2,_⟩ | ⟨ne,hj⟩
        . rw [e2,List.getElem?_set_self (by omega)]
          show _=some (hdD (TR.fresh d) ((s.ns.set j s.tk).getD j 0) (if j=j then w.length else L j))
          rw [if_pos rfl,gY rfl,List.getD_eq_getElem?_getD,List.getElem?_set_self (by rw [Y.len];omega)];rfl
        . rw [List.getElem?_set_ne (Ne.symm ne)]
          show _=some (hdD u ((s.ns.set i s.tk).getD j 0) (if j=i then w.length else L j))
          rw [if_neg ne,List.getD_eq_getElem?_getD,List.getElem?_set_ne (Ne.symm ne),<- List.getD_eq_getElem?_getD]
          exact hsi j u hj
      . rcases TR.QL hj with ⟨rfl,e2,_⟩ | ⟨ne,hj⟩
        . rw [e2,if_pos rfl]
          exact ⟨gs (by omega) (gs (by omega) (gap 0 _ rfl)),gs (by omega) (gs (by omega) (gap 1 _ rfl)),gs (by omega) (gs (by omega) (gap 2 _ rfl)),h11⟩
        . rw [if_neg ne]
          obtain ⟨o1,o2,o3,o4⟩:=A.ob j u hj hu
          exact ⟨old (by omega) (by omega) o1,old (by omega) (by omega) o2,old (by omega) (by omega) o3,o4⟩
      . rcases TR.QL hj with ⟨rfl,e2,_⟩ | ⟨ne,hj2⟩
        . rcases TR.QL hj' with ⟨rfl,e3,_⟩ | ⟨ne',hj3⟩
          . exact absurd rfl hne
          . rw [if_pos rfl,if_neg ne'];exact .inr (small _ _ hj3 hu')
        . rcases TR.QL hj' with ⟨rfl,e3,_⟩ | ⟨ne',hj3⟩
          . rw [if_neg ne,if_pos rfl];exact .inl (small _ _ hj2 hu)
          . rw [if_neg ne,if_neg ne'];exact A.dj j j' u u' hne hj2 hu hj3 hu'
      . obtain ⟨p1,p2,p3,p4,p5⟩:=A.od x hx
        have lx:x.2.1+2 < w.length:=(List.getElem?_eq_some_iff.mp p2).1
        refine ⟨old (by omega) (by omega) p1,old (by omega) (by omega) p2,p3,p4,fun j u hj hu=>?_⟩
        rcases TR.QL hj with ⟨rfl,e2,_⟩ | ⟨ne,hj⟩
        . rw [if_pos rfl];exact .inr lx
        . rw [if_neg ne];exact p5 j u hj hu
      . rcases TR.QL hj with ⟨rfl,e2,_⟩ | ⟨ne,hj⟩
        . rw [if_pos rfl];exact .inr (Nat.le_refl _)
        . rw [if_neg ne];exact .inl ⟨u,hj,hu,rfl⟩
      . rw [QI _ _ _ _ (fun h=>hC (by unfold CW;omega)),QI _ _ _ _ (fun h=>hC (by unfold CW;omega)),List.getElem?_append_left hx]
  | false =>
    rw [he,if_neg (by simp)] at hm
    have W:=Y.A.ok i v hw he
    cases es:TR.Jh s.S v with
    | none=>rw [es] at hm;cases hm
    | some q =>
      obtain ⟨r,S2,v2⟩:=q
      rw [es] at hm
      cases hm
      rw [gY he] at hvi
      obtain ⟨o1,o2,o3,o4⟩:=A.ob i v hw he
      have D:Dif 0 1 (L i) (L i+1) (L i+2):=⟨by decide,by omega,by omega,by omega,by omega,by omega,by omega,by omega,by omega,by omega⟩
      have pg:=Y.pages
      have fl:=(Y.fk i v hw he).len Y.T
      have pl:=Y.pr i v hw he
      obtain ⟨w1,e1,A1,F1⟩:=Qez Y.T W (Nat.le_trans Y.rm (by decide)) ⟨A.h1,A.h2,o1,o2,o3⟩ D (by omega) (by omega) (by omega) es
      obtain ⟨x,xs,ex,xl⟩:=QcE es he Y.T W
      have k:∀ {j:Nat} {z:OV},j≠0->j≠1->(j < L i∨L i+2 < j)->w[j]?=some z->w1[j]?=some z:=fun {j z} n2 n3 nL hj=>(F1.2 j (List.getElem?_eq_some_iff.mp hj).1 n2 n3 (by omega) (by omega) (by omega)).trans hj
      have hv1:=k (by decide) (by decide) (.inl (by omega)) A.hv
      have k61:=k (by decide) (by decide) (.inl (by omega)) k6
      have k71:=k (by decide) (by decide) (.inl (by omega)) k7
      let n:=s.ns.getD i 0
      let Hd:DV:=.tup [.int n,.ref (L i)]
      let E:Sl->Sl->Sl->En:=fun x y z=>[.val (.ref 2),.val (.int i),x,y,z]
      let E5:En:=E (.val Hd) (.val (.ref (L i))) (.val (Gx r))
      have u1:QM 2 (Qk ixG (Qw "Weaver" "held" (Qb 0)) (Qb 1)) (E .un .un .un) w=some ((.nx,E (.val Hd) .un .un),w):=Q0 (Ql (QA (Qe rfl) A.hv (qP _)) (Qe rfl) (Gg k6 hvi))
      have u2:QM 3 (Qk ixG (Qb 2) (eC (.int 1))) (E (.val Hd) .un .un) w=some ((.nx,E (.val Hd) (.val (.ref (L i))) .un),w):=Q0 (Ql (x:=Hd) (Qe rfl) rfl (ZZ (i:=1) rfl w))
      have u3:QM 4 (QD "Walk" "step" 1 Yx (Qb 3) Qn) (E (.val Hd) (.val (.ref (L i))) .un) w=some ((.nx,E5),w1):=Q0 (Q6 (Qe rfl) o1 (QeI ..) za rfl e1)
      have ovr:eB (QD "Walk" "over" 1 XD (Qb 3) Qn) E5 w1=some (v2.ended,w1):=QR (Q6 (Qe rfl) A1.h3 (QeJ ..) za rfl (QdU A1.h3))
      have ret:∀ w':Hs,QN (Qk Z5 (Zg (Qc (Qk ixG (Qb 4) (eC (.int 0))) (Qc (Qb 1) (Qc (Qk ixG (Qb 2) (eC (.int 0))) (Qn))))) (eSl (Qb 4) (ZO (eC (.int 1))) (ZN))) E5 w'=some ((.rt (QgV i n (Gx r)),E5),w'):=fun w'=>by
        have e0:Qb 4 E5 w'=some (.tup (x::xs),w'):=by rw [<- ex];exact Qe rfl
        refine QB (Ql (ZY (XX (Ql e0 rfl (ZZ (i:=0) rfl w')) (Qe rfl) (Ql (x:=Hd) (Qe rfl) rfl (ZZ (i:=0) rfl w'))) (by simp)) (QcX (a:=1) e0 rfl) ?_)
        rw [ex]
        show (Qv (qX ([x,.int i,.int n]++xs)) >>= fun _=>pure (DV.tup ([x,.int i,.int n]++xs))) w'=_
        rw [Yh (by simp;omega)];rfl
      have lcs:=Go (v':=v2) hw
      rw [if_pos he] at lcs
      have hil:i < hs.length:=by omega
      have fin:∀ Q',(Q'=if v2.ended=true then Q++[(n,L i,v2)] else Q)->∀ u,s.ws[i]?=some u->(u.ended=true->Q'=Q)/\(u.ended=false->∀ v3,(s.ws.set i v2)[i]?=some v3->Q'=if v3.ended=true then Q++[(s.ns.getD i 0,L i,v3)] else Q):=fun Q' hQ u hu=>⟨fun e=>(by rw [hw] at hu;cases hu;rw [he] at e;cases e),fun _ v3 h3=>by rw [List.getElem?_set_self hi] at h3;cases h3;exact hQ⟩
      have back:∀ (w':Hs) (hs':List DV) (Q':Dn),(Q'=if v2.ended=true then Q++[(n,L i,v2)] else Q)->(∀ (j:Nat) (z:OV),j≠4->j≠5->w1[j]?=some z->w'[j]?=some z)->w1.length<=w'.length->(∀ j,j < w1.length->j≠4->j≠5->w'[j]?=w1[j]?)->w'[4]?=some (.lst hs')->hs'.length=hs.length->(∀ j,j≠i->hs'[j]?=hs[j]?)->hs'[i]?=some (hdD v2 n (L i))->w'[5]?=some (.lst (Q'.map dnD))->WB w' ds { s with S:=S2,ws:=s.ws.set i v2 } L Q'/\Fw CW w s L w' { s with S:=S2,ws:=s.ws.set i v2 } L:=by
        intro w' hs' Q' hQ gg ll fr g6 hl6 hj6 hi6 g7
        have lv:∀ (j:Nat) (u:TR.Wk),(s.ws.set i v2)[j]?=some u->u.ended=false->∃ u0,s.ws[j]?=some u0/\u0.ended=false:=fun j u hj hu=>by
          rcases TR.QL hj with ⟨rfl,e2,_⟩ | ⟨ne,hj⟩
          . exact ⟨v,hw,he⟩
          . exact ⟨u,hj,hu⟩
        refine ⟨⟨gg 0 _ (by decide) (by decide) A1.h1,gg 1 _ (by decide) (by decide) A1.h2,gg 2 _ (by decide) (by decide) hv1,gg 3 _ (by decide) (by decide) (k (by decide) (by decide) (.inl (by omega)) A.hd),⟨hs',g6,by simp [hl6,hsl],fun j u hj=>?_⟩,g7,?_,fun j u hj hu=>?_,fun j j' u u' hne hj hu hj' hu'=>?_,fun y hy=>?_⟩,⟨Nat.le_trans F1.1 ll,fun j u hj hu=>?_,fun y hy hC hL=>?_⟩⟩
        . rcases TR.QL hj with ⟨rfl,e2,_⟩ | ⟨ne,hj⟩
          . rw [e2];exact hi6
          . rw [hj6 j ne];exact hsi j u hj
        . show Q'.length+TR.lc (s.ws.set i v2)<=s.tk
          cases h2:v2.ended with
          | true=>rw [h2,if_pos rfl] at hQ;rw [if_neg (by rw [h2];simp)] at lcs;rw [hQ];simp;omega
          | false=>rw [h2,if_neg (by simp)] at hQ;rw [if_pos h2] at lcs;rw [hQ];omega
        . rcases TR.QL hj with ⟨rfl,e2,_⟩ | ⟨ne,hj⟩
          . rw [e2];exact ⟨gg _ _ (by omega) (by omega) A1.h3,gg _ _ (by omega) (by omega) A1.h4,gg _ _ (by omega) (by omega) A1.h5,o4⟩
          . obtain ⟨p1,p2,p3,p4⟩:=A.ob j u hj hu
            have dd:=A.dj i j v u (Ne.symm ne) hw he hj hu
            exact ⟨gg _ _ (by omega) (by omega) (k (by omega) (by omega) (by omega) p1),gg _ _ (by omega) (by omega) (k (by omega) (by omega) (by omega) p2),gg _ _ (by omega) (by omega) (k (by omega) (by omega) (by omega) p3),p4⟩
        . obtain ⟨u0,a1,a2⟩:=lv j u hj hu
          obtain ⟨u1,a3,a4⟩:=lv j' u' hj' hu'
          exact A.dj j j' u0 u1 hne a1 a2 a3 a4
        . have oldQ:y∈Q->w'[y.2.1]?=some (wkO 0 (y.2.1+1) (y.2.1+2) y.2.2)/\w'[y.2.1+2]?=some (.lst (prD y.2.2.pairs))/\y.2.2.ended=true/\8 < y.2.1/\∀ (j:Nat) (u:TR.Wk),(s.ws.set i v2)[j]?=some u->u.ended=false->L j+2 < y.2.1∨y.2.1+2 < L j:=fun hy=>by
            obtain ⟨p1,p2,p3,p4,p5⟩:=A.od y hy
            have q:=p5 i v hw he
            refine ⟨gg _ _ (by omega) (by omega) (k (by omega) (by omega) (by omega) p1),gg _ _ (by omega) (by omega) (k (by omega) (by omega) (by omega) p2),p3,p4,fun j u hj hu=>?_⟩
            obtain ⟨u0,a1,a2⟩:=lv j u hj hu
            exact p5 j u0 a1 a2
          cases h2:v2.ended with
          | false=>rw [h2,if_neg (by simp)] at hQ;rw [hQ] at hy;exact oldQ hy
          | true =>
            rw [h2,if_pos rfl] at hQ
            rw [hQ] at hy
            rcases List.mem_append.mp hy with hy | hy
            . exact oldQ hy
            . rw [List.mem_singleton] at hy
              subst hy
              refine ⟨gg _ _ (by show L i≠4;omega) (by show L i≠5;omega) A1.h3,gg _ _ (by show L i+2≠4;omega) (by show L i+2≠5;omega) A1.h5,h2,o4,fun j u hj hu=>?_⟩
              rcases TR.QL hj with ⟨rfl,e2,_⟩ | ⟨ne,hj⟩
              . rw [e2,h2] at hu;cases hu
              . exact A.dj j i u v ne hj hu hw he
        . rcases TR.QL hj with ⟨rfl,e2,_⟩ | ⟨ne,hj⟩
          . exact .inl ⟨v,hw,he,rfl⟩
          . exact .inl ⟨u,hj,hu,rfl⟩
        . have q:=hL i v hw he
          have l1:=F1.1
          rw [fr y (by omega) (fun h=>hC (by unfold CW;omega)) (fun h=>hC (by unfold CW;omega))]
          exact F1.2 y hy (fun h=>hC (by unfold CW;omega)) (fun h=>hC (by unfold CW;omega)) (by omega) (by omega) (by omega)
      cases hv2:v2.ended with
      | false =>
        rw [hv2] at ovr
        have hQ:Q=if v2.ended=true then Q++[(n,L i,v2)] else Q:=by rw [hv2];rfl
        obtain ⟨b1,b2⟩:=back w1 hs Q hQ (fun _ _ _ _ h=>h) (Nat.le_refl _) (fun _ _ _ _=>rfl) k61 rfl (fun _ _=>rfl) (by rw [gY hv2];exact hvi) k71
        exact ⟨w1,L,Q,QeY A.hv k6 hvi rfl (Qy (env:=E5) ((Qj u1).trans ((Qj u2).trans ((Qj u3).trans ((Qj ((QF ovr).trans nil_at)).trans (ret w1)))))),b1,b2,fin Q hQ⟩
      | true =>
        rw [hv2] at ovr
        have hQ:Q++[(n,L i,v2)]=if v2.ended=true then Q++[(n,L i,v2)] else Q:=by rw [hv2];rfl
        let w2:Hs:=w1.set 4 (.lst (hs.set i .non))
        have hv2':w2[2]?=some (.ins "Weaver" (wvF s.tk)):=gs (by decide) hv1
        have k72:w2[5]?=some (.lst (Q.map dnD)):=gs (by decide) k71
        let w3:Hs:=w2.set 5 (.lst (Q.map dnD++[Hd]))
        have u4:sIf (eB (QD "Walk" "over" 1 XD (Qb 3) Qn)) (Qr (XM (eC .non) (gSb (Qw "Weaver" "held" (Qb 0)) (Qb 1))) (Zu (Jf "list" Zh (Qw "Weaver" "done" (Qb 0)) (Qc (Qb 2) (Qn))))) (Zf) E5 w1=some ((.nx,E5),w3):=(Zl ovr).trans ((Qj (env1:=E5) (hp1:=w2) (kJ rfl (QA (Qe rfl) hv1 (qP _)) k61 (Qe rfl) hil)).trans (ZX (Yg (QA (Qe rfl) hv2' (kX _)) k72 (Qe rfl) (by rw [List.length_map];omega))))
        obtain ⟨b1,b2⟩:=back w3 (hs.set i .non) (Q++[(n,L i,v2)]) hQ (fun j z n6 n7 h=>gs (Ne.symm n7) (gs (Ne.symm n6) h)) (by show w1.length<=((w1.set 4 _).set 5 _).length;simp) (fun j _ n6 n7=>(QI _ _ _ _ (Ne.symm n7)).trans (QI _ _ _ _ (Ne.symm n6))) (gs (by decide) (gss k61)) (by simp) (fun j hj=>List.getElem?_set_ne (Ne.symm hj)) (by rw [gZ hv2];exact List.getElem?_set_self hil) (by rw [List.map_append];exact gss k72)
        exact ⟨w3,L,Q++[(n,L i,v2)],QeY A.hv k6 hvi rfl (Qy (env:=E5) ((Qj u1).trans ((Qj u2).trans ((Qj u3).trans ((Qj u4).trans (ret w3)))))),b1,b2,fin _ hQ⟩
end
def Vf (v:TR.Wk):DV:=if v.deed.far=true then .lst (prD v.pairs) else opt v.worth
def Jw (Q:Dn):List DV:=Q.map fun x=>.tup [.int x.1,Vf x.2.2]
def X2 (kvs:List (Key×DV)) (n:Nat):List DV:=match Zq kvs (.inl (n:Int)) with
 | some (.lst l)=>l
 | _=>[]
def JB (kvs:List (Key×DV)):TR.Out->List (Key×DV)
 | .did n (.found _ x)=>J2 kvs (.inl (n:Int)) (opt x)
 | .did n (.put _ x _)=>J2 kvs (.inl (n:Int)) (opt x)
 | .did n (.cut _ x)=>J2 kvs (.inl (n:Int)) (opt x)
 | .did n (.read _ ps _)=>J2 kvs (.inl (n:Int)) (.lst (X2 kvs n++prD ps))
 | _=>kvs
def xg:TR.Out->Bool
 | .did _ (.found _ _)=>true
 | .did _ (.cut _ _)=>true
 | .did _ (.raised _ _)=>true
 | .did _ (.put _ _ k)=>k.isNone
 | .did _ (.told _ k)=>k.isNone
 | .did _ (.read _ _ t)=>t.isNone
 | _=>false
def wkP (kvs:List (Key×DV)) (n:Nat) (v:TR.Wk):Prop:=TR.Up v/\(v.deed.far=true->Zq kvs (.inl (n:Int))=some (.lst (prD v.pairs))∨(Zq kvs (.inl (n:Int))=none/\v.pairs=[]))/\(0 < v.goal->Zq kvs (.inl (n:Int))=some (opt v.worth))
theorem QaM {S S':TR.Sh} {v v2:TR.Wk} {r:TR.Row} {kvs:List (Key×DV)} {n:Nat} (P:wkP kvs n v) (he:v.ended=false) (h:TR.Jh S v=some (r,S',v2)):xg (.did n r)=v2.ended/\(v2.ended=false->wkP (JB kvs (.did n r)) n v2)/\(v2.ended=true->Zq (JB kvs (.did n r)) (.inl (n:Int))=some (Vf v2))/\∀ m:Nat,m≠n->Zq (JB kvs (.did n r)) (.inl (m:Int))=Zq kvs (.inl (m:Int)):=by
  obtain ⟨t,d⟩:=TR.jD he h
  have U:=P.1.step he h
  have pf:X2 kvs n++[]=X2 kvs n:=List.append_nil _
  have so:v.deed.far=true->X2 kvs n=prD v.pairs:=fun hf=>by
    unfold X2
    rcases P.2.1 hf with q | ⟨q,e⟩
    . rw [q]
    . rw [q,e];rfl
  have nf:∀ {x:Bool},x=false->¬ x=true:=fun hx=>by rw [hx];simp
  have pm:∀ (D:DV) (m:Nat),m≠n->Zq (J2 kvs (.inl (n:Int)) D) (.inl (m:Int))=Zq kvs (.inl (m:Int)):=fun D m hm=>by
    rw [v0,if_neg (fun e=>hm (by have:=Sum.inl.inj e;omega))]
  have ps:∀ D:DV,Zq (J2 kvs (.inl (n:Int)) D) (.inl (n:Int))=some D:=fun D=>by rw [v0,if_pos rfl]
  cases r with
  | non=>exact t.elim
  | side a b =>
    obtain ⟨t1,t2,t3,t4⟩:=t
    exact ⟨t1.symm,fun _=>⟨U,fun hf=>by rw [t3];exact P.2.1 (by rw [<- d];exact hf),fun g=>by rw [t2];exact P.2.2 (by rw [<- t4];exact g)⟩,fun e=>(by rw [t1] at e;cases e),fun _ _=>rfl⟩
  | down a b =>
    obtain ⟨t1,t2,t3,t4⟩:=t
    exact ⟨t1.symm,fun _=>⟨U,fun hf=>by rw [t3];exact P.2.1 (by rw [<- d];exact hf),fun g=>by rw [t2];exact P.2.2 (by rw [<- t4];exact g)⟩,fun e=>(by rw [t1] at e;cases e),fun _ _=>rfl⟩
  | found a x =>
    obtain ⟨t0,t1,t2,t3⟩:=t
    exact ⟨t1.symm,fun e=>(by rw [t1] at e;cases e),fun _=>by show Zq (J2 kvs _ _) _=_;rw [ps];unfold Vf;rw [d,if_neg (nf t3),t2],fun m hm=>pm _ m hm⟩
  | cut a x =>
    obtain ⟨t0,t1,t2,t3⟩:=t
    exact ⟨t1.symm,fun e=>(by rw [t1] at e;cases e),fun _=>by show Zq (J2 kvs _ _) _=_;rw [ps];unfold Vf;rw [d,if_neg (nf t3),t2],fun m hm=>pm _ m hm⟩
  | put a x k =>
    obtain ⟨t0,t1,t2,t3,t4⟩:=t
    refine ⟨t1.symm,fun e=>⟨U,fun hf=>?_,fun g=>?_⟩,fun _=>?_,fun m hm=>pm _ m hm⟩
    . rw [d,t3] at hf;cases hf
    . show Zq (J2 kvs _ _) _=_;rw [ps,t2]
    . show Zq (J2 kvs _ _) _=_;rw [ps];unfold Vf;rw [d,if_neg (nf t3),t2]
  | read a qs y =>
    obtain ⟨t0,t1,t2,t3,t4⟩:=t
    have e:X2 kvs n++prD qs=prD v2.pairs:=by rw [so t3,t2];unfold prD;rw [List.map_append]
    refine ⟨t1.symm,fun _=>⟨U,fun _=>.inl ?_,fun g=>?_⟩,fun _=>?_,fun m hm=>pm _ m hm⟩
    . show Zq (J2 kvs _ _) _=_;rw [ps,e]
    . rw [t4,t0] at g;exact absurd g (Nat.lt_irrefl 0)
    . show Zq (J2 kvs _ _) _=_;rw [ps,e];unfold Vf;rw [d,if_pos t3]
  | told a k =>
    obtain ⟨t0,t1,t2,t3⟩:=t
    have f:=P.1 t0
    refine ⟨t1.symm,fun _=>⟨U,fun hf=>?_,fun g=>?_⟩,fun _=>?_,fun _ _=>rfl⟩
    . rw [d,f] at hf;cases hf
    . show Zq kvs _=_;rw [P.2.2 t0,t2]
    . show Zq kvs _=_;rw [P.2.2 t0];unfold Vf;rw [d,if_neg (nf f),t2]
  | raised a b =>
    obtain ⟨t0,t1,t2⟩:=t
    have f:=P.1 t0
    refine ⟨t1.symm,fun e=>(by rw [t1] at e;cases e),fun _=>?_,fun _ _=>rfl⟩
    show Zq kvs _=_;rw [P.2.2 t0];unfold Vf;rw [d,if_neg (nf f),t2]
structure Nt (ds:List TR.Deed) (s:TR.St) (Q:Dn) (kvs:List (Key×DV)):Prop where
 lv:∀ (i:Nat) (v:TR.Wk),s.ws[i]?=some v->v.ended=false->wkP kvs (s.ns.getD i 0) v/\s.ns.getD i 0 < s.tk
 un:∀ (i j:Nat) (v u:TR.Wk),i≠j->s.ws[i]?=some v->v.ended=false->s.ws[j]?=some u->u.ended=false->s.ns.getD i 0≠s.ns.getD j 0
 qd:(Q.map (·.1)).Nodup
 qt:∀ x∈Q,x.1 < s.tk/\∀ (i:Nat) (v:TR.Wk),s.ws[i]?=some v->v.ended=false->x.1≠s.ns.getD i 0
 cn:Q.length+TR.lc s.ws=s.tk
 nw:∀ n:Nat,s.tk<=n->Zq kvs (.inl (n:Int))=none
section
variable {ds:List TR.Deed} {s s':TR.St} {Q:Dn} {kvs:List (Key×DV)} {o:TR.Out}
theorem Nt.move (N:Nt ds s Q kvs) (hl:s.ns.length=s.ws.length) {i:Nat} (hi:i < s.ws.length) (hm:TR.mv ds s i=some (o,s')) {Q':Dn} {a:Nat} (hQ:∀ v,s.ws[i]?=some v->(v.ended=true->Q'=Q)/\(v.ended=false->∀ v2,s'.ws[i]?=some v2->Q'=if v2.ended=true then Q++[(s.ns.getD i 0,a,v2)] else Q)):Nt ds s' Q' (JB kvs o)/\Jw Q'=Jw Q++(if xg o=true then [.tup [.int (s.ns.getD i 0:Nat),(Zq (JB kvs o) (.inl (s.ns.getD i 0:Nat))).getD .non]] else [])/\(xg o=true->∃ d,Zq (JB kvs o) (.inl (s.ns.getD i 0:Nat))=some d):=by
  have hw:=List.getElem?_eq_getElem hi
  generalize s.ws[i]=v at hw
  obtain ⟨q1,q2⟩:=hQ v hw
  unfold TR.mv at hm
  rw [hw] at hm
  dsimp only at hm
  cases he:v.ended with
  | true =>
    rw [he,if_pos rfl] at hm
    have e:=q1 he
    subst e
    cases hd:ds[s.tk]? with
    | none =>
      rw [hd] at hm;cases hm
      exact ⟨N,by show _=Jw Q'++[];rw [List.append_nil],fun h=>by cases h⟩
    | some d =>
      rw [hd] at hm;cases hm
      have lcs:=Go (v':=TR.fresh d) hw
      rw [if_neg (by rw [he];simp),if_pos (show (TR.fresh d).ended=false from rfl)] at lcs
      have g1:(s.ns.set i s.tk).getD i 0=s.tk:=by rw [List.getD_eq_getElem?_getD,List.getElem?_set_self (by omega)];rfl
      have g2:∀ j,j≠i->(s.ns.set i s.tk).getD j 0=s.ns.getD j 0:=fun j hj=>by rw [List.getD_eq_getElem?_getD,List.getElem?_set_ne (Ne.symm hj),<- List.getD_eq_getElem?_getD]
      refine ⟨⟨fun j u hj hu=>?_,fun j j' u u' hne hj hu hj' hu'=>?_,N.qd,fun x hx=>⟨Nat.lt_succ_of_lt (N.qt x hx).1,fun j u hj hu=>?_⟩,?_,fun n hn=>N.nw n (by have hn':s.tk+1<=n:=hn;omega)⟩,by show _=Jw Q'++[];rw [List.append_nil],fun h=>by cases h⟩
      . rcases TR.QL hj with ⟨rfl,e2,_⟩ | ⟨ne,hj⟩
        . show wkP kvs ((s.ns.set j s.tk).getD j 0) u/\(s.ns.set j s.tk).getD j 0 < s.tk+1
          rw [g1,e2]
          exact ⟨⟨TR.Up.fresh d,fun _=>.inr ⟨N.nw s.tk (Nat.le_refl _),rfl⟩,fun g=>absurd g (Nat.lt_irrefl 0)⟩,Nat.lt_succ_self _⟩
        . show wkP kvs ((s.ns.set i s.tk).getD j 0) u/\(s.ns.set i s.tk).getD j 0 < s.tk+1
          rw [g2 j ne]
          obtain ⟨a1,a2⟩:=N.lv j u hj hu
          exact ⟨a1,by omega⟩
      . show (s.ns.set i s.tk).getD j 0≠(s.ns.set i s.tk).getD j' 0
        rcases TR.QL hj with ⟨rfl,e2,_⟩ | ⟨ne,hj2⟩
        . rcases TR.QL hj' with ⟨rfl,e3,_⟩ | ⟨ne',hj3⟩
          . exact absurd rfl hne
          . rw [g1,g2 j' ne']
            have:=(N.lv j' u' hj3 hu').2
            omega
        . rcases TR.QL hj' with ⟨rfl,e3,_⟩ | ⟨ne',hj3⟩
          . rw [g1,g2 j ne]
            have:=(N.lv j u hj2 hu).2
            omega
          . rw [g2 j ne,g2 j' ne'];exact N.un j j' u u' hne hj2 hu hj3 hu'
      . show x.1≠(s.ns.set i s.tk).getD j 0
        rcases TR.QL hj with ⟨rfl,e2,_⟩ | ⟨ne,hj⟩
        . rw [g1];have:=(N.qt x hx).1;omega
        . rw [g2 j ne];exact (N.qt x hx).2 j u hj hu
      . show Q'.length+TR.lc (s.ws.set i (TR.fresh d))=s.tk+1
        have:=N.cn;omega
  | false =>
    rw [he,if_neg (by simp)] at hm
    cases es:TR.Jh s.S v with
    | none=>rw [es] at hm;cases hm
    | some q =>
      obtain ⟨r,S2,v2⟩:=q
      rw [es] at hm;cases hm
      obtain ⟨P,nt⟩:=N.lv i v hw he
      obtain ⟨b1,b2,b3,b4⟩:=QaM P he es
      have lcs:=Go (v':=v2) hw
      rw [if_pos he] at lcs
      have e:=q2 he v2 (List.getElem?_set_self hi)
      have cn:=N.cn
      have lvs:∀ (j:Nat) (u:TR.Wk),(s.ws.set i v2)[j]?=some u->u.ended=false->(j=i/\u=v2)∨(j≠i/\s.ws[j]?=some u):=fun j u hj hu=>by
        rcases TR.QL hj with ⟨rfl,e2,_⟩ | ⟨ne,hj⟩
        . exact .inl ⟨rfl,e2⟩
        . exact .inr ⟨ne,hj⟩
      have lv0:∀ (j:Nat) (u:TR.Wk),(s.ws.set i v2)[j]?=some u->u.ended=false->∃ u0,s.ws[j]?=some u0/\u0.ended=false:=fun j u hj hu=>by
        rcases lvs j u hj hu with ⟨rfl,_⟩ | ⟨_,h⟩
        . exact ⟨v,hw,he⟩
        . exact ⟨u,h,hu⟩
      have others:∀ (j:Nat) (u:TR.Wk),(s.ws.set i v2)[j]?=some u->u.ended=false->wkP (JB kvs (.did (s.ns.getD i 0) r)) (s.ns.getD j 0) u/\s.ns.getD j 0 < s.tk:=fun j u hj hu=>by
        rcases lvs j u hj hu with ⟨rfl,rfl⟩ | ⟨ne,h⟩
        . exact ⟨b2 hu,nt⟩
        . obtain ⟨p1,p2⟩:=N.lv j u h hu
          have nn:=N.un j i u v ne h hu hw he
          refine ⟨⟨p1.1,?_,?_⟩,p2⟩
          . rw [b4 _ nn];exact p1.2.1
          . rw [b4 _ nn];exact p1.2.2
      have unl:∀ (j j':Nat) (u u':TR.Wk),j≠j'->(s.ws.set i v2)[j]?=some u->u.ended=false->(s.ws.set i v2)[j']?=some u'->u'.ended=false->s.ns.getD j 0≠s.ns.getD j' 0:=fun j j' u u' hne hj hu hj' hu'=>by
        obtain ⟨u0,a1,a2⟩:=lv0 j u hj hu
        obtain ⟨u1,a3,a4⟩:=lv0 j' u' hj' hu'
        exact N.un j j' u0 u1 hne a1 a2 a3 a4
      have nws:∀ n:Nat,s.tk<=n->Zq (JB kvs (.did (s.ns.getD i 0) r)) (.inl (n:Int))=none:=fun n hn=>by
        rw [b4 n (by omega)];exact N.nw n hn
      cases h2:v2.ended with
      | false =>
        rw [h2,if_neg (by simp)] at e
        rw [if_pos h2] at lcs
        subst e
        rw [h2] at b1
        refine ⟨⟨others,unl,N.qd,fun x hx=>⟨(N.qt x hx).1,fun j u hj hu=>?_⟩,by show Q'.length+TR.lc (s.ws.set i v2)=s.tk;omega,nws⟩,by rw [b1];simp,fun h=>by rw [b1] at h;cases h⟩
        obtain ⟨u0,a1,a2⟩:=lv0 j u hj hu
        exact (N.qt x hx).2 j u0 a1 a2
      | true =>
        rw [h2,if_pos rfl] at e
        rw [if_neg (by rw [h2];simp)] at lcs
        subst e
        rw [h2] at b1
        have b3':=b3 h2
        refine ⟨⟨others,unl,?_,fun x hx=>?_,by show (Q++[_]).length+TR.lc (s.ws.set i v2)=s.tk;simp;omega,nws⟩,?_,fun _=>⟨_,b3'⟩⟩
        . rw [List.map_append,List.nodup_append]
          refine ⟨N.qd,by simp,fun x hx y hy e=>?_⟩
          simp at hy
          subst hy;subst e
          obtain ⟨z,hz,hz2⟩:=List.mem_map.mp hx
          exact (N.qt z hz).2 i v hw he hz2
        . rcases List.mem_append.mp hx with hx | hx
          . refine ⟨(N.qt x hx).1,fun j u hj hu=>?_⟩
            obtain ⟨u0,a1,a2⟩:=lv0 j u hj hu
            exact (N.qt x hx).2 j u0 a1 a2
          . rw [List.mem_singleton] at hx
            subst hx
            refine ⟨nt,fun j u hj hu=>?_⟩
            rcases lvs j u hj hu with ⟨rfl,rfl⟩ | ⟨ne,h⟩
            . rw [h2] at hu;cases hu
            . exact N.un i j v u (Ne.symm ne) hw he h hu
        . rw [b1,if_pos rfl,b3']
          unfold Jw
          rw [List.map_append];rfl
end
def nOf:TR.Out->Nat
 | .did n _=>n
 | _=>0
def kB (w:Hs) (kvs:List (Key×DV)) (due:List DV) (o:TR.Out):Hs:=(w.set 7 (.dic (JB kvs o))).set 8 (.lst (due++(if xg o=true then [.tup [.int (nOf o:Nat),(Zq (JB kvs o) (.inl (nOf o:Nat))).getD .non]] else [])))
section
variable {w:Hs} {kvs:List (Key×DV)} {due:List DV} {i n:Nat}
theorem zS (h7:w[7]?=some (.dic kvs)) (h8:w[8]?=some (.lst due)) {o:TR.Out} (hk:JB kvs o=kvs) (he:xg o=false):kB w kvs due o=w:=by
 unfold kB
 rw [hk,he,if_neg (by simp),List.append_nil,YK h7,YK h8]
theorem qI (h7:w[7]?=some (.dic kvs)) (h8:w[8]?=some (.lst due)) {x:Str} {xs:List DV} (hx:inG (.str x) (.tup [.str "take", .str "rest", .str "side", .str "down"]) w=some (.bl true,w)):Z4 [.tup (.str x::xs),.ref 6,.ref 7,.ref 8] w=some (.non,w):=by
 let E:En:=[.val (.tup (.str x::xs)),.val (.ref 6),.val (.ref 7),.val (.ref 8),.un,.un]
 have r0:Qk ixG (Qb 0) (eC (.int 0)) E w=some (.str x,w):=Ql (x:=.tup (.str x::xs)) (Qe rfl) rfl (ZZ (i:=0) rfl w)
 exact Qy (env:=E) (Zi ((Zl (QR (Ql r0 rfl hx))).trans rfl))
theorem uX (w:Hs):∀ x∈(["take", "rest", "side", "down"]:List Str),inG (.str x) (.tup [.str "take", .str "rest", .str "side", .str "down"]) w=some (.bl true,w):=by
 intro x hx
 simp only [List.mem_cons,List.not_mem_nil,or_false] at hx
 rcases hx with rfl | rfl | rfl | rfl<;>rfl
end
section
variable {w:Hs} {kvs:List (Key×DV)} {due:List DV} {i n:Nat}
theorem zA {e g:DEx} {env:En} {d:DV} (he:e env w=some (d,w)) (hv:env[2]?=some (.val (.ref 7))) (hg:g env w=some (.int (n:Nat),w)) (h7:w[7]?=some (.dic kvs)) (hl:kvs.length < 1000):XM e (gSb (Qb 2) g) env w=some ((.nx,env),w.set 7 (.dic (J2 kvs (.inl (n:Int)) d))):=by
 refine Gz he ?_
 unfold gSb
 rw [Qg (Qe hv),Qg hg,Qg (vH (d:=d) h7 (show zh (.int (n:Int))=some (.inl (n:Int)) from rfl) (by omega))];rfl
theorem Qh2 {g:DEx} {env:En} (hv:env[2]?=some (.val (.ref 7))) (hg:g env w=some (.int (n:Nat),w)) (h7:w[7]?=some (.dic kvs)):Jf "dict" XJ (Qb 2) (Qc g (Qc (Yw Qn) Qn)) env w=some ((Zq kvs (.inl (n:Int))).getD (.lst []),w):=by
 unfold Jf
 rw [Qg (Qe hv)]
 have e:XI "dict" (.ref 7) w=some ((),w):=by
  show (ZG 7 >>= _) w=_
  rw [Qg (Zn h7)];rfl
 rw [Qg e,Qg (ZH hg (rfl:Yw Qn env w=some (.lst [],w)))]
 show (ZG 7 >>= _) w=_
 rw [Qg (Zn h7)]
 show (XH (.int (n:Int)) >>= _) w=_
 rw [show XH (.int (n:Int))=pure (.inl (n:Int)) from rfl,pure_bind]
 cases Zq kvs (.inl (n:Int))<;>rfl
theorem J8 {x:Str} {xs l ps:List DV} {b2 br b5 b6:Bool} {d4 dl d6 dv:DV} (h7:w[7]?=some (.dic kvs)) (h8:w[8]?=some (.lst due)) (hk:kvs.length < 900) (hd:due.length < 900)
    (x1:∀ w,inG (.str x) (.tup [.str "take", .str "rest", .str "side", .str "down"]) w=some (.bl false,w))
    (x2:∀ w,inG (.str x) (.tup [.str "found", .str "put", .str "cut"]) w=some (.bl b2,w))
    (xr:∀ w,eqG (.str x) (.str "read") w=some (.bl br,w))
    (x5:∀ w,inG (.str x) (.tup [.str "found", .str "cut", .str "raised"]) w=some (.bl b5,w))
    (x6:∀ w,inG (.str x) (.tup [.str "put", .str "told"]) w=some (.bl b6,w))
    (hn:xs[1]?=some (.int (n:Nat))) (hx2:br=true->b2=false)
    (h4:b2=true->xs[3]?=some d4) (hl:b6=true->atI (.str x::xs) (-1)=some dl)
    (hr:br=true->xs[3]?=some (.tup ps)/\(Zq kvs (.inl (n:Int))).getD (.lst [])=.lst l/\xs[5]?=some d6/\l.length+ps.length < 90000)
    (hv:(if br=true then isN d6 else if b6=true then isN dl else b5)=true->Zq (if br=true then J2 kvs (.inl (n:Int)) (.lst (l++ps)) else if b2=true then J2 kvs (.inl (n:Int)) d4 else kvs) (.inl (n:Int))=some dv) :
    Z4 [.tup (.str x::xs),.ref 6,.ref 7,.ref 8] w=some (.non,(w.set 7 (.dic (if br=true then J2 kvs (.inl (n:Int)) (.lst (l++ps)) else if b2=true then J2 kvs (.inl (n:Int)) d4 else kvs))).set 8 (.lst (due++(if (if br=true then isN d6 else if b6=true then isN dl else b5)=true then [.tup [.int (n:Nat),dv]] else [])))):=by
  let R:DV:=.tup (.str x::xs)
  let E:Sl->Sl->En:=fun z4 z5=>[.val R,.val (.ref 6),.val (.ref 7),.val (.ref 8),z4,z5]
  let N:Sl:=.val (.int (n:Nat))
  have r0:∀ (z4 z5:Sl) (w:Hs),Qk ixG (Qb 0) (eC (.int 0)) (E z4 z5) w=some (.str x,w):=fun z4 z5 w=>Ql (x:=R) (Qe rfl) rfl (ZZ (i:=0) rfl w)
  have ri:∀ (j:Nat) (d:DV) (z4 z5:Sl) (w:Hs),xs[j]?=some d->Qk ixG (Qb 0) (eC (.int ((j+1:Nat):Int))) (E z4 z5) w=some (d,w):=fun j d z4 z5 w h=>Ql (x:=R) (Qe rfl) rfl (ZZ (i:=j+1) h w)
  have s1:sIf (eB (Qk inG (Qk ixG (Qb 0) (eC (.int 0))) (Zg (Qc (eC (.str "take")) (Qc (eC (.str "rest")) (Qc (eC (.str "side")) (Qc (eC (.str "down")) (Qn)))))))) (YF) (Zf) (E .un .un) w=some ((.nx,E .un .un),w):=(QF (QR (Ql (r0 _ _ _) rfl (x1 w)))).trans nil_at
  have s2:QM 4 (Qk ixG (Qb 0) (eC (.int 2))) (E .un .un) w=some ((.nx,E N .un),w):=Q0 (ri 1 _ _ _ _ hn)
  let kv1:List (Key×DV):=if b2=true then J2 kvs (.inl (n:Int)) d4 else kvs
  have s3:sIf (eB (Qk inG (Qk ixG (Qb 0) (eC (.int 0))) (Zg (Qc (eC (.str "found")) (Qc (eC (.str "put")) (Qc (eC (.str "cut")) (Qn))))))) (XM (Qk ixG (Qb 0) (eC (.int 4))) (gSb (Qb 2) (Qb 4))) (Zf) (E N .un) w=some ((.nx,E N .un),w.set 7 (.dic kv1)):=by
    have t:eB (Qk inG (Qk ixG (Qb 0) (eC (.int 0))) (Zg (Qc (eC (.str "found")) (Qc (eC (.str "put")) (Qc (eC (.str "cut")) (Qn)))))) (E N .un) w=some (b2,w):=QR (Ql (r0 _ _ _) rfl (x2 w))
    cases hb:b2 with
    | true =>
      rw [hb] at t
      refine (Zl t).trans ((zA (ri 3 _ _ _ _ (h4 hb)) rfl (Qe rfl) h7 (by omega)).trans ?_)
      show _=some ((Fl.nx,E N .un),w.set 7 (.dic (if b2=true then _ else _)));rw [hb];rfl
    | false =>
      rw [hb] at t
      refine (QF t).trans (nil_at.trans ?_)
      show _=some ((Fl.nx,E N .un),w.set 7 (.dic (if b2=true then _ else _)));rw [hb,if_neg (by simp),YK h7]
  let w1:Hs:=w.set 7 (.dic kv1)
  have h71:w1[7]?=some (.dic kv1):=gss h7
  have h81:w1[8]?=some (.lst due):=gs (by decide) h8
  let kv2:List (Key×DV):=if br=true then J2 kvs (.inl (n:Int)) (.lst (l++ps)) else kv1
  have s4:sIf (eB (Qk eqG (Qk ixG (Qb 0) (eC (.int 0))) (eC (.str "read")))) (XM (Qk Z5 (Jf "dict" XJ (Qb 2) (Qc (Qb 4) (Qc (Yw (Qn)) (Qn)))) (ZB QfG (Qc (Qk ixG (Qb 0) (eC (.int 4))) (Qn)))) (gSb (Qb 2) (Qb 4))) (Zf) (E N .un) w1=some ((.nx,E N .un),w1.set 7 (.dic kv2)):=by
    have t:eB (Qk eqG (Qk ixG (Qb 0) (eC (.int 0))) (eC (.str "read"))) (E N .un) w1=some (br,w1):=QR (Ql (r0 _ _ _) rfl (xr w1))
    cases hb:br with
    | true =>
      rw [hb] at t
      obtain ⟨a1,a2,a3,a4⟩:=hr hb
      have e1:kv1=kvs:=by show (if b2=true then _ else _)=_;rw [hx2 hb];rfl
      rw [e1] at h71
      have g:=Qh2 (n:=n) (env:=E N .un) (g:=Qb 4) rfl (Qe rfl) h71
      rw [a2] at g
      refine (Zl t).trans ((zA (d:=.lst (l++ps)) (Ql g (XS (ZI (ri 3 _ _ _ _ a1)) rfl) ?_) rfl (Qe rfl) h71 (by omega)).trans ?_)
      . show (Qv (qX (l++ps)) >>= fun _=>pure (DV.lst (l++ps))) w1=_
        rw [Yh (by rw [List.length_append];omega)];rfl
      . show _=some ((Fl.nx,E N .un),w1.set 7 (.dic (if br=true then _ else _)));rw [hb];rfl
    | false =>
      rw [hb] at t
      refine (QF t).trans (nil_at.trans ?_)
      show _=some ((Fl.nx,E N .un),w1.set 7 (.dic (if br=true then _ else _)));rw [hb,if_neg (by simp),YK h71]
  let w2:Hs:=w1.set 7 (.dic kv2)
  have h72:w2[7]?=some (.dic kv2):=gss h71
  have h82:w2[8]?=some (.lst due):=gs (by decide) h81
  have s5:QM 5 (Qk inG (Qk ixG (Qb 0) (eC (.int 0))) (Zg (Qc (eC (.str "found")) (Qc (eC (.str "cut")) (Qc (eC (.str "raised")) (Qn)))))) (E N .un) w2=some ((.nx,E N (.val (.bl b5))),w2):=Q0 (Ql (r0 _ _ _) rfl (x5 w2))
  let e6:Bool:=if b6=true then isN dl else b5
  have s6:sIf (eB (Qk inG (Qk ixG (Qb 0) (eC (.int 0))) (Zg (Qc (eC (.str "put")) (Qc (eC (.str "told")) (Qn)))))) (QM 5 (Qk isD (Qk ixG (Qb 0) (X6 (eC (.int 1)))) (eC .non))) (Zf) (E N (.val (.bl b5))) w2=some ((.nx,E N (.val (.bl e6))),w2):=by
    have t:eB (Qk inG (Qk ixG (Qb 0) (eC (.int 0))) (Zg (Qc (eC (.str "put")) (Qc (eC (.str "told")) (Qn))))) (E N (.val (.bl b5))) w2=some (b6,w2):=QR (Ql (r0 _ _ _) rfl (x6 w2))
    cases hb:b6 with
    | true =>
      rw [hb] at t
      have q:ixG R (.int (-1)) w2=some (dl,w2):=by
        show (ixD (.tup (.str x::xs)) (.int (-1))) w2=_
        simp only [ixD,asI,pure_bind,hl hb];rfl
      refine (Zl t).trans ((Q0 (d:=.bl (isN dl)) (Ql (Ql (x:=R) (Qe rfl) rfl q) rfl rfl)).trans ?_)
      show some ((Fl.nx,E N (.val (.bl (isN dl)))),w2)=some ((Fl.nx,E N (.val (.bl (if b6=true then _ else _)))),w2);rw [hb];rfl
    | false =>
      rw [hb] at t
      refine (QF t).trans (nil_at.trans ?_)
      show some ((Fl.nx,E N (.val (.bl b5))),w2)=some ((Fl.nx,E N (.val (.bl (if b6=true then _ else _)))),w2);rw [hb];rfl
  let e7:Bool:=if br=true then isN d6 else e6
  have s7:sIf (eB (Qk eqG (Qk ixG (Qb 0) (eC (.int 0))) (eC (.str "read")))) (QM 5 (Qk isD (Qk ixG (Qb 0) (eC (.int 6))) (eC .non))) (Zf) (E N (.val (.bl e6))) w2=some ((.nx,E N (.val (.bl e7))),w2):=by
    have t:eB (Qk eqG (Qk ixG (Qb 0) (eC (.int 0))) (eC (.str "read"))) (E N (.val (.bl e6))) w2=some (br,w2):=QR (Ql (r0 _ _ _) rfl (xr w2))
    cases hb:br with
    | true =>
      rw [hb] at t
      obtain ⟨a1,a2,a3,a4⟩:=hr hb
      refine (Zl t).trans ((Q0 (d:=.bl (isN d6)) (Ql (ri 5 _ _ _ _ a3) rfl rfl)).trans ?_)
      show some ((Fl.nx,E N (.val (.bl (isN d6)))),w2)=some ((Fl.nx,E N (.val (.bl (if br=true then _ else _)))),w2);rw [hb];rfl
    | false =>
      rw [hb] at t
      refine (QF t).trans (nil_at.trans ?_)
      show some ((Fl.nx,E N (.val (.bl e6))),w2)=some ((Fl.nx,E N (.val (.bl (if br=true then _ else _)))),w2);rw [hb];rfl
  have s8:sIf (eB (Qb 5)) (Zu (Jf "list" Zh (Qb 3) (Qc (Zg (Qc (Qb 4) (Qc (Qk ixG (Qb 2) (Qb 4)) (Qn)))) (Qn)))) (Zf) (E N (.val (.bl e7))) w2=some ((.nx,E N (.val (.bl e7))),w2.set 8 (.lst (due++(if e7=true then [.tup [.int (n:Nat),dv]] else [])))):=by
    have t:eB (Qb 5) (E N (.val (.bl e7))) w2=some (e7,w2):=QR (Qe rfl)
    cases hb:e7 with
    | true =>
      have v:Zq kv2 (.inl (n:Int))=some dv:=hv hb
      rw [hb] at t
      rw [if_pos rfl]
      refine (Zl t).trans (ZX (Yg (Qe rfl) h82 (ZY (ZH (Qe rfl) (Ql (Qe rfl) (Qe rfl) ?_)) (by simp)) (by omega)))
      show (ZG 7 >>= _) w2=_
      rw [Qg (Zn h72)]
      show (XH (.int (n:Int)) >>= _) w2=_
      rw [show XH (.int (n:Int))=pure (.inl (n:Int)) from rfl,pure_bind]
      show (zx (Zq kv2 (.inl (n:Int)))) w2=_
      rw [v];rfl
    | false =>
      rw [hb] at t
      rw [if_neg (by simp),List.append_nil,YK h82]
      exact (QF t).trans nil_at
  have fin:=Gy (ds:=[R,.ref 6,.ref 7,.ref 8]) (n:=6) (env:=E N (.val (.bl e7))) ((Qj s1).trans ((Qj s2).trans ((Qj s3).trans ((Qj s4).trans ((Qj s5).trans ((Qj s6).trans ((Qj s7).trans s8)))))))
  have ww:w2=w.set 7 (.dic kv2):=by show (w.set 7 _).set 7 _=_;rw [List.set_set]
  rw [ww] at fin
  exact fin
end
section
variable {w:Hs} {kvs:List (Key×DV)} {due:List DV}
theorem QhA:∀ x∈(["side", "down", "found", "put", "cut", "read", "told", "raised"]:List Str),PyData.strOk x=true:=by decide +kernel
theorem kD (k:Option Nat):isN (oN k)=k.isNone:=by cases k<;>rfl
theorem QdN (i:Nat) (o:TR.Out) (h7:w[7]?=some (.dic kvs)) (h8:w[8]?=some (.lst due)) (hk:kvs.length < 900) (hd:due.length < 900) (hne:∀ n,o≠.did n .non) (hv:xg o=true->∃ d,Zq (JB kvs o) (.inl (nOf o:Nat))=some d)
    (hr:∀ (n a:Nat) (ps:List (Int×Int)) (t:Option (Nat×Int)),o=.did n (.read a ps t)->(Zq kvs (.inl (n:Int))).getD (.lst [])=.lst (X2 kvs n)/\(X2 kvs n).length+ps.length < 90000) :
    Z4 [xj i o,.ref 6,.ref 7,.ref 8] w=some (.non,kB w kvs due o):=by
  have hv':xg o=true->Zq (JB kvs o) (.inl (nOf o:Nat))=some ((Zq (JB kvs o) (.inl (nOf o:Nat))).getD .non):=fun h=>by
    obtain ⟨d,e⟩:=hv h
    rw [e];rfl
  have rw_:=uX w
  have so:=QhA
  cases o with
  | rest=>rw [zS h7 h8 rfl rfl];exact qI h7 h8 (rw_ _ (by simp))
  | take n=>rw [zS h7 h8 rfl rfl];exact qI h7 h8 (rw_ _ (by simp))
  | did n r =>
    cases r with
    | non=>exact absurd rfl (hne n)
    | side a b=>rw [zS h7 h8 rfl rfl];exact qI h7 h8 (rw_ _ (by simp))
    | down a b=>rw [zS h7 h8 rfl rfl];exact qI h7 h8 (rw_ _ (by simp))
    | found a x=>exact J8 (n:=n) (x := "found") (xs:=[.int i,.int n,.int a,opt x]) (l:=[]) (ps:=[]) (b2:=true) (br:=false) (b5:=true) (b6:=false) (d4:=opt x) (dl:=.non) (d6:=.non) h7 h8 hk hd (fun _=>rfl) (fun _=>rfl) (fun w=>eqS w (so _ (by simp)) (so _ (by simp)) rfl) (fun _=>rfl) (fun _=>rfl) rfl (fun h=>by cases h) (fun _=>rfl) (fun h=>by cases h) (fun h=>by cases h) (fun _=>hv' rfl)
    | cut a x=>exact J8 (n:=n) (x := "cut") (xs:=[.int i,.int n,.int a,opt x]) (l:=[]) (ps:=[]) (b2:=true) (br:=false) (b5:=true) (b6:=false) (d4:=opt x) (dl:=.non) (d6:=.non) h7 h8 hk hd (fun _=>rfl) (fun _=>rfl) (fun w=>eqS w (so _ (by simp)) (so _ (by simp)) rfl) (fun _=>rfl) (fun _=>rfl) rfl (fun h=>by cases h) (fun _=>rfl) (fun h=>by cases h) (fun h=>by cases h) (fun _=>hv' rfl)
    | raised a b=>exact J8 (n:=n) (x := "raised") (xs:=[.int i,.int n,.int a,.int b]) (l:=[]) (ps:=[]) (b2:=false) (br:=false) (b5:=true) (b6:=false) (d4:=.non) (dl:=.non) (d6:=.non) h7 h8 hk hd (fun _=>rfl) (fun _=>rfl) (fun w=>eqS w (so _ (by simp)) (so _ (by simp)) rfl) (fun _=>rfl) (fun _=>rfl) rfl (fun h=>by cases h) (fun h=>by cases h) (fun h=>by cases h) (fun h=>by cases h) (fun _=>hv' rfl)
    | put a x k =>
      have e:=J8 (n:=n) (x := "put") (xs:=[.int i,.int n,.int a,opt x,oN k]) (l:=[]) (ps:=[]) (b2:=true) (br:=false) (b5:=false) (b6:=true) (d4:=opt x) (dl:=oN k) (d6:=.non) h7 h8 hk hd (fun _=>rfl) (fun _=>rfl) (fun w=>eqS w (so _ (by simp)) (so _ (by simp)) rfl) (fun _=>rfl) (fun _=>rfl) rfl (fun h=>by cases h) (fun _=>rfl) (fun _=>rfl) (fun h=>by cases h) (dv:=(Zq (J2 kvs (.inl (n:Int)) (opt x)) (.inl (n:Int))).getD .non) (fun h=>hv' (by show k.isNone=true;rw [<- kD];simpa using h))
      cases k<;>exact e
    | told a k =>
      have e:=J8 (n:=n) (x := "told") (xs:=[.int i,.int n,.int a,oN k]) (l:=[]) (ps:=[]) (b2:=false) (br:=false) (b5:=false) (b6:=true) (d4:=.non) (dl:=oN k) (d6:=.non) h7 h8 hk hd (fun _=>rfl) (fun _=>rfl) (fun w=>eqS w (so _ (by simp)) (so _ (by simp)) rfl) (fun _=>rfl) (fun _=>rfl) rfl (fun h=>by cases h) (fun h=>by cases h) (fun _=>rfl) (fun h=>by cases h) (dv:=(Zq kvs (.inl (n:Int))).getD .non) (fun h=>hv' (by show k.isNone=true;rw [<- kD];simpa using h))
      cases k<;>exact e
    | read a ps t =>
      obtain ⟨q1,q2⟩:=hr n a ps t rfl
      have ql:(X2 kvs n).length+(prD ps).length < 90000:=by rw [qJ];exact q2
      cases t with
      | none=>exact J8 (n:=n) (x := "read") (xs:=[.int i,.int n,.int a,.tup (prD ps),.non,.non]) (l:=X2 kvs n) (ps:=prD ps) (b2:=false) (br:=true) (b5:=false) (b6:=false) (d4:=.non) (dl:=.non) (d6:=.non) h7 h8 hk hd (fun _=>rfl) (fun _=>rfl) (fun w=>eqS w (so _ (by simp)) (so _ (by simp)) rfl) (fun _=>rfl) (fun _=>rfl) rfl (fun _=>rfl) (fun h=>by cases h) (fun h=>by cases h) (fun _=>⟨rfl,q1,rfl,ql⟩) (fun _=>hv' rfl)
      | some y =>
        obtain ⟨p,z⟩:=y
        exact J8 (n:=n) (x := "read") (xs:=[.int i,.int n,.int a,.tup (prD ps),.int p,.int z]) (l:=X2 kvs n) (ps:=prD ps) (b2:=false) (br:=true) (b5:=false) (b6:=false) (d4:=.non) (dl:=.non) (d6:=.int z) (dv:=.non) h7 h8 hk hd (fun _=>rfl) (fun _=>rfl) (fun w=>eqS w (so _ (by simp)) (so _ (by simp)) rfl) (fun _=>rfl) (fun _=>rfl) rfl (fun _=>rfl) (fun h=>by cases h) (fun h=>by cases h) (fun _=>⟨rfl,q1,rfl,ql⟩) (fun h=>by cases h)
end
def Ju:Dn->Hs->List DV×Hs
 | [],w=>([],w)
 | x::Q,w=>if x.2.2.deed.far=true then (.tup [.int x.1,.ref w.length]::(Ju Q (w++[.lst (prD x.2.2.pairs)])).1,(Ju Q (w++[.lst (prD x.2.2.pairs)])).2) else (.tup [.int x.1,opt x.2.2.worth]::(Ju Q w).1,(Ju Q w).2)
section
variable {w:Hs} {ds:List TR.Deed} {s:TR.St} {L:Nat->Nat} {Q:Dn}
theorem QbD (d:TR.Deed) (hp:Hs):eqG (.str (yq d)) (.str "stretch") hp=some (.bl d.far,hp):=by
 have so:∀ x∈(["find", "put", "cut", "stretch"]:List Str),PyData.strOk x=true:=by decide +kernel
 cases d with
 | find k=>exact eqS (x := "find") hp (so "find" (by simp)) (so "stretch" (by simp)) rfl
 | put k x=>exact eqS (x := "put") hp (so "put" (by simp)) (so "stretch" (by simp)) rfl
 | cut k=>exact eqS (x := "cut") hp (so "cut" (by simp)) (so "stretch" (by simp)) rfl
 | stretch l h=>exact eqS (x := "stretch") hp (so "stretch" (by simp)) (so "stretch" (by simp)) rfl
theorem Qbe {a:Nat} {v:TR.Wk} (h1:w[a]?=some (wkO 0 (a+1) (a+2) v)) (h2:w[a+2]?=some (.lst (prD v.pairs))) (he:v.ended=true):Jq [.ref a] w=some (if v.deed.far=true then (.ref w.length,w++[.lst (prD v.pairs)]) else (opt v.worth,w)):=by
  let E:En:=[.val (.ref a)]
  have t1:Xc (eB (Qw "Walk" "ended" (Qb 0))) E w=some (false,w):=X7 (b:=true) (QR (QA (Qe rfl) h1 ((zV ..).trans (by rw [he]))))
  have t2:eB (Qk eqG (Qk ixG (Qw "Walk" "deed" (Qb 0)) (eC (.int 0))) (eC (.str "stretch"))) E w=some (v.deed.far,w):=QR (Ql (Ql (QA (Qe rfl) h1 (zI ..)) rfl (U2 v.deed w)) rfl (QbD v.deed w))
  cases hf:v.deed.far with
  | true =>
    rw [hf] at t2
    rw [if_pos rfl]
    refine Qy (env:=E) ((Qj ((QF t1).trans nil_at)).trans (Zi ((Zl t2).trans (QB (XS (ZI (QA (Qe rfl) h1 (KD ..))) ?_)))))
    show (QcK (.ref (a+2)) >>= fun ds=>Xf (.lst ds)) w=_
    have:QcK (.ref (a+2)) w=some (prD v.pairs,w):=by
      show (ZG (a+2) >>= _) w=_
      rw [Qg (Zn h2)];rfl
    rw [Qg this];rfl
  | false =>
    rw [hf] at t2
    rw [if_neg (by simp)]
    exact Qy (env:=E) ((Qj ((QF t1).trans nil_at)).trans ((Qj ((QF t2).trans nil_at)).trans (QB (QA (Qe rfl) h1 (Yi ..)))))
theorem KM:∀ (Q:Dn) (w w0:Hs) (pre:List DV) (fuel:Nat) (env:En),w0.length<=w.length->(∀ x,x < w0.length->w[x]?=w0[x]?)->w0[5]?=some (.lst (pre++Q.map dnD))->(∀ x∈Q,w0[x.2.1]?=some (wkO 0 (x.2.1+1) (x.2.1+2) x.2.2)/\w0[x.2.1+2]?=some (.lst (prD x.2.2.pairs))/\x.2.2.ended=true)->Q.length < fuel ->
    Z9 (nxW 5) (fun d=>y0 (cE [] env d)) (fun d=>Zg (Qc (Qk ixG (Qb 0) (eC (.int 0))) (Qc (QD "Walk" "answer" 1 Jq (Qk ixG (Qb 0) (eC (.int 1))) Qn) (Qn))) (cE [] env d)) fuel pre.length w=some (Ju Q w)
  | [],w,w0,pre,fuel,env,hl,hw,h5,hQ,hf=>by
    obtain ⟨g,rfl⟩:∃ g,fuel=g+1:=⟨fuel - 1,by omega⟩
    have h5':w[5]?=some (.lst (pre++[])):=(hw 5 (List.getElem?_eq_some_iff.mp h5).1).trans h5
    have x:=YS h5' pre.length
    rw [List.getElem?_eq_none (by simp)] at x
    rw [Z9,Qg x];rfl
  | q::Q,w,w0,pre,fuel,env,hl,hw,h5,hQ,hf=>by
    obtain ⟨g,rfl⟩:∃ g,fuel=g+1:=⟨fuel - 1,by omega⟩
    have up:∀ {x:Nat} {z:OV},w0[x]?=some z->w[x]?=some z:=fun {x z} h=>(hw x (List.getElem?_eq_some_iff.mp h).1).trans h
    have x:=YS (up h5) pre.length
    rw [List.getElem?_append_right (Nat.le_refl _),Nat.sub_self] at x
    obtain ⟨a1,a2,a3⟩:=hQ q (List.mem_cons_self ..)
    have an:=Qbe (up a1) (up a2) a3
    have sub:∀ y∈Q,w0[y.2.1]?=some (wkO 0 (y.2.1+1) (y.2.1+2) y.2.2)/\w0[y.2.1+2]?=some (.lst (prD y.2.2.pairs))/\y.2.2.ended=true:=fun y hy=>hQ y (List.mem_cons_of_mem _ hy)
    have h5b:w0[5]?=some (.lst ((pre++[dnD q])++Q.map dnD)):=by rw [List.append_assoc];exact h5
    have e0:∀ w,Qk ixG (Qb 0) (eC (.int 0)) (cE [] env (dnD q)) w=some (.int q.1,w):=fun w=>Ql (x:=dnD q) (Qe rfl) rfl (ZZ (i:=0) rfl w)
    have e1:∀ w,Qk ixG (Qb 0) (eC (.int 1)) (cE [] env (dnD q)) w=some (.ref q.2.1,w):=fun w=>Ql (x:=dnD q) (Qe rfl) rfl (ZZ (i:=1) rfl w)
    rw [Z9,Qg x]
    simp only [List.map_cons,List.getElem?_cons_zero]
    rw [show (y0 (cE [] env (dnD q)))=pure true from rfl,pure_bind]
    simp only [if_true]
    have hf':Q.length < g:=by simp at hf;omega
    have pl:(pre++[dnD q]).length=pre.length+1:=by simp
    unfold Ju
    cases hfar:q.2.2.deed.far with
    | true =>
      rw [hfar,if_pos rfl] at an
      rw [if_pos rfl]
      have f:Zg (Qc (Qk ixG (Qb 0) (eC (.int 0))) (Qc (QD "Walk" "answer" 1 Jq (Qk ixG (Qb 0) (eC (.int 1))) Qn) (Qn))) (cE [] env (dnD q)) w=some (.tup [.int q.1,.ref w.length],w++[.lst (prD q.2.2.pairs)]):=ZY (ZH (e0 w) (Q6 (e1 w) (up a1) (kW ..) za rfl an)) (by simp)
      have ih:=KM Q (w++[.lst (prD q.2.2.pairs)]) w0 (pre++[dnD q]) g env (by simp;omega) (fun y hy=>by rw [List.getElem?_append_left (by omega)];exact hw y hy) h5b sub hf'
      rw [pl] at ih
      rw [Qg f,Qg ih];rfl
    | false =>
      rw [hfar,if_neg (by simp)] at an
      rw [if_neg (by simp)]
      have f:Zg (Qc (Qk ixG (Qb 0) (eC (.int 0))) (Qc (QD "Walk" "answer" 1 Jq (Qk ixG (Qb 0) (eC (.int 1))) Qn) (Qn))) (cE [] env (dnD q)) w=some (.tup [.int q.1,opt q.2.2.worth],w):=ZY (ZH (e0 w) (Q6 (e1 w) (up a1) (kW ..) za rfl an)) (by simp)
      have ih:=KM Q w w0 (pre++[dnD q]) g env hl hw h5b sub hf'
      rw [pl] at ih
      rw [Qg f,Qg ih];rfl
theorem Qae (A:WB w ds s L Q) (hq:Q.length < 1000):JP [.ref 2] w=some (.ref (Ju Q w).2.length,(Ju Q w).2++[.lst (Ju Q w).1]):=by
 let E:En:=[.val (.ref 2)]
 suffices h:J4 E w=some (.ref (Ju Q w).2.length,(Ju Q w).2++[.lst (Ju Q w).1]) from Qy (env:=E) (QB h)
 unfold J4 Je
 have c:=KM Q w w [] 100000 E (Nat.le_refl _) (fun _ _=>rfl) A.hn (fun x hx=>⟨(A.od x hx).1,(A.od x hx).2.1,(A.od x hx).2.2.1⟩) (by omega)
 rw [Qg (xI (QA (Qe rfl) A.hv (kX _)) A.hn),Qg (show Z9 _ _ _ lim 0 w=_ from c)];rfl
end
theorem Qdi {o e:DEx} {env:En} {hp hp1:Hs} {a:Nat} {cs ds:List DV} {d:DV} (ho:o env hp=some (.ref a,hp)) (h0:hp[a]?=some (.lst cs)) (he:e env hp=some (d,hp1)) (h:hp1[a]?=some (.lst ds)) (hl:ds.length < 100000):Jf "list" Zh o (Qc e Qn) env hp=some (.non,hp1.set a (.lst (ds++[d]))):=by
 unfold Jf
 rw [Qg ho]
 have e2:XI "list" (.ref a) hp=some ((),hp):=by
  show (ZG a >>= _) hp=_
  rw [Qg (Zn h0)];rfl
 rw [Qg e2,Qg (ZI he)]
 show (ZG a >>= _) hp1=_
 rw [Qg (Zn h)]
 show (Qv (decide (ds.length < lim)) >>= _) hp1=_
 rw [decide_eq_true (by unfold lim;exact hl)];rfl
theorem Qdh {hs:List DV} {ws:List TR.Wk} (hl:hs.length=ws.length) (h:∀ (i:Nat) (v:TR.Wk),ws[i]?=some v->∃ d,hs[i]?=some d/\isN d=v.ended):hs.all isN=ws.all (·.ended):=by
 rw [Bool.eq_iff_iff,List.all_eq_true,List.all_eq_true]
 constructor
 ·intro a v hv
  obtain ⟨i,hi⟩:=List.getElem?_of_mem hv
  obtain ⟨d,h1,h2⟩:=h i v hi
  rw [<- h2];exact a d (List.mem_of_getElem? h1)
 ·intro a d hd
  obtain ⟨i,hi⟩:=List.getElem?_of_mem hd
  have li:=(List.getElem?_eq_some_iff.mp hi).1
  have hv:ws[i]?=some ws[i]:=List.getElem?_eq_getElem (by omega)
  obtain ⟨d',h1,h2⟩:=h i _ hv
  rw [hi] at h1;cases h1
  rw [h2];exact a _ (List.mem_of_getElem? hv)
def strip (x:Nat×Nat×TR.Wk):Nat×TR.Wk:=(x.1,x.2.2)
def pn (s:TR.St) (i:Nat) (s':TR.St) (P:List (Nat×TR.Wk)):List (Nat×TR.Wk):=match s.ws[i]?,s'.ws[i]? with
 | some v,some v2=>if v.ended=true then P else if v2.ended=true then P++[(s.ns.getD i 0,v2)] else P
 | _,_=>P
def Qa1 (ds:List TR.Deed) (H:Nat):Nat->TR.St->List (Nat×TR.Wk)->List TR.Out->List (Nat×TR.Wk)
  | _,_,P,[]=>P
  | h,s,P,_::os=>match TR.mv ds s h with
    | some (_,s')=>Qa1 ds H ((h+1) % H) s' (pn s h s' P) os
    | none=>P
section
variable {w w1 w2:Hs} {s s1 s2:TR.St} {L L1 L2:Nat->Nat} {ds:List TR.Deed} {bg:TR.Bg} {b:Nat->Nat} {Q:Dn}
theorem Ue {i:Nat} {s':TR.St} {Q':Dn} (hi:i < s.ws.length) (hl:s'.ws.length=s.ws.length) (hQ:∀ v,s.ws[i]?=some v->(v.ended=true->Q'=Q)/\(v.ended=false->∀ v2,s'.ws[i]?=some v2->Q'=if v2.ended=true then Q++[(s.ns.getD i 0,L i,v2)] else Q)):Q'.map strip=pn s i s' (Q.map strip):=by
  have h1:=List.getElem?_eq_getElem hi
  have h2:s'.ws[i]?=some s'.ws[i]:=List.getElem?_eq_getElem (by omega)
  obtain ⟨q1,q2⟩:=hQ _ h1
  unfold pn
  rw [h1,h2]
  dsimp only
  cases he:s.ws[i].ended with
  | true=>rw [q1 he,if_pos rfl]
  | false =>
    rw [q2 he _ h2]
    cases s'.ws[i].ended with
    | true=>simp [strip]
    | false=>simp
theorem QeW (A:WB w ds s L Q) (hl:s.ws.length < 1000):JY [.ref 2] w=some (.bl (TR.still ds s),w):=by
 obtain ⟨hs,k6,hsl,hsi⟩:=A.hh
 rw [Qft A.hv A.hd k6 (by omega),Qdh hsl fun i v hi=>⟨_,hsi i v hi,by
  cases he:v.ended with
  | true=>rw [gZ he];rfl
  | false=>rw [gY he];rfl⟩]
 congr 2
 unfold TR.still
 rw [List.length_map]
 congr 1
 have:((s.tk:Int)==(ds.length:Int))=decide (s.tk=ds.length):=by
  by_cases e:s.tk=ds.length
  ·rw [e];simp
  ·rw [decide_eq_false e,beq_eq_false_iff_ne];omega
 rw [this]
def Kk (H:Nat):Nat->List TR.Out->List DV
 | _,[]=>[]
 | h,o::os=>xj h o::Kk H ((h+1) % H) os
theorem QbF {H f:Nat} (h60:ds.length<=60) (hf:8 < f) (hH0:0 < H) (hH8:H<=8) {h:Nat} {os:List TR.Out} (R:TR.Run ds H 9000 h s os s2):∀ (w:Hs) (L:Nat->Nat) (Q:Dn) (rs:List DV) (fuel:Nat),TR.still ds s2=true->s.ws.length=H->WB w ds s L Q->w[f]?=some (.lst rs)->(∀ (i:Nat) (v:TR.Wk),s.ws[i]?=some v->v.ended=false->f < L i∨L i+2 < f)->(∀ x∈Q,f < x.2.1∨x.2.1+2 < f)->rs.length+os.length < 90000->os.length < fuel ->
    ∃ w' L' Q' h',XW (Xc (eB (QD "Weaver" "idle" 1 JY (Qb 0) Qn))) (YB) fuel [.val (.ref 2),.val (.ref f),.val (.int h)] w=some ((.nx,[.val (.ref 2),.val (.ref f),.val (.int h')]),w')/\WB w' ds s2 L' Q'/\w'[f]?=some (.lst (rs++Kk H h os))/\Fw (fun x=>CW x∨x=f) w s L w' s2 L'/\Q'.map strip=Qa1 ds H h s (Q.map strip) os:=by
  induction R with
  | nil h s =>
    intro w L Q rs fuel hs hl A gf hL hQf hn hu
    obtain ⟨g,rfl⟩:∃ g,fuel=g+1:=⟨fuel - 1,by omega⟩
    refine ⟨w,L,Q,h,QeE (X7 (b:=true) (QR ((Q6 (Qe rfl) A.hv (Qe5 _) za rfl (QeW A (by omega))).trans (by rw [hs])))),A,by show _=some (OV.lst (rs++[]));rw [List.append_nil];exact gf,Fw.refl,rfl⟩
  | @cons h s s1 s2 o os hs0 hlt yy em R ih =>
    intro w L Q rs fuel hs hl A gf hL hQf hn hu
    obtain ⟨g,rfl⟩:∃ g,fuel=g+1:=⟨fuel - 1,by omega⟩
    obtain ⟨bg,b,Y,hb⟩:=yy
    have lf:f < w.length:=(List.getElem?_eq_some_iff.mp gf).1
    obtain ⟨w1,L1,Q1,e1,A1,F1,q1⟩:=Qca A Y hlt h60 (by omega) (hb h) em
    have gf1:w1[f]?=some (.lst rs):=(F1.old f lf (by unfold CW;omega) hL).trans gf
    obtain ⟨_,s1',_,em',_,l1,_⟩:=TR.kA Y hlt
    rw [em] at em';cases em'
    have sq:=Ue (L:=L) hlt l1 q1
    obtain ⟨hs6,k6,hsl,_⟩:=A1.hh
    simp only [List.length_cons] at hn hu
    let w2:Hs:=w1.set f (.lst (rs++[xj h o]))
    have gg:∀ {j:Nat} {z:OV},j≠f->w1[j]?=some z->w2[j]?=some z:=fun {j z} n hj=>gs (Ne.symm n) hj
    have hL1:∀ (i:Nat) (v:TR.Wk),s1.ws[i]?=some v->v.ended=false->f < L1 i∨L1 i+2 < f:=fun i v hi hv=>by
      rcases F1.own i v hi hv with ⟨u,a1,a2,a3⟩ | q
      . rw [a3];exact hL i u a1 a2
      . exact .inl (by omega)
    have hQ1:∀ x∈Q1,f < x.2.1∨x.2.1+2 < f:=fun x hx=>by
      have hw:=List.getElem?_eq_getElem hlt
      obtain ⟨c1,c2⟩:=q1 _ hw
      cases he:s.ws[h].ended with
      | true=>rw [c1 he] at hx;exact hQf x hx
      | false =>
        have h2:s1.ws[h]?=some s1.ws[h]:=List.getElem?_eq_getElem (by omega)
        rw [c2 he _ h2] at hx
        split at hx
        . rcases List.mem_append.mp hx with hx | hx
          . exact hQf x hx
          . rw [List.mem_singleton] at hx
            rw [hx];exact hL h _ hw he
        . exact hQf x hx
    have A2:WB w2 ds s1 L1 Q1:=⟨gg (by omega) A1.h1,gg (by omega) A1.h2,gg (by omega) A1.hv,gg (by omega) A1.hd,(by obtain ⟨a,b1,c1⟩:=A1.hh;exact ⟨a,gg (by omega) b1,c1⟩),gg (by omega) A1.hn,A1.hq,fun i v hi hv=>by
      obtain ⟨p1,p2,p3,p4⟩:=A1.ob i v hi hv
      have q:=hL1 i v hi hv
      exact ⟨gg (by omega) p1,gg (by omega) p2,gg (by omega) p3,p4⟩,A1.dj,fun x hx=>by
      obtain ⟨p1,p2,p3⟩:=A1.od x hx
      have q:=hQ1 x hx
      exact ⟨gg (by omega) p1,gg (by omega) p2,p3⟩⟩
    let E:En:=[.val (.ref 2),.val (.ref f),.val (.int h)]
    have u1:Zu (Jf "list" Zh (Qb 1) (Qc (QD "Weaver" "move" 2 ZE (Qb 0) (Qc (Qb 2) (Qn))) (Qn))) E w=some ((.nx,E),w2):=ZX (Qdi (Qe rfl) gf (Q6 (Qe rfl) A.hv (Qe4 _) (ZI (Qe rfl)) rfl e1) gf1 (by omega))
    have md:(((h:Int)+1) % ((H:Nat):Int))=(((h+1) % H:Nat):Int):=by rw [Int.natCast_emod,Int.natCast_add];rfl
    have u2:QM 2 (Qk Xq (Qk Z5 (Qb 2) (eC (.int 1))) (ZB JD (Qc (Qw "Weaver" "held" (Qb 0)) (Qn)))) E w2=some ((.nx,[.val (.ref 2),.val (.ref f),.val (.int ((h+1) % H:Nat))]),w2):=Q0 (Ql (x:=.int ((h:Int)+1)) (y:=.int (H:Nat)) (Ql (Qe rfl) rfl rfl) ((YC (QA (Qe rfl) A2.hv (qP _)) (gg (by omega) k6)).trans (by rw [hsl,l1,hl])) ((Zx (Jo _ _ (by omega)) w2).trans (by rw [md])))
    obtain ⟨w3,L3,Q3,h3,e3,A3,g3,F3,r3⟩:=ih w2 L1 Q1 (rs++[xj h o]) g hs (by rw [l1];exact hl) A2 (gss gf1) hL1 hQ1 (by simp;omega) (by omega)
    refine ⟨w3,L3,Q3,h3,(QeF (X7 (b:=false) (QR ((Q6 (Qe rfl) A.hv (Qe5 _) za rfl (QeW A (by omega))).trans (by rw [hs0])))) ((Qj u1).trans u2)).trans e3,A3,by rw [g3,List.append_assoc];rfl,?_,?_⟩
    . refine Fw.trans (w1:=w2) (s1:=s1) (L1:=L1) ⟨by show w.length<=(w1.set f _).length;rw [List.length_set];exact F1.len,F1.own,fun x hx hC hx2=>?_⟩ F3
      show (w1.set f _)[x]?=_
      rw [QI _ _ _ _ (fun e=>hC (.inr e.symm))]
      exact F1.old x hx (fun c=>hC (.inl c)) hx2
    . rw [r3,sq]
      show _=(match TR.mv ds s h with | some (_,s')=>Qa1 ds H ((h+1) % H) s' (pn s h s' (Q.map strip)) os | none=>_)
      rw [em]
end
structure Kx (t:Nat) (Q:Dn) (kvs:List (Key×DV)):Prop where
 nd:(kvs.map (·.1)).Nodup
 ks:∀ k∈kvs.map (·.1),∃ n:Nat,k=.inl (n:Int)/\n < t
 pl:∀ x∈Q,x.2.2.pairs.length<=50000
def Qh5:Key->Nat
 | .inl i=>i.toNat
 | .inr _=>0
section
variable {w w1 w2:Hs} {s s' s1 s2:TR.St} {L L1 L2:Nat->Nat} {ds:List TR.Deed} {bg:TR.Bg} {b:Nat->Nat} {Q Q':Dn} {kvs:List (Key×DV)} {o:TR.Out} {t:Nat}
theorem Kx.len (K:Kx t Q kvs):kvs.length<=t:=by
 have nd:((kvs.map (·.1)).map Qh5).Nodup:=by
  unfold List.Nodup
  rw [List.pairwise_map]
  refine List.Pairwise.imp_of_mem (fun {a c} ha hc ne e=>?_) K.nd
  obtain ⟨n,rfl,_⟩:=K.ks a ha
  obtain ⟨m,rfl,_⟩:=K.ks c hc
  refine ne ?_
  have e':((n:Int)).toNat=((m:Int)).toNat:=e
  rw [show n=m by omega]
 have:=TR.Js (m:=List.range t) nd fun x hx=>by
  obtain ⟨k,hk,rfl⟩:=List.mem_map.mp hx
  obtain ⟨n,rfl,hn⟩:=K.ks k hk
  rw [List.mem_range]
  show ((n:Int)).toNat < t
  omega
 simpa using this
theorem Kx.put (K:Kx t Q kvs) {n:Nat} (hn:n < t) (d:DV):Kx t Q (J2 kvs (.inl (n:Int)) d):=by
 unfold J2
 split
 ·have e:(kvs.map fun kv=>if kv.1=(.inl (n:Int):Key) then (kv.1,d) else kv).map (·.1)=kvs.map (·.1):=by
   rw [List.map_map]
   apply List.map_congr_left
   intro a _
   show (if a.1=(.inl (n:Int):Key) then (a.1,d) else a).1=a.1
   split<;>rfl
  exact ⟨by rw [e];exact K.nd,by rw [e];exact K.ks,K.pl⟩
 ·rename_i h
  refine ⟨?_,fun k hk=>?_,K.pl⟩
  ·rw [List.map_append,List.nodup_append]
   refine ⟨K.nd,by simp,fun x hx y hy e=>h ?_⟩
   simp at hy
   subst hy;subst e
   obtain ⟨z,hz,hz2⟩:=List.mem_map.mp hx
   rw [List.any_eq_true]
   exact ⟨z,hz,decide_eq_true hz2⟩
  ·rw [List.map_append] at hk
   rcases List.mem_append.mp hk with hk | hk
   ·exact K.ks k hk
   ·simp at hk
    exact ⟨n,hk,hn⟩
theorem Kx.move (K:Kx s.tk Q kvs) (N:Nt ds s Q kvs) (Y:TR.StOk ds s bg b) {i:Nat} (hi:i < s.ws.length) (hb:b i<=9000) (hm:TR.mv ds s i=some (o,s')) {a:Nat} (hQ:∀ v,s.ws[i]?=some v->(v.ended=true->Q'=Q)/\(v.ended=false->∀ v2,s'.ws[i]?=some v2->Q'=if v2.ended=true then Q++[(s.ns.getD i 0,a,v2)] else Q)) :
    Kx s'.tk Q' (JB kvs o)/\(∀ (n a:Nat) (ps:List (Int×Int)) (t:Option (Nat×Int)),o=.did n (.read a ps t)->(Zq kvs (.inl (n:Int))).getD (.lst [])=.lst (X2 kvs n)/\(X2 kvs n).length+ps.length < 90000)/\(∀ n,o≠.did n .non)/\(xg o=true->nOf o=s.ns.getD i 0):=by
  have hw:=List.getElem?_eq_getElem hi
  generalize s.ws[i]=v at hw
  obtain ⟨q1,q2⟩:=hQ v hw
  unfold TR.mv at hm
  rw [hw] at hm
  dsimp only at hm
  cases he:v.ended with
  | true =>
    rw [he,if_pos rfl] at hm
    have e:=q1 he
    subst e
    cases hd:ds[s.tk]? with
    | none =>
      rw [hd] at hm;cases hm
      exact ⟨K,fun _ _ _ _ h=>(by cases h),fun _ h=>(by cases h),fun h=>(by cases h)⟩
    | some d =>
      rw [hd] at hm;cases hm
      refine ⟨⟨K.nd,fun k hk=>?_,K.pl⟩,fun _ _ _ _ h=>(by cases h),fun _ h=>(by cases h),fun h=>(by cases h)⟩
      obtain ⟨n,e,hn⟩:=K.ks k hk
      exact ⟨n,e,Nat.lt_succ_of_lt hn⟩
  | false =>
    rw [he,if_neg (by simp)] at hm
    cases es:TR.Jh s.S v with
    | none=>rw [es] at hm;cases hm
    | some q =>
      obtain ⟨r,S2,v2⟩:=q
      rw [es] at hm;cases hm
      obtain ⟨P,nt⟩:=N.lv i v hw he
      obtain ⟨tl,_⟩:=TR.jD he es
      have rm:=Y.rm
      have sz:=(TR.Ud (m:=5) (fun m p hm=>by have:=(Y.T.page m p hm).few;omega) es).2
      have pr:=Y.pr i v hw he
      have kk:Kx s.tk Q (JB kvs (.did (s.ns.getD i 0) r)):=by
        cases r<;>first | exact K | exact K.put nt _
      have e:=q2 he v2 (List.getElem?_set_self hi)
      refine ⟨⟨kk.nd,kk.ks,fun x hx=>?_⟩,fun n a ps t h=>?_,fun n h=>?_,fun _=>rfl⟩
      . rw [e] at hx
        split at hx
        . rcases List.mem_append.mp hx with hx | hx
          . exact K.pl x hx
          . rw [List.mem_singleton] at hx
            rw [hx]
            show v2.pairs.length<=50000
            omega
        . exact K.pl x hx
      . cases h
        obtain ⟨t0,t1,t2,t3,t4⟩:=tl
        have so:(Zq kvs (.inl ((s.ns.getD i 0:Nat):Int))).getD (.lst [])=.lst (X2 kvs (s.ns.getD i 0))/\(X2 kvs (s.ns.getD i 0)).length=v.pairs.length:=by
          unfold X2
          rcases P.2.1 t3 with q | ⟨q,e⟩
          . rw [q];exact ⟨rfl,qJ _⟩
          . rw [q,e];exact ⟨rfl,rfl⟩
        refine ⟨so.1,?_⟩
        rw [so.2]
        rw [t2,List.length_append] at sz
        omega
      . cases h;exact tl.elim
theorem uz {Q2:Dn} (h:Q.map strip=Q2.map strip):Jw Q=Jw Q2:=by
 have e:∀ Q:Dn,Jw Q=(Q.map strip).map fun x=>.tup [.int x.1,Vf x.2]:=fun Q=>by unfold Jw;rw [List.map_map];rfl
 rw [e,e,h]
theorem KA {Q2:Dn} (h:Q.map strip=Q2.map strip):∀ x∈Q2,∃ y∈Q,strip y=strip x:=fun x hx=>by
 have:strip x∈Q.map strip:=by rw [h];exact List.mem_map_of_mem hx
 obtain ⟨y,hy,e⟩:=List.mem_map.mp this
 exact ⟨y,hy,e⟩
theorem Nt.strip {Q2:Dn} (N:Nt ds s Q kvs) (h:Q.map strip=Q2.map strip):Nt ds s Q2 kvs:=by
 have e:∀ Q:Dn,Q.map (·.1)=(Q.map K33.strip).map (·.1):=fun Q=>by rw [List.map_map];rfl
 refine ⟨N.lv,N.un,by rw [e,<- h,<- e];exact N.qd,fun x hx=>?_,?_,N.nw⟩
 ·obtain ⟨y,hy,q⟩:=KA h x hx
  have q1:(K33.strip y).1=(K33.strip x).1:=by rw [q]
  have q1:y.1=x.1:=q1
  rw [<- q1];exact N.qt y hy
 ·have:=congrArg List.length h
  simp at this
  have:=N.cn
  omega
theorem Kx.strip {Q2:Dn} (K:Kx t Q kvs) (h:Q.map strip=Q2.map strip):Kx t Q2 kvs:=⟨K.nd,K.ks,fun x hx=>by
 obtain ⟨y,hy,q⟩:=KA h x hx
 have q1:(K33.strip y).2=(K33.strip x).2:=by rw [q]
 have q1:y.2.2=x.2.2:=q1
 rw [<- q1];exact K.pl y hy⟩
theorem Vq (Q:Dn):(Jw Q).length=Q.length:=by unfold Jw;rw [List.length_map]
theorem Ki (N:Nt ds s Q kvs) (K:Kx s.tk Q kvs) (Y:TR.StOk ds s bg b) (h60:ds.length<=60) {i:Nat} (hi:i < s.ws.length) (hb:b i<=9000) (hm:TR.mv ds s i=some (o,s')) {a:Nat} (hQ:∀ v,s.ws[i]?=some v->(v.ended=true->Q'=Q)/\(v.ended=false->∀ v2,s'.ws[i]?=some v2->Q'=if v2.ended=true then Q++[(s.ns.getD i 0,a,v2)] else Q)) (h7:w[7]?=some (.dic kvs)) (h8:w[8]?=some (.lst (Jw Q))) :
  Z4 [xj i o,.ref 6,.ref 7,.ref 8] w=some (.non,(w.set 7 (.dic (JB kvs o))).set 8 (.lst (Jw Q')))/\Nt ds s' Q' (JB kvs o)/\Kx s'.tk Q' (JB kvs o):=by
 obtain ⟨N',d1,d2⟩:=N.move Y.len hi hm hQ
 obtain ⟨K',k1,k2,k3⟩:=K.move N Y hi hb hm hQ
 have tk:=Y.tk
 have kl:=K.len
 have cn:=N.cn
 refine ⟨?_,N',K'⟩
 rw [QdN i o h7 h8 (by omega) (by rw [Vq];omega) k2 (fun h=>by rw [k3 h];exact d2 h) k1]
 unfold kB
 rw [d1]
 cases he:xg o with
 | false=>rfl
 | true=>rw [k3 he]
theorem QaL {H f:Nat} (h60:ds.length<=60) (hf7:f≠7) (hf8:f≠8) {h:Nat} {os:List TR.Out} (R:TR.Run ds H 9000 h s os s2):∀ (w:Hs) (Q:Dn) (kvs:List (Key×DV)) (pre:List DV) (fuel:Nat) (e0 e1 e2 e3 e7 z8 e9:Sl),Nt ds s Q kvs->Kx s.tk Q kvs->w[7]?=some (.dic kvs)->w[8]?=some (.lst (Jw Q))->w[f]?=some (.lst (pre++Kk H h os))->os.length < fuel ->
    ∃ kvs' Q' y8,qB (nxW f) (fun d env=>gN 8 d env >>= fun env'=>jZ env') fuel pre.length [e0,e1,e2,e3,.val (.ref 6),.val (.ref 7),.val (.ref 8),e7,z8,e9] w=some ((.nx,[e0,e1,e2,e3,.val (.ref 6),.val (.ref 7),.val (.ref 8),e7,y8,e9]),(w.set 7 (.dic kvs')).set 8 (.lst (Jw Q')))/\Nt ds s2 Q' kvs'/\Kx s2.tk Q' kvs'/\Q'.map strip=Qa1 ds H h s (Q.map strip) os:=by
  induction R with
  | nil h s =>
    intro w Q kvs pre fuel e0 e1 e2 e3 e7 z8 e9 N K h7 h8 gf hu
    obtain ⟨g,rfl⟩:∃ g,fuel=g+1:=⟨fuel - 1,by omega⟩
    have x:=YS gf pre.length
    rw [List.getElem?_eq_none (by show (pre++[]).length<=_;simp)] at x
    refine ⟨kvs,Q,z8,?_,N,K,rfl⟩
    rw [qB,Qg x,YK h7,YK h8];rfl
  | @cons h s s1 s2 o os hs0 hlt yy em R ih =>
    intro w Q kvs pre fuel e0 e1 e2 e3 e7 z8 e9 N K h7 h8 gf hu
    obtain ⟨g,rfl⟩:∃ g,fuel=g+1:=⟨fuel - 1,by omega⟩
    obtain ⟨bg,b,Y,hb⟩:=yy
    have x:=YS gf pre.length
    rw [show (pre++Kk H h (o::os))[pre.length]?=some (xj h o) by rw [List.getElem?_append_right (Nat.le_refl _),Nat.sub_self];rfl] at x
    obtain ⟨_,s1',_,em',_,l1,_⟩:=TR.kA Y hlt
    rw [em] at em';cases em'
    have g0:s.ws[h]?=some s.ws[h]:=List.getElem?_eq_getElem hlt
    have lt1:h < s1.ws.length:=by omega
    have g1:s1.ws[h]?=some s1.ws[h]:=List.getElem?_eq_getElem lt1
    obtain ⟨Q1,hQ1⟩:∃ Q1:Dn,∀ v,s.ws[h]?=some v->(v.ended=true->Q1=Q)/\(v.ended=false->∀ v2,s1.ws[h]?=some v2->Q1=if v2.ended=true then Q++[(s.ns.getD h 0,0,v2)] else Q):=by
      refine ⟨if s.ws[h].ended=true then Q else if s1.ws[h].ended=true then Q++[(s.ns.getD h 0,0,s1.ws[h])] else Q,fun v hv=>?_⟩
      rw [g0] at hv;cases hv
      refine ⟨fun e=>if_pos e,fun e v2 h2=>?_⟩
      rw [g1] at h2;cases h2
      rw [if_neg (by rw [e];simp)]
    have sq:=Ue (L:=fun _=>0) hlt l1 hQ1
    obtain ⟨ne,N1,K1⟩:=Ki N K Y h60 hlt (hb h) em hQ1 h7 h8
    let W1:Hs:=(w.set 7 (.dic (JB kvs o))).set 8 (.lst (Jw Q1))
    let E:Sl->En:=fun z=>[e0,e1,e2,e3,.val (.ref 6),.val (.ref 7),.val (.ref 8),e7,z,e9]
    have bd:jZ (E (.val (xj h o))) w=some ((.nx,E (.val (xj h o))),W1):=ZX (ZJ (gB (Qe rfl) (Qe rfl) (Qe rfl) (Qe rfl)) rfl ne)
    have gf1:W1[f]?=some (.lst ((pre++[xj h o])++Kk H ((h+1) % H) os)):=gs (Ne.symm hf8) (gs (Ne.symm hf7) (by rw [gf,List.append_assoc];rfl))
    obtain ⟨kvs',Q2,y8,e,N2,K2,r2⟩:=ih W1 Q1 (JB kvs o) (pre++[xj h o]) g e0 e1 e2 e3 e7 (.val (xj h o)) e9 N1 K1 (gs (by decide) (gss h7)) (gss (gs (by decide) h8)) gf1 (by simp at hu;omega)
    refine ⟨kvs',Q2,y8,?_,N2,K2,?_⟩
    . rw [qB,Qg x]
      have bb:(gN 8 (xj h o) [e0,e1,e2,e3,.val (.ref 6),.val (.ref 7),.val (.ref 8),e7,z8,e9] >>= fun env'=>jZ env') w=some ((.nx,E (.val (xj h o))),W1):=bd
      simp only
      rw [Qg bb]
      rw [List.length_append] at e
      have ww:(W1.set 7 (.dic kvs')).set 8 (.lst (Jw Q2))=(w.set 7 (.dic kvs')).set 8 (.lst (Jw Q2)):=by
        show (((w.set 7 _).set 8 _).set 7 _).set 8 _=_
        rw [List.set_comm _ _ (show (8:Nat)≠7 by decide),List.set_set,List.set_set]
      rw [ww] at e
      exact e
    . rw [r2,sq]
      show _=(match TR.mv ds s h with | some (_,s')=>Qa1 ds H ((h+1) % H) s' (pn s h s' (Q.map strip)) os | none=>_)
      rw [em]
theorem WB.put (A:WB w ds s L Q) {x:Nat} {o:OV} (hx:x=6∨x=7∨x=8):WB (w.set x o) ds s L Q:=by
 have g:∀ {j:Nat} {z:OV},(j < 6∨8 < j)->w[j]?=some z->(w.set x o)[j]?=some z:=fun {j z} n h=>gs (by omega) h
 obtain ⟨a,b1,c1⟩:=A.hh
 exact ⟨g (by omega) A.h1,g (by omega) A.h2,g (by omega) A.hv,g (by omega) A.hd,⟨a,g (by omega) b1,c1⟩,g (by omega) A.hn,A.hq,fun i v hi hv=>by
  obtain ⟨p1,p2,p3,p4⟩:=A.ob i v hi hv
  exact ⟨g (by omega) p1,g (by omega) p2,g (by omega) p3,p4⟩,A.dj,fun x hx=>by
  obtain ⟨p1,p2,p3,p4,p5⟩:=A.od x hx
  exact ⟨g (by omega) p1,g (by omega) p2,p3,p4,p5⟩⟩
theorem WB.keep (A:WB w ds s L Q) (h:∀ x,x < w.length->w1[x]?=w[x]?):WB w1 ds s L Q:=by
 have g:∀ {j:Nat} {z:OV},w[j]?=some z->w1[j]?=some z:=fun {j z} e=>(h j (List.getElem?_eq_some_iff.mp e).1).trans e
 obtain ⟨a,b1,c1⟩:=A.hh
 exact ⟨g A.h1,g A.h2,g A.hv,g A.hd,⟨a,g b1,c1⟩,g A.hn,A.hq,fun i v hi hv=>by
  obtain ⟨p1,p2,p3,p4⟩:=A.ob i v hi hv
  exact ⟨g p1,g p2,g p3,p4⟩,A.dj,fun x hx=>by
  obtain ⟨p1,p2,p3⟩:=A.od x hx
  exact ⟨g p1,g p2,p3⟩⟩
theorem WB.small (A:WB w ds s L Q) (i:Nat) (v:TR.Wk) (h:s.ws[i]?=some v) (e:v.ended=false):L i+2 < w.length:=(List.getElem?_eq_some_iff.mp (A.ob i v h e).2.2.1).1
theorem QbG {H:Nat} (A:WB w ds s L Q) (h60:ds.length<=60) (h8:8 < w.length) (hH0:0 < H) (hH8:H<=8) {os:List TR.Out} (R:TR.Run ds H 9000 0 s os s2) (hs:TR.still ds s2=true) (hl:s.ws.length=H) (ho:os.length < 90000):∃ w' L' Q',Z2 [.ref 2] w=some (.ref w.length,w')/\WB w' ds s2 L' Q'/\w'[w.length]?=some (.lst (Kk H 0 os))/\(∀ x,x=6∨x=7∨x=8->w'[x]?=w[x]?)/\Q'.map strip=Qa1 ds H 0 s (Q.map strip) os:=by
  let f:=w.length
  let w0:Hs:=w++[OV.lst []]
  have A0:WB w0 ds s L Q:=A.keep fun x hx=>List.getElem?_append_left hx
  obtain ⟨w',L',Q',h',e,A',gf,F,r⟩:=QbF h60 (f:=f) h8 hH0 hH8 R w0 L Q [] 100000 hs hl A0 (by show (w++[OV.lst []])[w.length]?=_;simp) (fun i v hi hv=>.inr (A.small i v hi hv)) (fun x hx=>.inr (List.getElem?_eq_some_iff.mp (A.od x hx).2.1).1) (by simp;omega) (by omega)
  have u1:QM 1 (Xk Qn) [.val (.ref 2),.un,.un] w=some ((.nx,[.val (.ref 2),.val (.ref f),.un]),w0):=Q0 rfl
  have u2:QM 2 (eC (.int 0)) [.val (.ref 2),.val (.ref f),.un] w0=some ((.nx,[.val (.ref 2),.val (.ref f),.val (.int 0)]),w0):=Q0 rfl
  refine ⟨w',L',Q',Qy (env:=[.val (.ref 2),.val (.ref f),.val (.int h')]) ((Qj u1).trans ((Qj u2).trans ((Qj e).trans (QB (Qe rfl))))),A',gf,fun x hx=>?_,r⟩
  have lx:x < w.length:=by omega
  rw [F.old x (by simp [w0]; omega) (fun c => by rcases c with c | c; · unfold CW at c; omega
                                                 . exact absurd c (Nat.ne_of_lt lx)) fun i u a1 a2=>.inl (by have:=(A.ob i u a1 a2).2.2.2;omega)]
  exact List.getElem?_append_left lx
theorem Qdb {f:DEx} {env:En} {hp hp1:Hs} {n:Nat} {ds:List DV} (h:f env hp=some (.ref n,hp1)) (hn:hp1[n]?=some (.lst ds)):xLs f env hp=some (nxW n,hp1):=by
 unfold xLs
 rw [Qg h]
 show (ZG n >>= _) hp1=_
 rw [Qg (Zn hn)];rfl
theorem Qfr {H:Nat} (A:WB w ds s L Q) (N:Nt ds s Q kvs) (K:Kx s.tk Q kvs) (h7:w[7]?=some (.dic kvs)) (h8:w[8]?=some (.lst (Jw Q))) (h60:ds.length<=60) (hH0:0 < H) (hH8:H<=8) {os:List TR.Out} (R:TR.Run ds H 9000 0 s os s2) (hs:TR.still ds s2=true) (hl:s.ws.length=H) (ho:os.length < 90000) (e0 e1 e2 e7 z8 e9:Sl) :
  ∃ w' L' Q' kvs' y8,KG [e0,e1,e2,.val (.ref 2),.val (.ref 6),.val (.ref 7),.val (.ref 8),e7,z8,e9] w=some ((.nx,[e0,e1,e2,.val (.ref 2),.val (.ref 6),.val (.ref 7),.val (.ref 8),e7,y8,e9]),w')/\WB w' ds s2 L' Q'/\Nt ds s2 Q' kvs'/\Kx s2.tk Q' kvs'/\w'[7]?=some (.dic kvs')/\w'[8]?=some (.lst (Jw Q'))/\w'[6]?=w[6]?:=by
 have l8:8 < w.length:=(List.getElem?_eq_some_iff.mp h8).1
 obtain ⟨w1,L1,Q1,e,A1,gf,o1,r1⟩:=QbG A h60 l8 hH0 hH8 R hs hl ho
 have a7:=(o1 7 (by decide)).trans h7
 have a8:=(o1 8 (by decide)).trans h8
 obtain ⟨kvs',Q2,y8,e2',N2,K2,r2⟩:=QaL h60 (f:=w.length) (by omega) (by omega) R w1 Q kvs [] 100000 e0 e1 e2 (.val (.ref 2)) e7 z8 e9 N K a7 a8 gf (by omega)
 have rr:Q2.map strip=Q1.map strip:=r2.trans r1.symm
 refine ⟨(w1.set 7 (.dic kvs')).set 8 (.lst (Jw Q2)),L1,Q1,kvs',y8,?_,(A1.put (by decide)).put (by decide),N2.strip rr,K2.strip rr,gs (by decide) (gss a7),?_,?_⟩
 ·show YE (xLs (QD "Weaver" "finish" 1 Z2 (Qb 3) Qn)) (gN 8) (jZ) _ w=_
  unfold YE
  have xx:xLs (QD "Weaver" "finish" 1 Z2 (Qb 3) Qn) [e0,e1,e2,.val (.ref 2),.val (.ref 6),.val (.ref 7),.val (.ref 8),e7,z8,e9] w=some (nxW w.length,w1):=Qdb (Q6 (Qe rfl) A.hv (QhN _) za rfl e) gf
  rw [Qg xx]
  exact e2'
 ·rw [<- uz rr];exact gss (gs (by decide) a8)
 ·rw [QI _ _ _ _ (by decide),QI _ _ _ _ (by decide)];exact o1 6 (by decide)
end
theorem QhO (t:Int):List.lookup ("answers" : Str) (wvF t)=none:=by rfl
def Ls (w:Hs) (x:DV) (ds:List DV):Prop:=x=.lst ds∨∃ b,x=.ref b/\w[b]?=some (.lst ds)
section
variable {w:Hs} {x:DV} {ds:List DV} {env:En} {f:DEx}
theorem Ls.ls (h:Ls w x ds):lsG x w=some (ds,w):=by
 rcases h with rfl | ⟨b,rfl,hb⟩
 ·rfl
 ·show (ZG b >>= _) w=_
  rw [Qg (Zn hb)];rfl
theorem Ls.isi (h:Ls w x ds) (T:String) (hf:f env w=some (x,w)):XG T f env w=some (.bl (VA "list" T),w):=by
 unfold XG;rw [Qg hf]
 rcases h with rfl | ⟨b,rfl,hb⟩
 ·rfl
 ·show (ZG b >>= _) w=_
  rw [Qg (Zn hb)];rfl
theorem Ls.len (h:Ls w x ds) (hf:f env w=some (x,w)):ZB JD (Qc f Qn) env w=some (.int ds.length,w):=by
 rcases h with rfl | ⟨b,rfl,hb⟩
 ·exact QfF hf
 ·exact YC hf hb
end
theorem zK:∀ (xs ys:List DV) (i:Nat),(Xp (xs.drop i) (ys.drop i)).head?=(Xp xs ys)[i]?
 | xs,ys,0=>by rw [List.drop_zero,List.drop_zero];cases Xp xs ys<;>rfl
 | [],ys,i+1=>by rw [List.drop_nil];rfl
 | x::xs,[],i+1=>by rw [List.drop_nil];cases (x::xs).drop (i+1)<;>rfl
 | x::xs,y::ys,i+1=>zK xs ys i
theorem zL:∀ {xs ys:List DV},xs.length=ys.length->(Xp xs ys).length=xs.length
  | [],[],_=>rfl
  | x::xs,y::ys,h=>by
    show (Xp xs ys).length+1=xs.length+1
    rw [zL (by simpa using h)]
theorem KE:∀ (xs ys:List DV) (i:Nat) (d:DV),(Xp xs ys)[i]?=some d->∃ a b,d=.tup [a,b]/\xs[i]?=some a/\ys[i]?=some b
 | [],ys,i,d,h=>by cases ys<;>cases h
 | x::xs,[],i,d,h=>by cases h
 | x::xs,y::ys,0,d,h=>⟨x,y,by cases h;rfl,rfl,rfl⟩
 | x::xs,y::ys,i+1,d,h=>KE xs ys i d h
theorem Kp (n:Nat) {x y:DV} {xs ys:List DV} {w:Hs} {nxt:NX} (hf:Qdc (Qb 0) (Qb 1) [.val x,.val y,.un,.un] w=some (nxt,w)) (hn:∀ i,i<=(Xp xs ys).length->nxt i w=some ((Xp xs ys)[i]?,w)) (hd:∀ (i:Nat) (a b:DV),xs[i]?=some a->ys[i]?=some b->QT n [a,b] w=some (.bl true,w)) (hl:(Xp xs ys).length < 100000):∃ z2 z3,qu (QT n) [.val x,.val y,.un,.un] w=some ((.nx,[.val x,.val y,z2,z3]),w):=by
 have M:WP (qB nxt (fun d env=>do let env' <- gT [2,3] d env;qF (QT n) env') 100000 0 [.val x,.val y,.un,.un]) w fun q w'=>w'=w/\∃ z2 z3,q=(.nx,[.val x,.val y,z2,z3]):=by
  refine KK (Xp xs ys) (fun i env w'=>w'=w/\∃ z2 z3,env=[.val x,.val y,z2,z3]) hl (fun i env hp hi h=>by rw [h.1];exact hn i hi) ⟨rfl,_,_,rfl⟩ (fun i d hd' env w' h=>?_) (fun env w' h=>by obtain ⟨e,z2,z3,e'⟩:=h;exact ⟨e,z2,z3,by rw [e']⟩)
  obtain ⟨e0,z2,z3,e1⟩:=h
  rw [e0,e1]
  obtain ⟨p,q,rfl,ha,hb⟩:=KE xs ys i d hd'
  refine ⟨(.nx,[.val x,.val y,.val p,.val q]),w,?_,rfl,_,_,rfl⟩
  show qF (QT n) [.val x,.val y,.val p,.val q] w=_
  exact (QF (X7 (b:=true) (QR (ZJ (ZH (Qe rfl) (Qe rfl)) rfl (hd i p q ha hb))))).trans nil_at
 obtain ⟨q,w',e,rfl,z2,z3,rfl⟩:=M
 refine ⟨z2,z3,?_⟩
 unfold qu YE
 rw [Qg hf];exact e
theorem xt (n:Nat) (i:Int) (w:Hs):QT (n+1) [.int i,.int i] w=some (.bl true,w):=by
 show Q5 4 (Yn (QT n)) _ _=_
 refine Qy (env:=[.val (.int i),.val (.int i),.un,.un]) ((Qj ((QF ((Vu (QR rfl)).trans (QR rfl))).trans nil_at)).trans ((Qj ((QF (QR rfl)).trans nil_at)).trans ((Qj ((QF (QR rfl)).trans nil_at)).trans (QB ?_))))
 exact (Vr (b:=true) rfl).trans (Ql rfl rfl ((eqI i i w).trans (by simp)))
theorem QcI (n:Nat) (w:Hs):QT (n+1) [.non,.non] w=some (.bl true,w):=by
 show Q5 4 (Yn (QT n)) _ _=_
 exact Qy (env:=[.val .non,.val .non,.un,.un]) ((Qj ((QF ((Vu (QR rfl)).trans (QR rfl))).trans nil_at)).trans (Zi ((Zl (QR rfl)).trans (QB rfl))))
theorem QcJ (n:Nat) (o:Option Int) (w:Hs):QT (n+1) [opt o,opt o] w=some (.bl true,w):=by
 cases o with
 | none=>exact QcI n w
 | some i=>exact xt n i w
theorem Kr (n:Nat) {a b c d:DV} {w:Hs} (h1:QT n [a,c] w=some (.bl true,w)) (h2:QT n [b,d] w=some (.bl true,w)):QT (n+1) [.tup [a,b],.tup [c,d]] w=some (.bl true,w):=by
 let x:DV:=.tup [a,b]
 let y:DV:=.tup [c,d]
 obtain ⟨z2,z3,e⟩:=Kp n (x:=x) (y:=y) (xs:=[a,b]) (ys:=[c,d]) (w:=w) (nxt:=nxD (Xp [a,b] [c,d])) rfl (fun i hi=>jx (Xp [a,b] [c,d]) i hi w) (fun i p q hp hq=>by
  match i,hp,hq with
  | 0,hp,hq=>cases hp;cases hq;exact h1
  | 1,hp,hq=>cases hp;cases hq;exact h2
  | i+2,hp,hq=>cases hp) (show (2:Nat) < 100000 by decide)
 show Q5 4 (Yn (QT n)) _ _=_
 refine Qy (env:=[.val x,.val y,z2,z3]) (Zi ((Zl (hp1:=w) (QeU (QR rfl))).trans ((Qj ((QF (hp1:=w) ?_).trans nil_at)).trans ((Qj ((QF (hp1:=w) ?_).trans nil_at)).trans ((Qj e).trans (QB rfl))))))
 ·exact (Vu (QR (Ql (x:=.bl true) (y:=.bl true) rfl rfl (xf (kH 0 true) (by decide) w)))).trans (QR (Ql (x:=.bl false) (y:=.bl false) rfl rfl (xf (kH 0 false) (by decide) w)))
 ·exact QR (Ql (x:=.int 2) (y:=.int 2) (XS (ZI (Qe rfl)) rfl) (XS (ZI (Qe rfl)) rfl) (Qhb 2 w))
theorem Kq (n:Nat) {x y:DV} {xs ys:List DV} {w:Hs} (hx:Ls w x xs) (hy:Ls w y ys) (he:xs.length=ys.length) (hl:xs.length < 100000) (hd:∀ (i:Nat) (a b:DV),xs[i]?=some a->ys[i]?=some b->QT n [a,b] w=some (.bl true,w)):QT (n+1) [x,y] w=some (.bl true,w):=by
 have hf:Qdc (Qb 0) (Qb 1) [.val x,.val y,.un,.un] w=some (nxZ x y,w):=by
  unfold Qdc
  rw [Qg (Qe (d:=x) rfl),Qg (Qe (d:=y) rfl)]
  have q:(do let _ <- lsG x;let _ <- lsG y;pure (nxZ x y):M NX) w=some (nxZ x y,w):=by rw [Qg hx.ls,Qg hy.ls];rfl
  rcases hx with rfl | ⟨b,rfl,hb⟩<;>exact q
 obtain ⟨z2,z3,e⟩:=Kp n (x:=x) (y:=y) (xs:=xs) (ys:=ys) (w:=w) hf (fun i hi=>by
  unfold nxZ
  rw [Qg hx.ls,Qg hy.ls]
  show some (_,w)=_
  rw [zK]) hd (by rw [zL he];exact hl)
 show Q5 4 (Yn (QT n)) _ _=_
 refine Qy (env:=[.val x,.val y,z2,z3]) (Zi ((Zl (hp1:=w) ((Vu (QR (hy.isi _ (Qe rfl)))).trans (QR (hy.isi _ (Qe rfl))))).trans ((Qj ((QF (hp1:=w) ?_).trans nil_at)).trans ((Qj ((QF (hp1:=w) ?_).trans nil_at)).trans ((Qj e).trans (QB rfl))))))
 ·exact (Vu (QR (Ql (hx.isi _ (Qe rfl)) (hy.isi _ (Qe rfl)) (xf (kH 0 false) (by decide) w)))).trans (QR (Ql (hx.isi _ (Qe rfl)) (hy.isi _ (Qe rfl)) (xf (kH 0 true) (by decide) w)))
 ·refine QR (Ql (hx.len (Qe rfl)) (hy.len (Qe rfl)) ?_)
  rw [he];exact Qhb _ w
theorem uZ (n:Nat) {x:DV} {ps:List (Int×Int)} {w:Hs} (hx:Ls w x (prD ps)) (hl:ps.length < 100000):QT (n+3) [x,.lst (prD ps)] w=some (.bl true,w) :=
 Kq (n+2) hx (.inl rfl) rfl (by rw [qJ];exact hl) fun i a b ha hb=>by
  rw [ha] at hb;cases hb
  obtain ⟨p,_,rfl⟩:=List.mem_map.mp (List.mem_of_getElem? ha)
  exact Kr (n+1) (xt n _ w) (xt n _ w)
theorem xK:∀ (Q:Dn) (w W:Hs),(∀ (x:Nat) (z:OV),(Ju Q w).2[x]?=some z->W[x]?=some z)->∀ (i:Nat) (a:DV),(Ju Q w).1[i]?=some a->∃ (q:Nat×Nat×TR.Wk) (d:DV),Q[i]?=some q/\a=.tup [.int q.1,d]/\((q.2.2.deed.far=true/\∃ p,d=.ref p/\w.length<=p/\p < (Ju Q w).2.length/\W[p]?=some (.lst (prD q.2.2.pairs)))∨(q.2.2.deed.far=false/\d=opt q.2.2.worth))
  | [],w,W,hW,i,a,h=>by cases h
  | q::Q,w,W,hW,i,a,h=>by
    unfold Ju at hW h ⊢
    cases hf:q.2.2.deed.far with
    | true =>
      rw [hf,if_pos rfl] at hW h
      rw [if_pos rfl]
      have up:∀ (Q:Dn) (w:Hs),(∀ (x:Nat) (z:OV),w[x]?=some z->(Ju Q w).2[x]?=some z)/\w.length<=(Ju Q w).2.length:=by
        intro Q
        induction Q with
        | nil=>exact fun w=>⟨fun x z h=>h,Nat.le_refl _⟩
        | cons q Q ih =>
          intro w
          unfold Ju
          split
          . refine ⟨fun x z h=>(ih _).1 x z ((List.getElem?_append_left (List.getElem?_eq_some_iff.mp h).1).trans h),?_⟩
            have:=(ih (w++[.lst (prD q.2.2.pairs)])).2
            simp at this
            dsimp only
            omega
          . exact ih w
      have u:=up Q (w++[.lst (prD q.2.2.pairs)])
      match i,h with
      | 0,h =>
        cases h
        refine ⟨q,.ref w.length,rfl,rfl,.inl ⟨hf,w.length,rfl,Nat.le_refl _,?_,hW _ _ (u.1 _ _ (by simp))⟩⟩
        have:=u.2
        rw [List.length_append,List.length_singleton] at this
        dsimp only
        omega
      | i+1,h =>
        obtain ⟨q',d,g1,g2,g3⟩:=xK Q (w++[OV.lst (prD q.2.2.pairs)]) W hW i a (by simpa using h)
        refine ⟨q',d,g1,g2,?_⟩
        rcases g3 with ⟨b1,p,b2,b3,b4⟩ | g3
        . simp at b3
          exact .inl ⟨b1,p,b2,by omega,b4⟩
        . exact .inr g3
    | false =>
      rw [hf,if_neg (by simp)] at hW h
      rw [if_neg (by simp)]
      match i,h with
      | 0,h=>cases h;exact ⟨q,_,rfl,rfl,.inr ⟨hf,rfl⟩⟩
      | i+1,h =>
        obtain ⟨q',d,g1,g2,g3⟩:=xK Q w W hW i a h
        exact ⟨q',d,g1,g2,g3⟩
theorem Vg:∀ (Q:Dn) (w:Hs),(Ju Q w).1.length=Q.length
  | [],_=>rfl
  | q::Q,w=>by
    unfold Ju
    split
    . exact congrArg (· + 1) (Vg Q _)
    . exact congrArg (· + 1) (Vg Q _)
theorem KN:∀ (Q:Dn) (w:Hs),(∀ x∈Q,x.2.2.pairs.length<=50000)->w.length<=(Ju Q w).2.length/\(∀ x,x < w.length->(Ju Q w).2[x]?=w[x]?)/\∀ x,w.length<=x->x < (Ju Q w).2.length->∃ l,(Ju Q w).2[x]?=some (.lst l)/\l.length<=50000
  | [],w,_=>⟨Nat.le_refl _,fun _ _=>rfl,fun x h1 h2=>by exact absurd h2 (Nat.not_lt.mpr h1)⟩
  | q::Q,w,hq=>by
    have sub:∀ x∈Q,x.2.2.pairs.length<=50000:=fun x hx=>hq x (List.mem_cons_of_mem _ hx)
    unfold Ju
    split
    . obtain ⟨a,b,c⟩:=KN Q (w++[.lst (prD q.2.2.pairs)]) sub
      simp only [List.length_append,List.length_cons,List.length_nil] at a b c
      refine ⟨by dsimp only;omega,fun x hx=>(b x (by omega)).trans (List.getElem?_append_left hx),fun x h1 h2=>?_⟩
      by_cases e:x=w.length
      . subst e
        refine ⟨prD q.2.2.pairs,(b _ (by omega)).trans (by simp),?_⟩
        rw [qJ];exact hq q (List.mem_cons_self ..)
      . exact c x (by omega) h2
    . exact KN Q w sub
section
variable {w:Hs} {ds:List TR.Deed} {s:TR.St} {L:Nat->Nat} {Q:Dn}
theorem kM (A:WB w ds s L Q) (h8:w[8]?=some (.lst (Jw Q))) (hq:Q.length < 900) (hp:∀ x∈Q,x.2.2.pairs.length<=50000):∃ w',Zy [.ref 2,.ref 8] w=some (.bl true,w')/\w.length<=w'.length/\∀ x,x < w.length->w'[x]?=w[x]?:=by
 obtain ⟨u1,u2,u3⟩:=KN Q w hp
 have e:=Qae A (by omega)
 have tl:=Vg Q w
 let T:=(Ju Q w).2.length
 let told:=(Ju Q w).1
 let W:Hs:=(Ju Q w).2++[.lst told]
 have wT:W[T]?=some (.lst told):=by simp [W,T]
 have wW:∀ x z,(Ju Q w).2[x]?=some z->W[x]?=some z:=fun x z h=>(List.getElem?_append_left (List.getElem?_eq_some_iff.mp h).1).trans h
 have old:∀ x,x < w.length->W[x]?=w[x]?:=fun x hx=>(List.getElem?_append_left (by omega)).trans (u2 x hx)
 have l8:8 < w.length:=(List.getElem?_eq_some_iff.mp h8).1
 have w8:W[8]?=some (.lst (Jw Q)):=(old 8 l8).trans h8
 have it:=xK Q w W wW
 let E:Sl->Sl->Sl->En:=fun z2 z3 z4=>[.val (.ref 2),.val (.ref 8),z2,z3,z4]
 have s1:QM 2 (QD "Weaver" "answers" 1 JP (Qb 0) Qn) (E .un .un .un) w=some ((.nx,E (.val (.ref T)) .un .un),W):=Q0 (Q6 (Qe rfl) A.hv (QhO _) za rfl e)
 have sm:QT 6 [.ref T,.ref 8] W=some (.bl true,W):=Kq 5 (.inr ⟨T,rfl,wT⟩) (.inr ⟨8,rfl,w8⟩) (by rw [Vq];exact tl) (by show (Ju Q w).1.length < 100000;omega) fun i a b ha hb=>by
  obtain ⟨q,d,g1,rfl,g3⟩:=it i a ha
  unfold Jw at hb
  rw [List.getElem?_map,g1] at hb
  cases hb
  refine Kr 4 (xt 3 _ W) ?_
  unfold Vf
  rcases g3 with ⟨b1,p,rfl,_,_,b4⟩ | ⟨b1,rfl⟩
  ·rw [b1,if_pos rfl]
   exact uZ 1 (.inr ⟨p,rfl,b4⟩) (by have:=hp q (List.mem_of_getElem? g1);omega)
  ·rw [b1,if_neg (by simp)]
   exact QcJ 3 _ W
 have s2:sIf (Xc (eB (QH 2 (QT 6) (Qc (Qb 2) (Qc (Qb 1) (Qn)))))) (QN (eC (.bl false))) (Zf) (E (.val (.ref T)) .un .un) W=some ((.nx,E (.val (.ref T)) .un .un),W):=(QF (X7 (b:=true) (QR (ZJ (ZH (Qe rfl) (Qe rfl)) rfl sm)))).trans nil_at
 have M:WP (qB (nxW T) (fun d env=>do let env' <- gT [3,4] d env;Xs env') 100000 0 (E (.val (.ref T)) .un .un)) W fun q w'=>(∃ z3 z4,q=(.nx,E (.val (.ref T)) z3 z4))/\w'.length=W.length/\(∀ x,x < w.length->w'[x]?=w[x]?)/\w'[T]?=some (.lst told):=by
  refine KK told (fun i env w'=>(∃ z3 z4,env=E (.val (.ref T)) z3 z4)/\w'.length=W.length/\(∀ x,x < w.length->w'[x]?=w[x]?)/\w'[T]?=some (.lst told)/\∀ x,w.length<=x->x < T->∃ l,w'[x]?=some (.lst l)/\l.length<=50000+i) (by show (Ju Q w).1.length < 100000;omega) (fun i env hp hi h=>YS h.2.2.2.1 i) ⟨⟨_,_,rfl⟩,rfl,old,wT,fun x h1 h2=>by
   obtain ⟨l,h3,h4⟩:=u3 x h1 h2
   exact ⟨l,wW x _ h3,h4⟩⟩ (fun i d hd env w' h=>?_) (fun env w' h=>by obtain ⟨⟨z3,z4,e⟩,a,b,c,_⟩:=h;exact ⟨⟨z3,z4,by rw [e]⟩,a,b,c⟩)
  obtain ⟨⟨z3,z4,rfl⟩,a1,a2,a3,a4⟩:=h
  have li:i < told.length:=(List.getElem?_eq_some_iff.mp hd).1
  have li2:i < 1000:=by
   have:i < (Ju Q w).1.length:=li
   omega
  obtain ⟨q,d',g1,rfl,g3⟩:=it i d hd
  let E2:En:=E (.val (.ref T)) (.val (.int q.1)) (.val d')
  rcases g3 with ⟨b1,p,rfl,b2,b3,b4⟩ | ⟨b1,rfl⟩
  ·obtain ⟨l,c1,c2⟩:=a4 p b2 b3
   have t:eB (XG "list" (Qb 4)) E2 w'=some (true,w'):=QR (QdE (Qe rfl) c1)
   have dr:Zu (Jf "list" Zh (Qb 4) (Qc (Zg (Qc (eC (.int 0)) (Qc (eC (.int 0)) (Qn)))) (Qn))) E2 w'=some ((.nx,E2),w'.set p (.lst (l++[.tup [.int 0,.int 0]]))):=ZX (Yg (Qe rfl) c1 (ZY (ZH rfl rfl) (by simp)) (by omega))
   refine ⟨(.nx,E2),w'.set p (.lst (l++[.tup [.int 0,.int 0]])),(Zl t).trans dr,⟨_,_,rfl⟩,by rw [List.length_set];exact a1,fun x hx=>?_,?_,fun x h1 h2=>?_⟩
   ·rw [QI _ _ _ _ (by omega)];exact a2 x hx
   ·rw [QI _ _ _ _ (by show p≠(Ju Q w).2.length;omega)];exact a3
   ·by_cases ex:x=p
    ·subst ex
     exact ⟨_,gss c1,by simp;omega⟩
    ·obtain ⟨l',h3,h4⟩:=a4 x h1 h2
     exact ⟨l',gs (Ne.symm ex) h3,by omega⟩
  ·have t:eB (XG "list" (Qb 4)) E2 w'=some (false,w'):=QR (by
    unfold XG
    rw [Qg (Qe (d:=opt q.2.2.worth) rfl)]
    cases q.2.2.worth<;>rfl)
   refine ⟨(.nx,E2),w',(QF t).trans nil_at,⟨_,_,rfl⟩,a1,a2,a3,fun x h1 h2=>?_⟩
   obtain ⟨l',h3,h4⟩:=a4 x h1 h2
   exact ⟨l',h3,by omega⟩
 obtain ⟨q,w',em,⟨z3,z4,rfl⟩,m1,m2,m3⟩:=M
 have s3:Jt (E (.val (.ref T)) .un .un) W=some ((.nx,E (.val (.ref T)) z3 z4),w'):=by
  unfold Jt YE
  rw [Qg (xI (n:=T) (Qe rfl) wT)];exact em
 have s4:Zu (Jf "list" Zh (Qb 2) (Qc (Zg (Qc (eC (.int 0)) (Qc (eC .non) (Qn)))) (Qn))) (E (.val (.ref T)) z3 z4) w'=some ((.nx,E (.val (.ref T)) z3 z4),w'.set T (.lst (told++[.tup [.int 0,.non]]))):=ZX (Yg (Qe rfl) m3 (ZY (ZH rfl rfl) (by simp)) (by show (Ju Q w).1.length < 100000;omega))
 refine ⟨_,Qy (env:=E (.val (.ref T)) z3 z4) ((Qj s1).trans ((Qj s2).trans ((Qj s3).trans ((Qj s4).trans (QB rfl))))),?_,fun x hx=>?_⟩
 ·rw [List.length_set,m1]
  show w.length<=((Ju Q w).2++[OV.lst told]).length
  simp;omega
 ·rw [QI _ _ _ _ (by show (Ju Q w).2.length≠x;omega)];exact m2 x hx
end
theorem Qdo (ns:List Int) (k:Nat) (hl:ns.length<=63):∃ x,Jr [.lst (ns.map .int),.int k]=pure (.int x):=by
 by_cases h:k < ns.length
 ·have a:=qv (xs:=ns.map DV.int) (j:=k) (v:=.int ns[k]) (by simp [h])
  refine ⟨ns[k],?_⟩
  have h':(k:Int) < (ns.length:Int):=by omega
  simp [Jr,YN,Q5,Qr,QM,QN,YF,sIf,Zf,VT,yS,VR,VS,Qk,Qb,eC,eB,asB,qA,eOr,Xc,J0,Vt,Y6,eIf,X6,Qn,Qc,Zg,Yw,QH,ZB,Qv,gN,Jn,JL,Jz,JA,JW,JT,JH,qT,zy,VP,Z6,Xl,qG,ixD,asI,a,h']
 ·have h':¬ (k:Int) < (ns.length:Int):=by omega
  exact ⟨0,by simp [Jr,YN,Q5,Qr,QM,QN,YF,sIf,Zf,VT,yS,VR,VS,Qk,Qb,eC,eB,asB,qA,eOr,Xc,J0,Vt,Y6,eIf,X6,Qn,Qc,Zg,Yw,QH,ZB,Qv,gN,Jn,JL,Jz,JA,JW,JT,JH,qT,zy,VP,Z6,Xl,qG,h']⟩
theorem qx {c k:Int} (h:Jv c) (hk:0 < k):Jv (c / k):=Qak (by
 have:=PySem.natAbs_fdiv_le c k
 rwa [Int.fdiv_eq_ediv_of_nonneg _ (by omega)] at this) h
theorem QdM {x y:Int} (hx:Jv x) (hy:Jv y):QdL (.int x) (.int y)=pure (.int (x * y)):=by
 have:QeP x y=true:=decide_eq_true ⟨hx,hy⟩
 simp [QdL,qD,this]
theorem Qh8:YT (.int 1000000007) (.int 3)=pure (.int 1000000021000000147000000343):=rfl
theorem QbV (c:Int) (h:Jv c) (hp:Hs):∃ k,Xu [.int c] hp=some (.int k,hp):=by
  have d6:=Zx (Xh c 6 (by decide) (by decide)) hp
  have m6:=Zx (Jo c 6 (by decide)) hp
  let E:En:=[.val (.int c),.val (.int (c / 6))]
  have s1:QM 1 (Qk Yq (Qb 0) (eC (.int 6))) [.val (.int c),.un] hp=some ((.nx,E),hp):=Q0 (Ql (Qe rfl) rfl d6)
  have t:∀ i:Int,eB (Qk eqD (Qk Xq (Qb 0) (eC (.int 6))) (eC (.int i))) E hp=some (c % 6==i,hp):=fun i=>QR (Ql (Ql (Qe rfl) rfl m6) rfl (Zx (Z6 _ _) _))
  have p30:Qk YT (eC (.int 10)) (eC (.int 30)) E hp=some (.int 1000000000000000000000000000000,hp):=Ql rfl rfl (Zx qT _)
  have hb:Jv (1000000021000000147000000343:Int):=by decide
  have m1:=Zx (QdM (qx h (k:=6) (by decide)) hb) hp
  have m2:=Zx (Jo (c / 6 * 1000000021000000147000000343) (2 * 1000000000000000000000000000000+1) (by decide)) hp
  have m3:=Zx (Qcb 2 1000000000000000000000000000000 (by decide) (by decide)) hp
  have m4:=Zx (Jo (c / 6) 4 (by decide)) hp
  have m17:=Zx (Jo (c / 6) 17 (by decide)) hp
  cases h0:(c % 6==0) with
  | true =>
    exact ⟨_,Qy (env:=E) ((Qj s1).trans (Zi ((Zl ((t 0).trans (by rw [h0]))).trans (QB (Ql (Ql (Ql (Qe rfl) (Ql rfl rfl (Zx Qh8 _)) m1) (Ql (Ql rfl p30 m3) rfl rfl) m2) p30 rfl)))))⟩
  | false =>
    cases h1:(c % 6==1) with
    | true =>
      have g0:0<=c / 6 % 4:=Int.emod_nonneg _ (by decide)
      have g1:c / 6 % 4 < 4:=Int.emod_lt_of_pos _ (by decide)
      have nn:X6 (Qk YT (eC (.int 10)) (eC (.int 30))) E hp=some (.int (-1000000000000000000000000000000),hp):=rfl
      obtain ⟨v,hv⟩:∃ v:Int,ixD (.lst [.int 1000000000000000000000000000000,.int (-1000000000000000000000000000000),.int (1000000000000000000000000000000 - 1),.int (1 - 1000000000000000000000000000000)]) (.int (c / 6 % 4)) hp=some (.int v,hp):=by
        rcases (by omega:c / 6 % 4=0∨c / 6 % 4=1∨c / 6 % 4=2∨c / 6 % 4=3) with q | q | q | q<;>rw [q]<;>exact ⟨_,rfl⟩
      have ls:Yw (Qc (Qk YT (eC (.int 10)) (eC (.int 30))) (Qc (X6 (Qk YT (eC (.int 10)) (eC (.int 30)))) (Qc (Qk xG (Qk YT (eC (.int 10)) (eC (.int 30))) (eC (.int 1))) (Qc (Qk xG (eC (.int 1)) (Qk YT (eC (.int 10)) (eC (.int 30)))) (Qn))))) E hp=some (.lst [.int 1000000000000000000000000000000,.int (-1000000000000000000000000000000),.int (1000000000000000000000000000000 - 1),.int (1 - 1000000000000000000000000000000)],hp):=rfl
      exact ⟨v,Qy (env:=E) ((Qj s1).trans ((Qj ((QF ((t 0).trans (by rw [h0]))).trans nil_at)).trans (Zi ((Zl ((t 1).trans (by rw [h1]))).trans (QB (Ql ls (Ql (Qe rfl) rfl m4) hv))))))⟩
    | false =>
      exact ⟨_,Qy (env:=E) ((Qj s1).trans ((Qj ((QF ((t 0).trans (by rw [h0]))).trans nil_at)).trans ((Qj ((QF ((t 1).trans (by rw [h1]))).trans nil_at)).trans (QB (Ql (Ql (Qe rfl) rfl m17) rfl rfl)))))⟩
theorem QcZ (r:Nat) (h:2<=r):TR.Tree ⟨r,[⟨0,[],[],none,none⟩],0,0,0⟩ (fun _=>none):=by
 have one:∀ (n:Nat) (p:TR.Pg),([⟨0,[],[],none,none⟩]:List TR.Pg)[n]?=some p->n=0/\p=⟨0,[],[],none,none⟩:=fun n p hp=>by
  match n,hp with
  | 0,hp=>cases hp;exact ⟨rfl,rfl⟩
  | n+1,hp=>simp at hp
 refine ⟨h,⟨_,rfl,fun n p hp=>?_⟩,rfl,fun n p hp=>?_,fun n p hp=>?_,fun n p hp h0=>?_,fun n m p q hn hm _ e=>?_,fun n p hp v hv=>(by cases hv)⟩
 ·rw [(one n p hp).2];exact Nat.le_refl _
 ·rw [(one n p hp).2]
  exact ⟨List.Pairwise.nil,Nat.zero_le _,rfl,fun k hk=>(by cases hk),fun _ k hk=>(by cases hk),fun k hk=>(by cases hk),fun h hh=>(by cases hh)⟩
 ·rw [(one n p hp).2];exact .inl ⟨rfl,rfl⟩
 ·rw [(one n p hp).2] at h0;exact absurd h0 (by decide)
 ·exact absurd ((one n p hn).1.trans (one m q hm).1.symm) e
theorem Qfj (c:Int) (h:Jv c) (hp:Hs):∃ d,Yl [.int c] hp=some (QU d,hp):=by
  have m9:=Zx (Jo c 9 (by decide)) hp
  have d9:=Zx (Xh c 9 (by decide) (by decide)) hp
  have d37:=Zx (Xh c 37 (by decide) (by decide)) hp
  have d131:=Zx (Xh c 131 (by decide) (by decide)) hp
  obtain ⟨k,ke⟩:=QbV (c / 9) (qx h (by decide)) hp
  obtain ⟨x,xe⟩:=QbV (c / 37) (qx h (by decide)) hp
  obtain ⟨y,ye⟩:=QbV (c / 131) (qx h (by decide)) hp
  let E:Sl->En:=fun z=>[.val (.int c),.val (.int (c % 9)),.val (.int k),z]
  have s1:QM 1 (Qk Xq (Qb 0) (eC (.int 9))) [.val (.int c),.un,.un,.un] hp=some ((.nx,[.val (.int c),.val (.int (c % 9)),.un,.un]),hp):=Q0 (Ql (Qe rfl) rfl m9)
  have s2:QM 2 (QH 1 Xu (Qc (Qk Yq (Qb 0) (eC (.int 9))) (Qn))) [.val (.int c),.val (.int (c % 9)),.un,.un] hp=some ((.nx,E .un),hp):=Q0 (ZJ (ZI (Ql (Qe rfl) rfl d9)) rfl ke)
  have t0:eB (Qk eqD (Qb 1) (eC (.int 0))) (E .un) hp=some (c % 9==0,hp):=QR (Ql (Qe rfl) rfl (Zx (Z6 _ _) _))
  have tl:∀ i:Int,eB (Qk ltD (Qb 1) (eC (.int i))) (E .un) hp=some (decide (c % 9 < i),hp):=fun i=>QR (Ql (Qe rfl) rfl rfl)
  cases h0:(c % 9==0) with
  | true=>exact ⟨.find k,Qy (env:=E .un) ((Qj s1).trans ((Qj s2).trans (Zi ((Zl (t0.trans (by rw [h0]))).trans (QB (ZY (ZH rfl (Qe rfl)) (by simp)))))))⟩
  | false =>
    cases h5:decide (c % 9 < 5) with
    | true=>exact ⟨.put k x,Qy (env:=E .un) ((Qj s1).trans ((Qj s2).trans ((Qj ((QF (t0.trans (by rw [h0]))).trans nil_at)).trans (Zi ((Zl ((tl 5).trans (by rw [h5]))).trans (QB (ZY (XX rfl (Qe rfl) (ZJ (ZI (Ql (Qe rfl) rfl d37)) rfl xe)) (by simp))))))))⟩
    | false =>
      cases h7:decide (c % 9 < 7) with
      | true=>exact ⟨.cut k,Qy (env:=E .un) ((Qj s1).trans ((Qj s2).trans ((Qj ((QF (t0.trans (by rw [h0]))).trans nil_at)).trans ((Qj ((QF ((tl 5).trans (by rw [h5]))).trans nil_at)).trans (Zi ((Zl ((tl 7).trans (by rw [h7]))).trans (QB (ZY (ZH rfl (Qe rfl)) (by simp)))))))))⟩
      | false =>
        have s3:QM 3 (QH 1 Xu (Qc (Qk Yq (Qb 0) (eC (.int 131))) (Qn))) (E .un) hp=some ((.nx,E (.val (.int y))),hp):=Q0 (ZJ (ZI (Ql (Qe rfl) rfl d131)) rfl ye)
        obtain ⟨y1,s4⟩:∃ y1:Int,sIf (eB (Qk eqD (Qb 3) (Qb 2))) (QM 3 (Qk xG (Qb 2) (eC (.int 1)))) (Zf) (E (.val (.int y))) hp=some ((.nx,E (.val (.int y1))),hp):=by
          have t:eB (Qk eqD (Qb 3) (Qb 2)) (E (.val (.int y))) hp=some (y==k,hp):=QR (Ql (Qe rfl) (Qe rfl) (Zx (Z6 _ _) _))
          cases e:(y==k) with
          | true=>exact ⟨k - 1,(Zl (t.trans (by rw [e]))).trans (Q0 (Ql (Qe rfl) rfl rfl))⟩
          | false=>exact ⟨y,(QF (t.trans (by rw [e]))).trans nil_at⟩
        obtain ⟨y2,s5⟩:∃ y2:Int,sIf (eB (Qk ltD (Qb 3) (X6 (Qk YT (eC (.int 10)) (eC (.int 30)))))) (QM 3 (Qk Z5 (Qb 2) (eC (.int 1)))) (Zf) (E (.val (.int y1))) hp=some ((.nx,E (.val (.int y2))),hp):=by
          have t:eB (Qk ltD (Qb 3) (X6 (Qk YT (eC (.int 10)) (eC (.int 30))))) (E (.val (.int y1))) hp=some (decide (y1 < -1000000000000000000000000000000),hp):=QR (Ql (y:=.int (-1000000000000000000000000000000)) (Qe rfl) rfl rfl)
          cases e:decide (y1 < -1000000000000000000000000000000) with
          | true=>exact ⟨k+1,(Zl (t.trans (by rw [e]))).trans (Q0 (Ql (Qe rfl) rfl rfl))⟩
          | false=>exact ⟨y1,(QF (t.trans (by rw [e]))).trans nil_at⟩
        obtain ⟨lo,hlo⟩:∃ m:Int,QdK [.int k,.int y2]=pure (.int m):=⟨_,rfl⟩
        obtain ⟨hi,hhi⟩:∃ m:Int,QdJ [.int k,.int y2]=pure (.int m):=⟨_,rfl⟩
        exact ⟨.stretch lo hi,Qy (env:=E (.val (.int y2))) ((Qj s1).trans ((Qj s2).trans ((Qj ((QF (t0.trans (by rw [h0]))).trans nil_at)).trans ((Qj ((QF ((tl 5).trans (by rw [h5]))).trans nil_at)).trans ((Qj ((QF ((tl 7).trans (by rw [h7]))).trans nil_at)).trans ((Qj s3).trans ((Qj s4).trans ((Qj s5).trans (QB (ZY (XX rfl (XS (ZH (Qe rfl) (Qe rfl)) (Zx hlo _)) (XS (ZH (Qe rfl) (Qe rfl)) (Zx hhi _))) (by simp)))))))))))⟩
def ahD (st:Int) (n:Nat):List TR.Deed:=(List.range n).map fun j:Nat=>.put ((j:Int) * st % 47 - 9) (100+j)
theorem Qdg (c:Int) (hp:Hs):∃ ds:List TR.Deed,ds.length<=23/\Yy [.int c] hp=some (.ref hp.length,hp++[.lst (ds.map QU)]):=by
 have d24:=Zx (Xh c 24 (by decide) (by decide)) hp
 have m5:=Zx (Jo (c / 24) 5 (by decide)) hp
 have m24:=Zx (Jo c 24 (by decide)) hp
 have g0:0<=c / 24 % 5:=Int.emod_nonneg _ (by decide)
 have g1:c / 24 % 5 < 5:=Int.emod_lt_of_pos _ (by decide)
 have g2:0<=c % 24:=Int.emod_nonneg _ (by decide)
 have g3:c % 24 < 24:=Int.emod_lt_of_pos _ (by decide)
 obtain ⟨n,hn⟩:=Qcd g2
 obtain ⟨st,hst,s0,s1⟩:∃ st:Int,ixG (.lst [.int 7,.int 11,.int 23,.int 1,.int 46]) (.int (c / 24 % 5)) hp=some (.int st,hp)/\0<=st/\st<=46:=by
  rcases (by omega:c / 24 % 5=0∨c / 24 % 5=1∨c / 24 % 5=2∨c / 24 % 5=3∨c / 24 % 5=4) with q | q | q | q | q<;>rw [q]<;>exact ⟨_,rfl,by decide,by decide⟩
 let E:En:=[.val (.int c),.val (.int st)]
 have u1:QM 1 (Qk ixG (Yw (Qc (eC (.int 7)) (Qc (eC (.int 11)) (Qc (eC (.int 23)) (Qc (eC (.int 1)) (Qc (eC (.int 46)) (Qn))))))) (Qk Xq (Qk Yq (Qb 0) (eC (.int 24))) (eC (.int 5)))) [.val (.int c),.un] hp=some ((.nx,E),hp):=Q0 (Ql rfl (Ql (Ql (Qe rfl) rfl d24) rfl m5) hst)
 let g:DV->DV:=fun d=>match d with | .int j=>.tup [.str "put", .int (j * st % 47 - 9),.int (100+j)] | _=>.non
 have cx:=U0 (hp:=hp) (t:=fun d=>y0 (cE [1] E d)) (f:=fun d=>Zg (Qc (eC (.str "put")) (Qc (Qk xG (Qk Xq (Qk QaK (Qb 0) (Qb 1)) (eC (.int 47))) (eC (.int 9))) (Qc (Qk Z5 (eC (.int 100)) (Qb 0)) (Qn)))) (cE [1] E d)) (g:=g) (ZR 0 n) (fun _ _=>rfl) (fun d hd=>by
  obtain ⟨j,hj⟩:=List.getElem?_of_mem hd
  obtain ⟨j1,rfl⟩:=kN hj
  exact ZY (XX rfl (Ql (Ql (Ql (x:=.int (j:Int)) (y:=.int st) rfl rfl (Zx (Qcb (j:Int) st (by omega) (by omega)) hp)) rfl (Zx (Jo _ 47 (by decide)) hp)) rfl rfl) (Ql rfl rfl rfl)) (by simp)) (by rw [qK];omega)
 have e:(ZR 0 n).map g=(ahD st n).map QU:=by
  unfold ahD ZR
  rw [List.map_map,List.map_map]
  apply List.map_congr_left
  intro j _
  show g (.int ((0:Nat)+(j:Int)))=QU (.put ((j:Int) * st % 47 - 9) (100+j))
  simp [g,QU]
 rw [e] at cx
 refine ⟨ahD st n,by unfold ahD;simp;omega,Qy (env:=E) ((Qj u1).trans (QB ?_))⟩
 unfold jc Je
 rw [Qg (GM (Ge (m:=n) (ZI ((Ql (Qe rfl) rfl m24).trans (by rw [hn]))) (by omega))),Qg (show Z9 _ _ _ lim 0 hp=_ from cx)];rfl
theorem QeG (S P:OV) (n:Nat) (hn:n<=8):Jx [.ref 2,.ref 0,.int n] [S,P,.ins "Weaver" []]=some (.non,[S,P,.ins "Weaver" (wvF 0),.lst [],.lst (List.replicate n .non),.lst []]):=by
 let E:En:=[.val (.ref 2),.val (.ref 0),.val (.int n)]
 let w:List (Str×DV)->Hs->Hs:=fun fs t=>S::P::.ins "Weaver" fs::t
 have st:∀ (nm:Str) (e:DEx) (v:DV) (fs:List (Str×DV)) (t t':Hs),e E (w fs t)=some (v,w fs t')->fs.length < 1000->Q8 "Weaver" nm (Qb 0) e E (w fs t)=some ((.nx,E),w (JI nm v fs) t'):=fun nm e v fs t t' he hl=>by
  rw [Jb he (Qe rfl) rfl hl];rfl
 have ml:Qk Qcc (Yw (Qc (eC .non) (Qn))) (Qb 2) E (w [("shelf", .ref 0),("deeds", .ref 3),("taken", .int 0)] [.lst []])=some (.ref 4,w [("shelf", .ref 0),("deeds", .ref 3),("taken", .int 0)] [.lst [],.lst (List.replicate n .non)]):=by
  refine Ql (x:=.lst [.non]) (y:=.int n) rfl (Qe rfl) ?_
  unfold Qcc
  show (Qv (decide (0<=(n:Int)/\(n:Int).toNat<=100000)) >>= fun _=>Xf (.lst (List.replicate (n:Int).toNat .non)):M DV) _=_
  rw [decide_eq_true ⟨by omega,by omega⟩];rfl
 refine Gy (env:=E) ?_
 refine (Qj (st "shelf" _ (.ref 0) [] [] [] (Qe rfl) (by decide))).trans ?_
 refine (Qj (st "deeds" _ (.ref 3) [("shelf", .ref 0)] [] [.lst []] rfl (show (1:Nat) < 1000 by decide))).trans ?_
 refine (Qj (st "taken" _ (.int 0) [("shelf", .ref 0),("deeds", .ref 3)] [.lst []] [.lst []] rfl (show (2:Nat) < 1000 by decide))).trans ?_
 refine (Qj (st "held" _ (.ref 4) [("shelf", .ref 0),("deeds", .ref 3),("taken", .int 0)] [.lst []] [.lst [],.lst (List.replicate n .non)] ml (show (3:Nat) < 1000 by decide))).trans ?_
 exact st "done" _ (.ref 5) [("shelf", .ref 0),("deeds", .ref 3),("taken", .int 0),("held", .ref 4)] [.lst [],.lst (List.replicate n .non)] [.lst [],.lst (List.replicate n .non),.lst []] rfl (show (4:Nat) < 1000 by decide)
section
variable {w:Hs} {s:TR.St} {L:Nat->Nat} {ds:List TR.Deed} {bg:TR.Bg} {B H:Nat} {Q:Dn} {kvs:List (Key×DV)}
theorem WB.hand (A:WB w ds s L Q) (d:TR.Deed):WB (w.set 3 (.lst ((ds++[d]).map QU))) (ds++[d]) s L Q:=by
 obtain ⟨a,b1,c1⟩:=A.hh
 exact ⟨gs (by decide) A.h1,gs (by decide) A.h2,gs (by decide) A.hv,gss A.hd,⟨a,gs (by decide) b1,c1⟩,gs (by decide) A.hn,A.hq,fun i v hi hv=>by
  obtain ⟨p1,p2,p3,p4⟩:=A.ob i v hi hv
  exact ⟨gs (by omega) p1,gs (by omega) p2,gs (by omega) p3,p4⟩,A.dj,fun x hx=>by
  obtain ⟨p1,p2,p3,p4,p5⟩:=A.od x hx
  exact ⟨gs (by omega) p1,gs (by omega) p2,p3,p4,p5⟩⟩
theorem U8:∀ (rest pre:List TR.Deed) (fuel:Nat) (w:Hs) (e0 e1 e2 e4 e5 e6 z7 e8 e9:Sl),w[6]?=some (.lst ((pre++rest).map QU))->w[2]?=some (.ins "Weaver" (wvF 0))->w[3]?=some (.lst (pre.map QU))->(pre++rest).length<=60->rest.length < fuel ->
    ∃ y7,qB (nxW 6) (fun d env=>gN 7 d env >>= fun env'=>j2 env') fuel pre.length [e0,e1,e2,.val (.ref 2),e4,e5,e6,z7,e8,e9] w=some ((.nx,[e0,e1,e2,.val (.ref 2),e4,e5,e6,y7,e8,e9]),w.set 3 (.lst ((pre++rest).map QU)))
  | [],pre,fuel,w,e0,e1,e2,e4,e5,e6,z7,e8,e9,h6,h2,h3,hl,hf=>by
    obtain ⟨g,rfl⟩:∃ g,fuel=g+1:=⟨fuel - 1,by omega⟩
    have x:=YS h6 pre.length
    rw [List.getElem?_eq_none (by simp)] at x
    refine ⟨z7,?_⟩
    rw [qB,Qg x,List.append_nil,YK h3];rfl
  | d::rest,pre,fuel,w,e0,e1,e2,e4,e5,e6,z7,e8,e9,h6,h2,h3,hl,hf=>by
    obtain ⟨g,rfl⟩:∃ g,fuel=g+1:=⟨fuel - 1,by omega⟩
    have x:=YS h6 pre.length
    rw [List.getElem?_map,List.getElem?_append_right (Nat.le_refl _),Nat.sub_self] at x
    have hl':pre.length+(rest.length+1)<=60:=by simpa using hl
    let E:Sl->En:=fun z=>[e0,e1,e2,.val (.ref 2),e4,e5,e6,z,e8,e9]
    have hd:=QbM (d:=QU d) h2 h3 (by rw [List.length_map];omega)
    have b:j2 (E (.val (QU d))) w=some ((.nx,E (.val (QU d))),w.set 3 (.lst ((pre++[d]).map QU))):=(ZX (Q6 (Qe rfl) h2 (Qe6 _) (ZI (Qe rfl)) rfl hd)).trans (by rw [List.map_append];rfl)
    obtain ⟨y7,e⟩:=U8 rest (pre++[d]) g (w.set 3 (.lst ((pre++[d]).map QU))) e0 e1 e2 e4 e5 e6 (.val (QU d)) e8 e9 (by rw [List.append_assoc];exact gs (by decide) h6) (gs (by decide) h2) (gss h3) (by rw [List.append_assoc];exact hl) (by simp at hf;omega)
    refine ⟨y7,?_⟩
    rw [qB,Qg x]
    simp only [List.getElem?_cons_zero,Option.map_some]
    have bb:(gN 7 (QU d) [e0,e1,e2,.val (.ref 2),e4,e5,e6,z7,e8,e9] >>= fun env'=>j2 env') w=some ((.nx,E (.val (QU d))),w.set 3 (.lst ((pre++[d]).map QU))):=b
    rw [Qg bb]
    rw [List.length_append,List.set_set,List.append_assoc] at e
    exact e
theorem Nt.more (N:Nt ds s Q kvs) (ds':List TR.Deed):Nt ds' s Q kvs:=⟨N.lv,N.un,N.qd,N.qt,N.cn,N.nw⟩
theorem Qfe (A:WB w ds s L Q) (N:Nt ds s Q kvs) (K:Kx s.tk Q kvs) (h6:w[6]?=some (.lst (ds.map QU))) (h7:w[7]?=some (.dic kvs)) (h8:w[8]?=some (.lst (Jw Q))) (Y:TR.StOk ds s bg (fun _=>B)) (hH0:0 < H) (hH8:H<=8) (hl:s.ws.length=H) (hB:B<=8000) (ns:List Int) {k:Nat} {c:Int} (hk:ns[k]?=some c) (hc:Jv c) (hd:ds.length<=47) (hdk:k < 24->ds.length<=46) (e1 e7 e8:Sl) :
    ∃ w' ds' s' L' Q' kvs' bg', Gk [.val (.lst (ns.map .int)), e1, .val (.int (H : Nat)), .val (.ref 2), .val (.ref 6), .val (.ref 7), .val (.ref 8), e7, e8, .val (.int k)] w = some ((.nx, [.val (.lst (ns.map .int)), e1, .val (.int (H : Nat)), .val (.ref 2), .val (.ref 6), .val (.ref 7), .val (.ref 8), e7, e8, .val (.int k)]), w') /\
      WB w' ds' s' L' Q'/\Nt ds' s' Q' kvs'/\Kx s'.tk Q' kvs'/\w'[6]?=some (.lst (ds'.map QU))/\w'[7]?=some (.dic kvs')/\w'[8]?=some (.lst (Jw Q'))/\TR.StOk ds' s' bg' (fun _=>B+1)/\s'.ws.length=H/\ds'.length=ds.length+(if k < 24 then 1 else 0)/\ds'.length - s'.tk<=ds.length - s.tk+(if k < 24 then 1 else 0):=by
  let E:En:=[.val (.lst (ns.map .int)),e1,.val (.int (H:Nat)),.val (.ref 2),.val (.ref 6),.val (.ref 7),.val (.ref 8),e7,e8,.val (.int k)]
  have sc:∀ (w:Hs),Qk ixG (Qb 0) (Qb 9) E w=some (.int c,w):=fun w=>by
    refine Ql (x:=.lst (ns.map .int)) (y:=.int (k:Int)) (Qe rfl) (Qe rfl) ?_
    have a:=qv (xs:=ns.map DV.int) (j:=k) (v:=.int c) (by rw [List.getElem?_map,hk];rfl)
    show (ixD (.lst (ns.map .int)) (.int (k:Int))) w=_
    simp only [ixD,asI,pure_bind,a];rfl
  obtain ⟨w1,ds',u1,A1,i6,i7,i8,Y1,dl⟩:∃ w1 ds',sIf (eB (Qk ltD (Qb 9) (eC (.int 24)))) (Qr (Zu (Jf "list" Zh (Qb 4) (Qc (QH 1 Yl (Qc (Qk ixG (Qb 0) (Qb 9)) (Qn))) (Qn)))) (Zu (QD "Weaver" "hand_in" 2 ZV (Qb 3) (Qc (Qk ixG (Qb 4) (X6 (eC (.int 1)))) (Qn))))) (Zf) E w=some ((.nx,E),w1)/\WB w1 ds' s L Q/\w1[6]?=some (.lst (ds'.map QU))/\w1[7]?=some (.dic kvs)/\w1[8]?=some (.lst (Jw Q))/\TR.StOk ds' s bg (fun _=>B)/\ds'.length=ds.length+(if k < 24 then 1 else 0):=by
    by_cases h24:k < 24
    . obtain ⟨d,de⟩:=Qfj c hc w
      have t:eB (Qk ltD (Qb 9) (eC (.int 24))) E w=some (true,w):=QR (Ql (x:=.int (k:Int)) (Qe rfl) rfl (show some (DV.bl (decide ((k:Int) < 24)),w)=_ by rw [decide_eq_true (by omega)]))
      let w0:Hs:=w.set 6 (.lst ((ds++[d]).map QU))
      have a1:Jf "list" Zh (Qb 4) (Qc (QH 1 Yl (Qc (Qk ixG (Qb 0) (Qb 9)) (Qn))) (Qn)) E w=some (.non,w0):=(Yg (Qe rfl) h6 (ZJ (ZI (sc _)) rfl de) (by rw [List.length_map];omega)).trans (by show some (DV.non,w.set 6 (.lst (ds.map QU++[QU d])))=some (DV.non,w.set 6 (.lst ((ds++[d]).map QU)));rw [List.map_append];rfl)
      have A0:WB w0 ds s L Q:=A.put (by decide)
      have h60:w0[6]?=some (.lst ((ds++[d]).map QU)):=gss h6
      have hn:=QbM (d:=QU d) A0.hv A0.hd (by rw [List.length_map];omega)
      have last:Qk ixG (Qb 4) (X6 (eC (.int 1))) E w0=some (QU d,w0):=by
        refine Ql (x:=.ref 6) (y:=.int (-1)) (Qe rfl) rfl ?_
        show (ZG 6 >>= _) w0=_
        rw [Qg (Zn h60)]
        show (zx (atI ((ds++[d]).map QU) (-1))) w0=_
        rw [List.map_append,show ([d].map QU)=[QU d] from rfl,Qbf];rfl
      have a2:QD "Weaver" "hand_in" 2 ZV (Qb 3) (Qc (Qk ixG (Qb 4) (X6 (eC (.int 1)))) (Qn)) E w0=some (.int (ds.length:Nat),w0.set 3 (.lst ((ds++[d]).map QU))):=(Q6 (Qe rfl) A0.hv (Qe6 _) (ZI last) rfl hn).trans (by rw [List.length_map,List.map_append];rfl)
      exact ⟨_,ds++[d],(Zl t).trans ((Qj (ZX a1)).trans (ZX a2)),A0.hand d,gs (by decide) h60,gs (by decide) (gs (by decide) h7),gs (by decide) (gs (by decide) h8),Y.more d,by rw [if_pos h24];simp⟩
    . have t:eB (Qk ltD (Qb 9) (eC (.int 24))) E w=some (false,w):=QR (Ql (x:=.int (k:Int)) (Qe rfl) rfl (show some (DV.bl (decide ((k:Int) < 24)),w)=_ by rw [decide_eq_false (by omega)]))
      exact ⟨w,ds,(QF t).trans nil_at,A,h6,h7,h8,Y,by rw [if_neg h24];omega⟩
  have hd60:ds'.length<=60:=by rw [dl];split<;>omega
  have g0:0<=c / 3 % (H:Int):=Int.emod_nonneg _ (by omega)
  have g1:c / 3 % (H:Int) < H:=Int.emod_lt_of_pos _ (by omega)
  obtain ⟨i,hi⟩:=Qcd g0
  rw [hi] at g1
  have hiH:i < s.ws.length:=by omega
  have d3:=Zx (Xh c 3 (by decide) (by decide)) w1
  have mH:=Zx (Jo (c / 3) (H:Int) (by omega)) w1
  rw [hi] at mH
  have ei:Qk Xq (Qk Yq (Qk ixG (Qb 0) (Qb 9)) (eC (.int 3))) (Qb 2) E w1=some (.int (i:Int),w1):=Ql (Ql (sc _) rfl d3) (Qe rfl) mH
  obtain ⟨o,s',bg',em,Y2,l2,t2,_⟩:=TR.kA Y1 hiH
  have l8:8 < w1.length:=(List.getElem?_eq_some_iff.mp i8).1
  obtain ⟨w2,L2,Q2,e2,A2,F2,q2⟩:=Qca A1 Y1 hiH hd60 l8 (by show B<=9000;omega) em
  have o2:∀ x,x=6∨x=7∨x=8->w2[x]?=w1[x]?:=fun x hx=>F2.old x (by omega) (by unfold CW;omega) fun i u a1 a2=>.inl (by have:=(A1.ob i u a1 a2).2.2.2;omega)
  obtain ⟨ne,N2,K2⟩:=Ki (w:=w2) (N.more ds') K Y1 hd60 hiH (by show B<=9000;omega) em q2 ((o2 7 (by decide)).trans i7) ((o2 8 (by decide)).trans i8)
  let w3:Hs:=(w2.set 7 (.dic (JB kvs o))).set 8 (.lst (Jw Q2))
  have A3:WB w3 ds' s' L2 Q2:=(A2.put (by decide)).put (by decide)
  have j6:w3[6]?=some (.lst (ds'.map QU)):=gs (by decide) (gs (by decide) ((o2 6 (by decide)).trans i6))
  have j7:w3[7]?=some (.dic (JB kvs o)):=gs (by decide) (gss ((o2 7 (by decide)).trans i7))
  have j8:w3[8]?=some (.lst (Jw Q2)):=gss (gs (by decide) ((o2 8 (by decide)).trans i8))
  have tk:=Y2.tk
  have cn:=N2.cn
  obtain ⟨w4,e4,_,o4⟩:=kM A3 j8 (by omega) K2.pl
  have k8:8 < w3.length:=(List.getElem?_eq_some_iff.mp j8).1
  have u2:Zu (QH 4 Z4 (Qc (QD "Weaver" "move" 2 ZE (Qb 3) (Qc (Qk Xq (Qk Yq (Qk ixG (Qb 0) (Qb 9)) (eC (.int 3))) (Qb 2)) (Qn))) (Qc (Qb 4) (Qc (Qb 5) (Qc (Qb 6) (Qn)))))) E w1=some ((.nx,E),w3):=ZX (ZJ (gB (Q6 (Qe rfl) A1.hv (Qe4 _) (ZI ei) rfl e2) (Qe rfl) (Qe rfl) (Qe rfl)) rfl ne)
  have u3:sIf (Xc (eB (QH 2 Zy (Qc (Qb 3) (Qc (Qb 6) (Qn)))))) (QN (eC (.bl false))) (Zf) E w3=some ((.nx,E),w4):=(QF (X7 (b:=true) (QR (ZJ (ZH (Qe rfl) (Qe rfl)) rfl e4)))).trans nil_at
  refine ⟨w4,ds',s',L2,Q2,JB kvs o,bg',(Qj u1).trans ((Qj u2).trans u3),A3.keep o4,N2,K2,(o4 6 (by omega)).trans j6,(o4 7 (by omega)).trans j7,(o4 8 k8).trans j8,Y2.mono fun j _=>?_,by rw [l2];exact hl,dl,?_⟩
  . show (if j=i then B+1 else B)<=B+1
    split<;>omega
  . rw [dl];split<;>omega
end
theorem zN:∀ ns:List Int,ze (ns.map .int)=some ns
 | []=>rfl
 | n::ns=>by show (ze (ns.map .int)).map (n :: ·)=_;rw [zN ns];rfl
theorem QcT {ns:List Int} (h:ns.length < 64) {f:DEx} {env:En} {hp:Hs} (hf:f env hp=some (.lst (ns.map .int),hp)):ZB kR (Qc f Qn) env hp=some (.lst ((srt ns).map .int),hp):=by
 refine XS (ZI hf) ?_
 show (QbR (.lst (ns.map .int)) >>= _) hp=_
 have e:QbR (.lst (ns.map .int)) hp=some (ns,hp):=by
  show uQ (ze (ns.map .int)) hp=_
  rw [zN];rfl
 rw [Qg e]
 show (Qv (decide (ns.length < 64)) >>= _) hp=_
 rw [decide_eq_true h];rfl
theorem Qa4 {l:List Nat} {n:Nat} (nd:l.Nodup) (hb:∀ x∈l,x < n) (hl:l.length=n):srt (l.map fun (x:Nat)=>(x:Int))=(List.range n).map fun (x:Nat)=>(x:Int):=by
 have mem:∀ x,x < n->x∈l:=fun x hx=>Decidable.byContradiction fun hn=>by
  have:=TR.Js (l:=x::l) (m:=List.range n) (List.nodup_cons.mpr ⟨hn,nd⟩) fun y hy=>by
   rcases List.mem_cons.mp hy with rfl | hy
   ·exact List.mem_range.mpr hx
   ·exact List.mem_range.mpr (hb y hy)
  simp at this
  omega
 have p:(List.range n).Perm l:=by
  rw [List.perm_iff_count]
  intro a
  rw [(List.nodup_range).count,nd.count]
  by_cases h:a < n
  ·rw [if_pos (List.mem_range.mpr h),if_pos (mem a h)]
  ·rw [if_neg (fun h'=>h (List.mem_range.mp h')),if_neg (fun h'=>h (hb a h'))]
 refine (Uc (p.map _) ?_).symm
 rw [List.pairwise_map]
 exact List.Pairwise.imp (fun h=>by omega) (List.pairwise_lt_range (n:=n))
theorem QbZ (ns:List Int) (h:ns.length<=63) (hb:∀ x∈ns,Jv x):∃ hp,GP [.lst (ns.map .int)] []=some (.bl true,hp):=by
 let X:DV:=.lst (ns.map .int)
 obtain ⟨c0,e0⟩:=Qdo ns 0 h
 have e0':=Zx e0
 simp only [Int.natCast_zero] at e0'
 have g0:0<=c0 % 8:=Int.emod_nonneg _ (by decide)
 have g1:c0 % 8 < 8:=Int.emod_lt_of_pos _ (by decide)
 obtain ⟨H,hn,n1,n8⟩:∃ n:Nat,1+c0 % 8=(n:Int)/\1<=n/\n<=8:=⟨(1+c0 % 8).toNat,by omega,by omega,by omega⟩
 have q0:0<=c0 / 8 % 4:=Int.emod_nonneg _ (by decide)
 have q1:c0 / 8 % 4 < 4:=Int.emod_lt_of_pos _ (by decide)
 obtain ⟨r,hr,r2,r5⟩:∃ n:Nat,2+c0 / 8 % 4=(n:Int)/\2<=n/\n<=5:=⟨(2+c0 / 8 % 4).toNat,by omega,by omega,by omega⟩
 have m8:=Zx (Jo c0 8 (by decide)) ([]:Hs)
 have d8:=Zx (Xh c0 8 (by decide) (by decide)) ([]:Hs)
 have m4:=Zx (Jo (c0 / 8) 4 (by decide)) ([]:Hs)
 let S:OV:=.ins "Shelf" (shF r 1 0 0 0)
 let P:OV:=.lst [emp]
 let w6:Hs:=[S,P,.ins "Weaver" (wvF 0),.lst [],.lst (List.replicate H .non),.lst []]
 let E:Sl->Sl->Sl->Sl->Sl->Sl->Sl->En:=fun z1 z2 z3 z4 z5 z6 z7=>[.val X,z1,z2,z3,z4,z5,z6,z7,.un,.un]
 have s1:QM 1 (QH 2 Jr (Qc (Qb 0) (Qc (eC (.int 0)) (Qn)))) (E .un .un .un .un .un .un .un) []=some ((.nx,E (.val (.int c0)) .un .un .un .un .un .un),[]):=Q0 (ZJ (ZH (Qe rfl) rfl) rfl (e0' _))
 have s2:QM 2 (Qk Z5 (eC (.int 1)) (Qk Xq (Qb 1) (eC (.int 8)))) (E (.val (.int c0)) .un .un .un .un .un .un) []=some ((.nx,E (.val (.int c0)) (.val (.int H)) .un .un .un .un .un),[]):=Q0 (Ql rfl (Ql (Qe rfl) rfl m8) (show some (DV.int (1+c0 % 8),[])=some (DV.int H,[]) by rw [hn]))
 let E3:Sl->Sl->Sl->Sl->Sl->En:=fun z3 z4 z5 z6 z7=>E (.val (.int c0)) (.val (.int H)) z3 z4 z5 z6 z7
 have er:Qk Z5 (eC (.int 2)) (Qk Xq (Qk Yq (Qb 1) (eC (.int 8))) (eC (.int 4))) (E3 .un .un .un .un .un) []=some (.int r,[]):=Ql rfl (Ql (Ql (Qe rfl) rfl d8) rfl m4) (show some (DV.int (2+c0 / 8 % 4),[])=some (DV.int r,[]) by rw [hr])
 have mks:J1 "Shelf" 2 Zz (Qc (Qk Z5 (eC (.int 2)) (Qk Xq (Qk Yq (Qb 1) (eC (.int 8))) (eC (.int 4)))) (Qn)) (E3 .un .un .un .un .un) []=some (.ref 0,[S,P]):=by
  unfold J1
  have al:Xf (.ins "Shelf" []) ([]:Hs)=some (.ref 0,[.ins "Shelf" []]):=rfl
  have gd:Qv (decide ([DV.int r].length+1=2)) ([]:Hs)=some ((),[]):=rfl
  rw [Qg (ZI er),Qg gd,Qg al]
  have ii:=QdD r []
  exact (Qg ii).trans rfl
 have s3:QM 3 (J1 "Weaver" 3 Jx (Qc (J1 "Shelf" 2 Zz (Qc (Qk Z5 (eC (.int 2)) (Qk Xq (Qk Yq (Qb 1) (eC (.int 8))) (eC (.int 4)))) (Qn))) (Qc (Qb 2) (Qn)))) (E3 .un .un .un .un .un) []=some ((.nx,E3 (.val (.ref 2)) .un .un .un .un),w6):=by
  refine Q0 ?_
  have al:Xf (.ins "Weaver" []) [S,P]=some (.ref 2,[S,P,.ins "Weaver" []]):=rfl
  have gd:Qv (decide ([DV.ref 0,DV.int H].length+1=3)) [S,P]=some ((),[S,P]):=rfl
  have aa:Qc (J1 "Shelf" 2 Zz (Qc (Qk Z5 (eC (.int 2)) (Qk Xq (Qk Yq (Qb 1) (eC (.int 8))) (eC (.int 4)))) (Qn))) (Qc (Qb 2) (Qn)) (E3 .un .un .un .un .un) []=some ([.ref 0,.int H],[S,P]):=ZH mks (Qe rfl)
  show (Qc _ _ _ >>= _) _=_
  rw [Qg aa,Qg gd,Qg al,Qg (QeG S P H n8)];rfl
 obtain ⟨ds,dl,ea⟩:=Qdg (c0 / 32) w6
 have d32:=Zx (Xh c0 32 (by decide) (by decide)) w6
 let w7:Hs:=w6++[OV.lst (ds.map QU)]
 have s4:QM 4 (QH 1 Yy (Qc (Qk Yq (Qb 1) (eC (.int 32))) (Qn))) (E3 (.val (.ref 2)) .un .un .un .un) w6=some ((.nx,E3 (.val (.ref 2)) (.val (.ref 6)) .un .un .un),w7):=Q0 (ZJ (ZI (Ql (Qe rfl) rfl d32)) rfl ea)
 let w8:Hs:=w7++[OV.dic []]
 have s5:QM 5 (Xj) (E3 (.val (.ref 2)) (.val (.ref 6)) .un .un .un) w7=some ((.nx,E3 (.val (.ref 2)) (.val (.ref 6)) (.val (.ref 7)) .un .un),w8):=Q0 rfl
 let w9:Hs:=w8++[OV.lst []]
 have s6:QM 6 (Xk (Qn)) (E3 (.val (.ref 2)) (.val (.ref 6)) (.val (.ref 7)) .un .un) w8=some ((.nx,E3 (.val (.ref 2)) (.val (.ref 6)) (.val (.ref 7)) (.val (.ref 8)) .un),w9):=Q0 rfl
 have k6:w9[6]?=some (.lst (([]++ds).map QU)):=rfl
 obtain ⟨y7,el⟩:=U8 ds [] 100000 w9 (.val X) (.val (.int c0)) (.val (.int H)) (.val (.ref 6)) (.val (.ref 7)) (.val (.ref 8)) .un .un .un k6 rfl rfl (by simp;omega) (by omega)
 let EX:Sl->Sl->En:=fun z8 z9=>[.val X,.val (.int c0),.val (.int H),.val (.ref 2),.val (.ref 6),.val (.ref 7),.val (.ref 8),y7,z8,z9]
 let wA:Hs:=[S,P,.ins "Weaver" (wvF 0),.lst (ds.map QU),.lst (List.replicate H .non),.lst [],.lst (ds.map QU),.dic [],.lst []]
 have s7:gz (E3 (.val (.ref 2)) (.val (.ref 6)) (.val (.ref 7)) (.val (.ref 8)) .un) w9=some ((.nx,EX .un .un),wA):=by
  show YE (xLs (Qb 4)) (gN 7) (j2) _ w9=_
  unfold YE
  rw [Qg (xI (n:=6) (Qe rfl) k6)];exact el
 let d0:TR.Wk:=⟨.find 0,0,0,none,[],none,none,[],true⟩
 let S0:TR.Sh:=⟨r,[⟨0,[],[],none,none⟩],0,0,0⟩
 let s0:TR.St:=⟨S0,List.replicate H d0,List.replicate H 0,0⟩
 have dead:∀ (i:Nat) (v:TR.Wk),(List.replicate H d0)[i]?=some v->v.ended=true:=fun i v hv=>by rw [List.eq_of_mem_replicate (List.mem_of_getElem? hv)]
 have no:∀ (i:Nat) (v:TR.Wk),s0.ws[i]?=some v->v.ended=false->False:=fun i v hv he=>by rw [dead i v hv] at he;cases he
 have Y0:TR.StOk ds s0 (fun _=>none) (fun _=>0):=by
  refine ⟨QcZ r r2,⟨fun i v hv he=>(no i v hv he).elim,fun i v c hv he=>(no i v hv he).elim,fun i j v u c _ hv _ he=>(no i v hv he).elim⟩,fun n p hp hlv=>?_,fun n hn' ht=>?_,r5,by show (List.replicate H 0).length=(List.replicate H d0).length;simp,Nat.zero_le _,?_,fun i v hv he=>(no i v hv he).elim,fun i v hv he=>(no i v hv he).elim⟩
  ·have:p=⟨0,[],[],none,none⟩:=by
    match n,hp with
    | 0,hp=>cases hp;rfl
    | n+1,hp=>simp [s0,S0] at hp
   rw [this] at hlv;exact absurd hlv (by decide)
  ·have hn2:n < 1:=hn'
   exact absurd (show n=0 by omega) ht
  ·have z0:TR.zc (List.replicate H d0)=0:=by
    unfold TR.zc
    rw [List.filter_eq_nil_iff.mpr fun v hv=>?_]
    ·rfl
    ·rw [List.eq_of_mem_replicate hv];decide
   show TR.XF S0 0+TR.zc (List.replicate H d0)<=1+0
   rw [z0]
   exact Nat.le_refl 1
 have lw:s0.ws.length=H:=by show (List.replicate H d0).length=H;simp
 have gr:∀ {α:Type} (x:α) (i:Nat),i < H->(List.replicate H x)[i]?=some x:=fun x i hi=>by rw [List.getElem?_replicate,if_pos hi]
 have lcz:TR.lc s0.ws=0:=by
  show TR.lc (List.replicate H d0)=0
  unfold TR.lc
  rw [List.filter_eq_nil_iff.mpr fun v hv=>?_]
  ·rfl
  ·rw [List.eq_of_mem_replicate hv];decide
 have W0:WB wA ds s0 (fun _=>0) []:=⟨rfl,rfl,rfl,rfl,⟨List.replicate H .non,rfl,by rw [lw];simp,fun i v hi=>by
   have li:i < H:=by rw [<- lw];exact (List.getElem?_eq_some_iff.mp hi).1
   rw [gZ (dead i v hi),gr _ i li]⟩,rfl,by rw [lcz];exact Nat.le_refl _,fun i v hv he=>(no i v hv he).elim,fun i j v u _ hv he=>(no i v hv he).elim,fun x hx=>by cases hx⟩
 have N0:Nt ds s0 [] []:=⟨fun i v hv he=>(no i v hv he).elim,fun i j v u _ hv he=>(no i v hv he).elim,List.nodup_nil,fun x hx=>(by cases hx),by rw [lcz];rfl,fun n _=>rfl⟩
 have K0:Kx s0.tk [] []:=⟨List.nodup_nil,fun k hk=>(by cases hk),fun x hx=>(by cases hx)⟩
 have fin:∀ {w:Hs} {es:List TR.Deed} {s:TR.St} {L:Nat->Nat} {Q:Dn} {kvs:List (Key×DV)} {bg:TR.Bg} {B:Nat} (z8 z9:Sl),WB w es s L Q->Nt es s Q kvs->Kx s.tk Q kvs->w[7]?=some (.dic kvs)->w[8]?=some (.lst (Jw Q))->TR.StOk es s bg (fun _=>B)->s.ws.length=H->es.length<=47->es.length - s.tk<=24->B<=100->∃ w' s' L' Q' kvs' bg' y8,KG (EX z8 z9) w=some ((.nx,EX y8 z9),w')/\WB w' es s' L' Q'/\Nt es s' Q' kvs'/\Kx s'.tk Q' kvs'/\w'[7]?=some (.dic kvs')/\w'[8]?=some (.lst (Jw Q'))/\w'[6]?=w[6]?/\TR.StOk es s' bg' (fun _=>0)/\s'.ws.length=H/\TR.still es s'=true:=by
  intro w es s L Q kvs bg B z8 z9 A N K h7 h8 Y hl h47 h24 hB
  have pg:=Y.pages
  have tk:=Y.tk
  obtain ⟨os,s',bg',R,q2,q3,q4,Y'⟩:=TR.Qet (H:=H) (K:=9000) (C:=218) (by omega) (by omega) 5474 218 B s bg hl Y (fun i v hi hv=>by
   have:=TR.Lim.first Y.T Y.K Y.T.levels s.ws i v hi hv
   dsimp only at this ⊢
   rw [hl] at this
   omega) (by omega) (by omega)
  have ol:os.length < 90000:=by
   have:H * 5474<=8 * 5474:=Nat.mul_le_mul_right _ n8
   omega
  obtain ⟨w',L',Q',kvs',y8,e,A',N',K',i7,i8,i6⟩:=Qfr A N K h7 h8 (by omega) (by omega) n8 R q2 hl ol (.val X) (.val (.int c0)) (.val (.int H)) y7 z8 z9
  exact ⟨w',s',L',Q',kvs',bg',y8,e,A',N',K',i7,i8,i6,Y',q4,q2⟩
 obtain ⟨wE,s1',L1,Q1,kv1,bg1,y8,f1,A1,N1,K1,a7,a8,a6,Y1,l1,st1⟩:=fin .un .un W0 N0 K0 rfl rfl Y0 lw (by omega) (by show ds.length - 0<=24;omega) (Nat.zero_le _)
 have tk1:=(TR.ym st1).1
 have a6:wE[6]?=some (.lst (ds.map QU)):=a6.trans rfl
 have MM:WP (qB (nxD (ZR 0 ns.length)) (fun d env=>do let env' <- gN 9 d env;Gk env') 100000 0 (EX y8 .un)) wE fun q w=>∃ es s L Q kvs bg z9,q=(.nx,EX y8 z9)/\WB w es s L Q/\Nt es s Q kvs/\Kx s.tk Q kvs/\w[6]?=some (.lst (es.map QU))/\w[7]?=some (.dic kvs)/\w[8]?=some (.lst (Jw Q))/\TR.StOk es s bg (fun _=>63)/\s.ws.length=H/\es.length<=47/\es.length - s.tk<=24:=by
  refine Qbd (ZR 0 ns.length) (fun j env w=>∃ es s L Q kvs bg z9,env=EX y8 z9/\WB w es s L Q/\Nt es s Q kvs/\Kx s.tk Q kvs/\w[6]?=some (.lst (es.map QU))/\w[7]?=some (.dic kvs)/\w[8]?=some (.lst (Jw Q))/\TR.StOk es s bg (fun _=>j)/\s.ws.length=H/\es.length<=47/\(j<=24->es.length<=23+j)/\es.length - s.tk<=24/\(j<=24->es.length - s.tk<=j)) (by rw [qK];omega) ⟨ds,s1',L1,Q1,kv1,bg1,_,rfl,A1,N1,K1,a6,a7,a8,Y1,l1,by omega,fun _=>by omega,by omega,fun _=>by omega⟩ (fun j d0 hd0 env w zz=>?_) (fun env w zz=>?_)
  ·obtain ⟨es,s,L,Q,kvs,bg,z9,rfl,A,N,K,i6,i7,i8,Y,hl,h47,h23,hw,hw2⟩:=zz
   obtain ⟨hj,rfl⟩:=kN hd0
   have hk:ns[j]?=some ns[j]:=List.getElem?_eq_getElem hj
   have hc:=hb ns[j] (List.getElem_mem hj)
   obtain ⟨w',es',s',L',Q',kvs',bg',e,A',N',K',j6,j7,j8,Y',l',dl',dw'⟩:=Qfe A N K i6 i7 i8 Y (by omega) n8 hl (by omega) ns hk hc h47 (fun hj24=>by have:=h23 (by omega);omega) (.val (.int c0)) y7 y8
   refine ⟨_,_,e,es',s',L',Q',kvs',bg',_,rfl,A',N',K',j6,j7,j8,Y',l',?_,?_,?_,?_⟩
   ·rw [dl']
    by_cases hj24:j < 24
    ·have:=h23 (by omega);rw [if_pos hj24];omega
    ·rw [if_neg hj24];omega
   ·intro hj24
    have:=h23 (by omega);rw [dl',if_pos (by omega)];omega
   ·by_cases hj24:j < 24
    ·have:=hw2 (by omega);rw [if_pos hj24] at dw';omega
    ·rw [if_neg hj24] at dw';omega
   ·intro hj24
    have:=hw2 (by omega);rw [if_pos (by omega)] at dw';omega
  ·obtain ⟨es,s,L,Q,kvs,bg,z9,rfl,A,N,K,i6,i7,i8,Y,hl,h47,h23,hw,hw2⟩:=zz
   refine ⟨es,s,L,Q,kvs,bg,z9,rfl,A,N,K,i6,i7,i8,Y.mono fun i _=>?_,hl,h47,hw⟩
   rw [qK];omega
 obtain ⟨q,wF,eM,es,s2',L2,Q2,kv2,bg2,z9,rfl,A2,N2,K2,b6,b7,b8,Y2,l2,h47,hw24⟩:=MM
 have s9:KH (EX y8 .un) wE=some ((.nx,EX y8 z9),wF):=by
  have x9:xOf (uE (Qc (ZB JD (Qc (Qb 0) (Qn))) (Qn))) (EX y8 .un) wE=some (nxD (ZR 0 ns.length),wE):=GM (Ge (m:=ns.length) (ZI ((XS (ds:=[X]) (hp1:=wE) (ZI (Qe rfl)) (show JD [X] wE=some (.int (ns.length:Nat),wE) by show qG [X] wE=_;simp [qG,X];rfl)))) (by omega))
  unfold KH YE
  rw [Qg x9];exact eM
 obtain ⟨wG,s3',L3,Q3,kv3,bg3,x8,f2,A3,N3,K3,c7,c8,c6,Y3,l3,st3⟩:=fin y8 z9 A2 N2 K2 b7 b8 Y2 l2 h47 hw24 (by omega)
 have tk3:=Y3.tk
 have cn3:=N3.cn
 obtain ⟨wH,e4,_,o4⟩:=kM A3 c8 (by omega) K3.pl
 have g8:8 < wG.length:=(List.getElem?_eq_some_iff.mp c8).1
 have h8:wH[8]?=some (.lst (Jw Q3)):=(o4 8 g8).trans c8
 have h6:wH[6]?=some (.lst (es.map QU)):=(o4 6 (by omega)).trans (c6.trans b6)
 let EP:En:=EX x8 z9
 have still:=TR.ym st3
 have lc0:TR.lc s3'.ws=0:=by
  unfold TR.lc
  rw [List.filter_eq_nil_iff.mpr fun v hv=>?_]
  ·rfl
  ·obtain ⟨i,hi⟩:=List.getElem?_of_mem hv
   unfold TR.lf
   rw [still.2 i v hi];decide
 have ql:(Q3.map (·.1)).length=es.length:=by rw [List.length_map];omega
 have c1:y6 EP wH=some (.lst (((Q3.map (·.1)).map fun (x:Nat)=>(x:Int)).map .int),wH):=by
  have cx:=Vl (hp:=wH) (nxt:=nxW 8) (t:=fun d=>y0 (cE [] EP d)) (f:=fun d=>Qk ixG (Qb 0) (eC (.int 0)) (cE [] EP d)) (g:=fun d=>match d with | .tup (x::_)=>x | _=>.non) (Jw Q3) (fun i hi=>YS h8 i) (fun _ _=>rfl) (fun d hd=>by
   obtain ⟨q,_,rfl⟩:=List.mem_map.mp hd
   exact Ql (x:=.tup [.int q.1,Vf q.2.2]) (Qe rfl) rfl (ZZ (i:=0) rfl wH)) (by rw [Vq];omega)
  have e:(Jw Q3).map (fun d=>match d with | .tup (x::_)=>x | _=>DV.non)=((Q3.map (·.1)).map fun (x:Nat)=>(x:Int)).map DV.int:=by
   unfold Jw
   rw [List.map_map,List.map_map,List.map_map]
   rfl
  rw [e] at cx
  unfold y6 Je
  rw [Qg (xI (n:=8) (Qe rfl) h8),Qg (show Z9 _ _ _ lim 0 wH=_ from cx)];rfl
 have so:=QcT (ns:=(Q3.map (·.1)).map fun (x:Nat)=>(x:Int)) (by rw [List.length_map];omega) c1
 rw [Qa4 N3.qd (fun x hx=>by
  obtain ⟨y,hy,rfl⟩:=List.mem_map.mp hx
  have:=(N3.qt y hy).1
  omega) ql] at so
 have c2:y9 EP wH=some (.lst (((List.range es.length).map fun (x:Nat)=>(x:Int)).map .int),wH):=by
  have cx:=U0 (hp:=wH) (t:=fun d=>y0 (cE [] EP d)) (f:=fun d=>Qb 0 (cE [] EP d)) (g:=fun d=>d) (ZR 0 es.length) (fun _ _=>rfl) (fun _ _=>rfl) (by rw [qK];omega)
  have e:(ZR 0 es.length).map (fun d=>d)=((List.range es.length).map fun (x:Nat)=>(x:Int)).map DV.int:=by
   unfold ZR
   rw [List.map_map,List.map_map]
   apply List.map_congr_left
   intro x _
   show DV.int (0+(x:Int))=DV.int (x:Int)
   rw [Int.zero_add]
  rw [e] at cx
  unfold y9 Je
  rw [Qg (GM (Ge (m:=es.length) (ZI ((YC (Qe rfl) h6).trans (by rw [List.length_map]))) (by omega))),Qg (show Z9 _ _ _ lim 0 wH=_ from cx)];rfl
 have s11:QN (J0 (QH 2 Zy (Qc (Qb 3) (Qc (Qb 6) (Qn)))) (Qk eqG (ZB kR (Qc (y6) (Qn))) (y9))) EP wG=some ((.rt (.bl true),EP),wH):=QB ((Vr (b:=true) (ZJ (ZH (Qe rfl) (Qe rfl)) rfl e4)).trans ((if_pos rfl).trans (Ql so c2 (QbB (n:=1) (x:=.lst (((List.range es.length).map fun (x:Nat)=>(x:Int)).map .int)) (fun d hd=>by
  obtain ⟨k,_,rfl⟩:=List.mem_map.mp hd
  exact Qgb _ _) (by decide) wH))))
 exact ⟨wH,Qy ((Qj s1).trans ((Qj s2).trans ((Qj s3).trans ((Qj s4).trans ((Qj s5).trans ((Qj s6).trans ((Qj s7).trans ((Qj f1).trans ((Qj s9).trans ((Qj f2).trans s11))))))))))⟩
theorem US {K:PySem.W.Frag} {a0 a1 a2:Addr} {d0 d1 d2:Option Addr} {n0 n1 n2:Nat} {s0 s1 s2:Array (Option Value)} {t1:Tok} (l0:K.lookup a0=some ⟨.type "tuple", d0,.seq #[.int 0 t1,.ref a1,.ref a2,.none,.none] n0,s0⟩) (l2:K.lookup a2=some ⟨.type "tuple", d2,.seq #[] n2,s2⟩) (l1:K.lookup a1=some ⟨.type "tuple", d1,.seq #[] n1,s1⟩):KRep K (.tup [.int 0,.tup [],.tup [],.non,.non]) (.ref a0):=(uG (xs:=[.int 0,.ref a1,.ref a2,.non,.non]) l0 (Nat.le_of_ble_eq_true rfl) (.cons ⟨_,rfl⟩ (.cons rfl (.cons rfl (.cons rfl (.cons rfl .nil))))) (zt QfC (zt (uG (xs:=[]) l1 (Nat.le_of_ble_eq_true rfl) .nil Gj) (zt (uG (xs:=[]) l2 (Nat.le_of_ble_eq_true rfl) .nil Gj) (zt QbX (zt QbX Gj))))))
theorem QfD {P:Program} {w:World} {K:PySem.W.Frag} {h:Heap} {mg:Str->Option Value} {fa f:Addr} {oc kV dc pm cd ct:Value} {od an:Option Addr} {sl:Array (Option Value)} (X:K.In h) (G:h.Ns mainGlobals mg) (hfa:mg "law" = some (.ref fa)) (Z:Al K mg) (n:PySem.W.nsIn K mainGlobals "law" = some (some (.ref f))) (l:K.lookup f=some ⟨oc,od,.func (PySem.W.fnOf "law" "law" (Jy yD) (ZF yD) (Qo yD) .none kV dc pm an cd ct),sl⟩) (c:PySem.W.codeIn K cd "law" = true) (k:PySem.W.keepIn K (.ref f)=true):∃ fd:FuncData,(∀ (s:Shared) (v:Value),BindsTo s fd ⟨[v],[]⟩ [("script", v)])/\∀ base:Heap,K.In base->base.Ns mainGlobals mg->q8 P w K mg base CX0 10 fa fd ["script"] (spD K 1 GP):=by
 cases hfa.symm.trans (PySem.W.mg_of X G n)
 exact ⟨PySem.W.fnOf "law" "law" (Jy yD) (ZF yD) (Qo yD) .none kV dc pm an cd ct,fun s v=>.of_eq rfl,fun base _ _=>law_fn Z (Ga l c k)⟩
theorem walk {l:PySem.W.OpenLaw} {q:Program} {loose:List Str} {XP:(Str->Option Value)->Heap->Prop} {YP:World->Heap->Prop} {d:DefRec} {K:Params->PySem.W.Frag} (hn:l.most=some 63) (hdf:d.params.defaults=[])
  (hY:∀ (w:World) (h:Heap),YP w h->(K w.params).In h)
  (F:∀ (w:World) (mg:Str->Option Value) (fa:Addr) (h:Heap),(K w.params).In h->h.Ns mainGlobals mg->mg d.name=some (.ref fa) ->
   ∃ fd:FuncData,(∀ (s:Shared) (u:Value),BindsTo s fd ⟨[u],[]⟩ [("script", u)])/\∀ base:Heap,(K w.params).In base->base.Ns mainGlobals mg->q8 l.prog w (K w.params) mg base CX0 10 fa fd ["script"] (spD (K w.params) 1 GP)) :
  PySem.W.WalkO q loose XP YP l.row.toRowW d [] (fun f vs=>PySem.call f vs) :=
 L2.Qc2 (n:=63) (k:=10) (x := "script") (CX:=fun _=>CX0) (sp:=fun w=>spD (K w.params) 1 GP) hn (by decide) hdf ⟨rfl,by decide,by decide⟩ hY F (fun w _ a ns hl hb _ hS=>QfE (QbZ ns hl hb) hS) fun _ _ _ _ _ z=>z
end K33
open PySem PySem.W PyProof.Rows
open D in
set_option maxRecDepth 100000 in
set_option maxHeartbeats 0 in
theorem PySem.Challenge.cw_sidelink_k33_answers_holds : PySem.Challenge.rw_sidelink_k33_answers.Holds := by
 w_on;o_law;k_head;(case hw=>w_witness2)
 k_fill
 refine K33.walk (l:=PySem.Challenge.rw_sidelink_k33_answers) rfl rfl (fun w h Y=>PySem.W.kIn_of Y) ?F
 case F =>
  intro w mg fa h KX G hmg
  have c0:UC _ "Walk" := uc KX (by k_is) (by k_is) (by k_is) (by k_is) (by k_is)
  have c1:UC _ "Weaver" := uc KX (by k_is) (by k_is) (by k_is) (by k_is) (by k_is)
  have c2:UC _ "Shelf" := uc KX (by k_is) (by k_is) (by k_is) (by k_is) (by k_is)
  exact K33.QfD KX G hmg (by constructor;all_goals first | exact PySem.W.mg_none_of KX G (by k_is) | exact uf KX G (by k_is) (by k_is) (by k_is) (by k_is) | exact ug KX G (by k_is) | exact ut KX G (by k_is) (K33.US (by k_is) (by k_is) (by k_is)) | exact uk KX c0 (by k_is) (by k_is) | exact um KX c0 (by k_is) (by k_is) (by k_is) (by k_is) (by k_is) (by k_is) | exact uk KX c1 (by k_is) (by k_is) | exact um KX c1 (by k_is) (by k_is) (by k_is) (by k_is) (by k_is) (by k_is) | exact uk KX c2 (by k_is) (by k_is) | exact um KX c2 (by k_is) (by k_is) (by k_is) (by k_is) (by k_is) (by k_is) | exact ui KX G (by k_is) (by k_is) (by k_is) (by k_is) (by k_is) (by k_is) (by k_is) (by k_is)) (by k_is) (by k_is) (by k_is) (by k_is)

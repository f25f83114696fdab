import PyProof.Rows.All
import Wide.All
import OpenK.AllK
import Wide.FinOn
import Lean
import PyProof.EqAt
import PyProof.EqKinds
import PyProof.TupleCall
import PySem.Challenge.RW_sidelink_k22_each_step_told
-- CHANGE: your row's module here,as the last of these rows
set_option Elab.async false
set_option linter.all false
set_option maxRecDepth 100000
namespace L2
open PySem PySem.Spec PyProof.Rows
abbrev Key:=Sum Int Str
def VR:Key->Value->Bool
 | .inl k,v=>Value.isInt k v
 | .inr x,v=>Value.isStrOf x v
def QhG (w:World):Key->Int
 | .inl k=>hashInt k
 | .inr x=>hashStr w x
theorem Jd:∀ {k:Key} {v:Value},VR k v=true->(∃ i t,k=Sum.inl i/\v=Value.int i t)∨(∃ x t,k=Sum.inr x/\v=Value.str x t)
  | .inl i,v,h=>by
    obtain ⟨t,e⟩:=Value.isInt_shape (k:=i) (v:=v) h
    exact .inl ⟨i,t,rfl,e⟩
  | .inr x,v,h=>by
    obtain ⟨t,e⟩:=Value.isStrOf_shape (x:=x) (v:=v) h
    exact .inr ⟨x,t,rfl,e⟩
theorem QaZ (i:Int) (t:Tok):VR (.inl i) (.int i t)=true:=by simp [VR,Value.isInt]
theorem Qa0 (x:Str) (t:Tok):VR (.inr x) (.str x t)=true:=by simp [VR,Value.isStrOf]
theorem Qfz (a b:Int):decide ((Sum.inl a:Key)=Sum.inl b)=(a==b):=by
 by_cases e:a=b
 ·subst e;simp
 ·have h:¬ (Sum.inl a:Key)=Sum.inl b:=fun q=>e (Sum.inl.inj q)
  rw [decide_eq_false h]
  exact (beq_eq_false_iff_ne.mpr e).symm
theorem QfC (a b:Str):decide ((Sum.inr a:Key)=Sum.inr b)=decide (a=b):=by
 by_cases e:a=b
 ·subst e;simp
 ·have h:¬ (Sum.inr a:Key)=Sum.inr b:=fun q=>e (Sum.inr.inj q)
  rw [decide_eq_false h,decide_eq_false e]
theorem QfA (a:Int) (b:Str):decide ((Sum.inl a:Key)=Sum.inr b)=false:=decide_eq_false (fun q=>nomatch q)
theorem QfB (a:Str) (b:Int):decide ((Sum.inr a:Key)=Sum.inl b)=false:=decide_eq_false (fun q=>nomatch q)
def ZO (prog:Program) (w:World):PySem.KeyKind prog w Key where
 is:=VR
 hash:=QhG w
 inj:=fun v a b ha hb=>by
  rcases Jd ha with ⟨i,t,rfl,rfl⟩ | ⟨x,t,rfl,rfl⟩
  ·rcases Jd hb with ⟨j,u,rfl,e⟩ | ⟨y,u,rfl,e⟩
   ·injection e with e1 _;rw [e1]
   ·exact nomatch e
  ·rcases Jd hb with ⟨j,u,rfl,e⟩ | ⟨y,u,rfl,e⟩
   ·exact nomatch e
   ·injection e with e1 _;rw [e1]
 byValue:=fun k v h=>by
  rcases Jd h with ⟨i,t,rfl,rfl⟩ | ⟨x,t,rfl,rfl⟩<;>rfl
 pyHash:=fun hv h=>by
  rcases Jd hv with ⟨i,t,rfl,rfl⟩ | ⟨x,t,rfl,rfl⟩
  ·exact wpAny_pyHash_int h
  ·exact wpAny_pyHash_str h
 eqBool:=fun hu hv h=>by
  rcases Jd hu with ⟨i,t,rfl,rfl⟩ | ⟨x,t,rfl,rfl⟩
  ·rcases Jd hv with ⟨j,u,rfl,rfl⟩ | ⟨y,u,rfl,rfl⟩
   ·rw [Qfz] at h;exact wpAny_eqBool_int h
   ·rw [QfA] at h;exact SeqAt.EqAt.int_str i t y u _ _ _ _ h
  ·rcases Jd hv with ⟨j,u,rfl,rfl⟩ | ⟨y,u,rfl,rfl⟩
   ·rw [QfB] at h;exact SeqAt.EqAt.str_int x t j u _ _ _ _ h
   ·rw [QfC] at h;exact wpAny_eqBool_str h
 «strs»:=fun k x t v h=>by
  rcases Jd h with ⟨i,u,rfl,e⟩ | ⟨y,u,rfl,e⟩
  ·exact nomatch e
  ·injection e with e1 _
   subst e1
   cases v<;>rfl
theorem vC (prog:Program) (w:World) (i:Int) (t:Tok):(ZO prog w).is (.inl i) (.int i t)=true:=QaZ i t
theorem vD (prog:Program) (w:World) (x:Str) (t:Tok):(ZO prog w).is (.inr x) (.str x t)=true:=Qa0 x t
end L2
namespace L2
open PySem PySem.Spec PyProof.Rows
inductive V where
 | non | bl (b:Bool) | int (i:Int) | str (x:Str) | byt (b:Array UInt8) | flt (b:UInt64) | ref (a:Addr) | ty (n:String)
 deriving DecidableEq
def RelV:V->Value->Prop
 | .non,u=>u=Value.none
 | .bl b,u=>u=Value.bool b
 | .int i,u=>∃ t,u=Value.int i t
 | .str x,u=>∃ t,u=Value.str x t
 | .byt b,u=>∃ t,u=Value.bytes b t
 | .flt b,u=>∃ t,u=Value.float b t
 | .ref a,u=>u=Value.ref a
 | .ty n,u=>u=Value.type n
abbrev Vals:List V->List Value->Prop:=Paired RelV
theorem Vals.length {xs:List V} {us:List Value} (r:Vals xs us):xs.length=us.length:=Paired.length r
theorem Vals.get:∀ {xs:List V} {us:List Value} {i:Nat} {x:V},Vals xs us->xs[i]?=some x->∃ u,us[i]?=some u/\RelV x u
  | _,_,_,_,.nil,e=>by simp at e
  | _,_,0,_,.cons r _,e=>by simp at e;subst e;exact ⟨_,rfl,r⟩
  | _,_,i+1,x,.cons _ t,e=>by
    obtain ⟨u,h1,h2⟩:=Vals.get (i:=i) (x:=x) t (by simpa using e)
    exact ⟨u,by simpa using h1,h2⟩
theorem Vals.set {x:V} {u:Value} (r:RelV x u):∀ {xs:List V} {us:List Value} (i:Nat),Vals xs us->Vals (xs.set i x) (us.set i u)
 | _,_,_,.nil=>.nil
 | _,_,0,.cons _ t=>.cons r t
 | _,_,i+1,.cons q t=>.cons q (Vals.set r i t)
theorem Vals.append:∀ {xs ys:List V} {us ws:List Value},Vals xs us->Vals ys ws->Vals (xs++ys) (us++ws)
 | _,_,_,_,.nil,s=>s
 | _,_,_,_,.cons r t,s=>.cons r (Vals.append t s)
theorem Vals.take:∀ {xs:List V} {us:List Value} (n:Nat),Vals xs us->Vals (xs.take n) (us.take n)
 | _,_,0,_=>.nil
 | _,_,_+1,.nil=>.nil
 | _,_,n+1,.cons r t=>.cons r (Vals.take n t)
theorem Vals.drop:∀ {xs:List V} {us:List Value} (n:Nat),Vals xs us->Vals (xs.drop n) (us.drop n)
 | _,_,0,r=>r
 | _,_,_+1,.nil=>.nil
 | _,_,n+1,.cons _ t=>Vals.drop n t
def RelO:Option V->Option Value->Prop
 | some v,some u=>RelV v u
 | none,none=>True
 | _,_=>False
def KV {κ:Type}:List (κ×V)->List (κ×Value)->Prop:=Paired fun (p:κ×V) (q:κ×Value)=>p.1=q.1/\RelV p.2 q.2
def kV:Key->V
 | .inl i=>.int i
 | .inr x=>.str x
inductive HO where
  | lst (xs:List V)
  | tup (xs:List V)
  | dK (kvs:List (Key×V)) | dT (kvs:List (List Key×V))
  | set (S:Int->Bool) (n:Nat)
  | ins (C dx:Addr) (fs:List (Str×V))
  | own (x:Addr)
  | xd (fs:List (Str×V))
  | met (f x:Addr)
  | rng (lo hi:Int)
  | frz (o:Obj) (u:HO)
  | tbl (ps:Array Value)
  | ext (φ:Heap->Prop)
abbrev Hp:=Addr->Option HO
def upd (H:Hp) (a:Addr) (o:HO):Hp:=fun b=>if b=a then some o else H b
theorem Za {H:Hp} {a:Addr} {o:HO}:upd H a o a=some o:=by unfold upd;rw [if_pos rfl]
theorem QX {H:Hp} {a b:Addr} {o:HO} (h:b≠a):upd H a o b=H b:=by unfold upd;rw [if_neg h]
theorem QgX {H:Hp} {a b:Addr} {o u:HO} (h:H a=some o) (h':H b=some u) (d:o≠u):a≠b:=by
 intro e;subst e;rw [h] at h';exact d (Option.some.inj h')
theorem Zm {H:Hp} {a b:Addr} {o:HO} (h:H a=some o) (h':H b=none):a≠b:=by
 intro e;subst e;rw [h] at h';cases h'
section
variable (P:Program) (w:World)
def ObjOk (H:Hp) (h:Heap) (a:Addr):HO->Prop
 | .lst xs=>xs.length<=sizeLine/\∃ (its:List Value) (n:Nat),Vals xs its/\h.get? a=some { cls:=.type "list", data:=.seq its.toArray n }
 | .tup xs=>xs.length<=sizeLine/\∃ its:List Value,Vals xs its/\IsTup h a its.toArray
 | .dK kvs=>kvs.length<=sizeLine/\(a==sysModules)=false/\∃ vs,KV kvs vs/\h.DictOf (ZO P w) a vs
 | .dT kvs=>kvs.length<=sizeLine/\(a==sysModules)=false/\∃ xs:List (List Key×Addr×Value),
   Paired (fun (p:List Key×V) (q:List Key×Addr×Value)=>p.1=q.1/\H q.2.1=some (.tup (p.1.map kV))/\RelV p.2 q.2.2) kvs xs /\
   ∃ o es ep,h.get? a=some o/\o.ExactDict/\o.data=.dict es ep/\es.toList=xs.map (entryOfKey (tupleKind (ZO P w)))/\(xs.map (·.1)).Nodup
 | .set S n=>h.SetOf (intKind P w) a S n
 | .ins C dx fs=>H dx=some (.own a)/\fs.length<=1000/\dx≠a/\h.get? a=some (PySem.W.instObj C dx) /\
   ∃ mA,h.Ns1 dx mA/\(∀ f,RelO (fs.lookup f) (mA f))/\PySem.Within mA (fs.map (·.1))
 | .own _=>∃ o,h.get? a=some o
 | .xd fs=>∃ mA,h.Ns1 a mA/\∀ f,RelO (fs.lookup f) (mA f)
 | .rng lo hi=>∃ t u v,h.get? a=some { cls:=.type "range", data:=.fields #[.int lo t,.int hi u,.int 1 v] }
 | .frz o u=>h.get? a=some o/\ObjOk H h a u
 | .tbl ps=>h.get? a=some { cls:=.none,data:=.fields ps }
 | .met f x=>h.get? a=some (PySem.W.methodObj (.ref f) (.ref x))
 | .ext φ=>φ h/\(∃ o,h.get? a=some o)/\∀ h1 h2:Heap,φ h1->(∀ o,h1.get? a=some o->h2.get? a=some o)->φ h2
def HOk (H:Hp) (h:Heap):Prop:=∀ a o,H a=some o->ObjOk P w H h a o
end
section
variable {P:Program} {w:World} {H H':Hp} {h h':Heap} {a:Addr} {o:HO}
theorem ObjOk.lt (x:ObjOk P w H h a o):a < h.objs.size:=by
 cases o with
 | lst xs=>obtain ⟨_,_,_,_,e⟩:=x;exact Heap.lt_size e
 | tup xs=>obtain ⟨_,_,_,p⟩:=x;exact p.lt
 | dK kvs=>obtain ⟨_,_,_,_,o,_,_,e,_⟩:=x;exact Heap.lt_size e
 | dT kvs=>obtain ⟨_,_,_,_,o,_,_,e,_⟩:=x;exact Heap.lt_size e
 | set S n=>obtain ⟨o,_,_,_,e,_⟩:=x;exact Heap.lt_size e
 | ins C dx fs=>obtain ⟨_,_,_,e,_⟩:=x;exact Heap.lt_size e
 | own y=>obtain ⟨_,e⟩:=x;exact Heap.lt_size e
 | xd fs=>obtain ⟨_,⟨_,_,_,e,_⟩,_⟩:=x;exact Heap.lt_size e
 | rng lo hi=>obtain ⟨_,_,_,e⟩:=x;exact Heap.lt_size e
 | frz ob u=>obtain ⟨e,_⟩:=x;exact Heap.lt_size e
 | tbl ps=>exact Heap.lt_size (show h.get? a=some _ from x)
 | met f y=>exact Heap.lt_size (show h.get? a=some _ from x)
 | ext φ=>obtain ⟨_,⟨_,e⟩,_⟩:=x;exact Heap.lt_size e
theorem Paired.mapP {α β:Type} {F G:α->β->Prop}:∀ {l₁:List α} {l₂:List β},Paired F l₁ l₂->(∀ a b,F a b->G a b)->Paired G l₁ l₂
 | _,_,.nil,_=>.nil
 | _,_,.cons r t,f=>.cons (f _ _ r) (Paired.mapP t f)
theorem ObjOk.stay (x:ObjOk P w H h a o) (k:∀ b u,(b=a∨H b=some (.own a))->h.get? b=some u->h'.get? b=some u)
    (ho:∀ b,H b=some (.own a)->H' b=some (.own a)) (ht:∀ b xs,H b=some (.tup xs)->H' b=some (.tup xs)):ObjOk P w H' h' a o:=by
  induction o with
  | lst xs=>obtain ⟨z,its,n,r,e⟩:=x;exact ⟨z,its,n,r,k _ _ (.inl rfl) e⟩
  | tup xs=>obtain ⟨z,its,r,ob,e,c⟩:=x;exact ⟨z,its,r,ob,k _ _ (.inl rfl) e,c⟩
  | dK kvs=>obtain ⟨z,y,vs,r,ob,es,ep,e,c⟩:=x;exact ⟨z,y,vs,r,ob,es,ep,k _ _ (.inl rfl) e,c⟩
  | dT kvs =>
    obtain ⟨z,y,xs,r,ob,es,ep,e,c⟩:=x
    exact ⟨z,y,xs,Paired.mapP r fun p q z=>⟨z.1,ht _ _ z.2.1,z.2.2⟩,ob,es,ep,k _ _ (.inl rfl) e,c⟩
  | set S n=>obtain ⟨ob,es,ep,t,e,c⟩:=x;exact ⟨ob,es,ep,t,k _ _ (.inl rfl) e,c⟩
  | ins C dx fs =>
    obtain ⟨d,z,ne,e,mA,⟨od,es,ep,e2,c⟩,r⟩:=x
    exact ⟨ho _ d,z,ne,k _ _ (.inl rfl) e,mA,⟨od,es,ep,k _ _ (.inr d) e2,c⟩,r⟩
  | own y=>obtain ⟨ob,e⟩:=x;exact ⟨ob,k _ _ (.inl rfl) e⟩
  | xd fs=>obtain ⟨mA,⟨od,es,ep,e,c⟩,r⟩:=x;exact ⟨mA,⟨od,es,ep,k _ _ (.inl rfl) e,c⟩,r⟩
  | rng lo hi=>obtain ⟨t,u,v,e⟩:=x;exact ⟨t,u,v,k _ _ (.inl rfl) e⟩
  | frz ob u ih=>obtain ⟨e,q⟩:=x;exact ⟨k _ _ (.inl rfl) e,ih q⟩
  | tbl ps =>
    have e:h.get? a=some { cls:=.none,data:=.fields ps }:=x
    show h'.get? a=some { cls:=.none,data:=.fields ps }
    exact k a _ (.inl rfl) e
  | met f y =>
    have e:h.get? a=some (PySem.W.methodObj (.ref f) (.ref y)):=x
    show h'.get? a=some (PySem.W.methodObj (.ref f) (.ref y))
    exact k a _ (.inl rfl) e
  | ext φ=>obtain ⟨p,⟨o,e⟩,st⟩:=x;exact ⟨st _ _ p fun o q=>k _ _ (.inl rfl) q,⟨o,k _ _ (.inl rfl) e⟩,st⟩
theorem HOk.lt (x:HOk P w H h) (e:H a=some o):a < h.objs.size:=(x a o e).lt
theorem HOk.fresh (x:HOk P w H h) (e:h.objs.size<=a):H a=none:=by
 cases q:H a with
 | none=>rfl
 | some u=>exact absurd (Nat.lt_of_lt_of_le (x.lt q) e) (Nat.lt_irrefl _)
theorem HOk.kept (x:HOk P w H h) (k:∀ b u,h.get? b=some u->h'.get? b=some u):HOk P w H h':=fun a o e =>
 (x a o e).stay (fun b u _ q=>k b u q) (fun _ q=>q) fun _ _ q=>q
theorem HOk.laid (x:HOk P w H h) (k:∀ b u,h.get? b=some u->h'.get? b=some u) (hp:h.objs.size<=a) (new:ObjOk P w (upd H a o) h' a o):HOk P w (upd H a o) h':=fun b u e=>by
 have hn:=x.fresh hp
 by_cases hb:b=a
 ·subst hb;rw [Za] at e;cases e;exact new
 ·rw [QX hb] at e
  exact (x b u e).stay (fun c v _ q=>k c v q) (fun c q=>by rw [QX (Zm q hn)];exact q) fun c xs q=>by rw [QX (Zm q hn)];exact q
end
def Rd (H:Hp) (a:Addr) (u:HO):Prop:=H a=some u∨∃ o,H a=some (.frz o u)
theorem Rd.ok {P:Program} {w:World} {H:Hp} {h:Heap} {a:Addr} {u:HO} (r:Rd H a u) (x:HOk P w H h):ObjOk P w H h a u:=by
 rcases r with r | ⟨o,r⟩
 ·exact x a u r
 ·obtain ⟨_,q⟩:=x a _ r
  exact q
def Mut:Option HO->Prop
 | some (.lst _)=>True
 | some (.dK _)=>True
 | some (.dT _)=>True
 | some (.set _ _)=>True
 | some (.ins _ _ _)=>True
 | some (.ext _)=>True
 | _=>False
section
variable {P:Program} {w:World} {H:Hp} {h h':Heap} {x e:Addr} {o':HO}
theorem HOk.write (ok:HOk P w H h) (mu:Mut (H x)) (he:e=x∨H e=some (.own x)) (k:∀ b u,b≠e->h.get? b=some u->h'.get? b=some u) (heo:∃ u,h'.get? e=some u)
  (new:ObjOk P w (upd H x o') h' x o'):HOk P w (upd H x o') h':=fun b u q=>by
 have nown:∀ c y,H c=some (.own y)->c≠x:=fun c y r z=>by subst z;rw [r] at mu;exact mu
 have ntup:∀ c xs,H c=some (.tup xs)->c≠x:=fun c xs r z=>by subst z;rw [r] at mu;exact mu
 by_cases hb:b=x
 ·subst hb;rw [Za] at q;cases q;exact new
 ·rw [QX hb] at q
  by_cases hbe:b=e
  ·have q':H b=some (.own x):=by
    rcases he with z | z
    ·exact absurd (hbe.trans z) hb
    ·rw [hbe];exact z
   rw [q] at q';cases q'
   obtain ⟨v,hv⟩:=heo
   exact ⟨v,by rw [hbe];exact hv⟩
  ·refine (ok b u q).stay (fun c v hc r=>k c v ?_ r) (fun c r=>by rw [QX (nown c b r)];exact r) fun c xs r=>by rw [QX (ntup c xs r)];exact r
   rcases hc with rfl | hc
   ·exact hbe
   ·rintro rfl
    rcases he with z | z
    ·exact nown c b hc z
    ·rw [hc] at z;cases z;exact hb rfl
end
structure Un (fs ex:List Addr) (H H':Hp) (h h':Heap):Prop where
 keep:∀ b o,h.get? b=some o->H b=none->b∉fs->b∉ex->h'.get? b=some o
 slot:∀ b o,h.get? b=some o->H b=none->b∈fs->b∉ex->∃ sl,h'.get? b=some { o with slots:=sl }
 free:∀ b o,h.get? b=some o->H b=none->b∉ex->H' b=none
 there:∀ b o,h.get? b=some o->b∉ex->∃ o',h'.get? b=some o'
 tups:∀ b xs,H b=some (.tup xs)->H' b=some (.tup xs)
 frzs:∀ b o u,H b=some (.frz o u)->H' b=some (.frz o u)
 tbls:∀ b ps,H b=some (.tbl ps)->∃ more,H' b=some (.tbl (ps++more))
section
variable {fs fs' ex ex':List Addr} {H H1 H2:Hp} {h h1 h2 h':Heap} {a x e:Addr} {o:HO}
theorem Un.any (u:Un fs ex H H1 h h1) {b:Addr} {ob:Obj} (q:h.get? b=some ob) (n:H b=none) (hx:b∉ex):∃ sl,h1.get? b=some { ob with slots:=sl }:=by
 by_cases hb:b∈fs
 ·exact u.slot b ob q n hb hx
 ·exact ⟨ob.slots,u.keep b ob q n hb hx⟩
theorem Un.kept (k:∀ b u,h.get? b=some u->h'.get? b=some u):Un fs ex H H h h' :=
 ⟨fun b ob q _ _ _=>k b ob q,fun b ob q _ _ _=>⟨ob.slots,k b ob q⟩,fun _ _ _ n _=>n,fun b ob q _=>⟨ob,k b ob q⟩,fun _ _ q=>q,fun _ _ _ q=>q,fun _ ps q=>⟨#[],by rw [q];simp⟩⟩
theorem Un.refl:Un fs ex H H h h:=Un.kept fun _ _ q=>q
theorem Un.laid (k:∀ b u,h.get? b=some u->h'.get? b=some u) (hp:h.objs.size<=a) (hn:H a=none):Un fs ex H (upd H a o) h h' where
 keep:=fun b u q _ _ _=>k b u q
 slot:=fun b u q _ _ _=>⟨u.slots,k b u q⟩
 free:=fun b u q n _=>by rw [QX (Nat.ne_of_lt (Nat.lt_of_lt_of_le (Heap.lt_size q) hp))];exact n
 there:=fun b u q _=>⟨u,k b u q⟩
 tups:=fun b xs q=>by rw [QX (Zm q hn)];exact q
 frzs:=fun b u xs q=>by rw [QX (Zm q hn)];exact q
 tbls:=fun b ps q=>⟨#[],by rw [QX (Zm q hn),q];simp⟩
theorem Un.write (mu:Mut (H x)) (he:e=x∨H e=some (.own x)) (k:∀ b u,b≠e->h.get? b=some u->h'.get? b=some u) (heo:∃ u,h'.get? e=some u):Un fs ex H (upd H x o) h h':=by
 have hx:∀ b,H b=none->b≠x:=fun b n z=>by subst z;rw [n] at mu;exact mu
 have hb:∀ b,H b=none->b≠e:=fun b n z=>by
  subst z
  rcases he with r | r
  ·exact hx b n r
  ·rw [n] at r;cases r
 have hm:∀ b u,H b=some u->¬ Mut (some u)->b≠x:=fun b u q nm z=>by subst z;rw [q] at mu;exact nm mu
 refine ⟨fun b u q n _ _=>k b u (hb b n) q,fun b u q n _ _=>⟨u.slots,k b u (hb b n) q⟩,fun b u q n _=>by rw [QX (hx b n)];exact n,fun b u q _=>?_,
  fun b xs q=>by rw [QX (hm b _ q fun z=>z)];exact q,fun b u xs q=>by rw [QX (hm b _ q fun z=>z)];exact q,fun b ps q=>⟨#[],by rw [QX (hm b _ q fun z=>z),q];simp⟩⟩
 by_cases hbe:b=e
 ·subst hbe;exact heo
 ·exact ⟨u,k b u hbe q⟩
end
def trk (h:Heap) (H:Hp):List Addr:=(List.range h.objs.size).filter fun a=>(H a).isSome
def Gc (h:Heap) (H:Hp):Heap:=PySem.W.hideAll h (trk h H)
theorem QaX (h:Heap) (H:Hp):(Gc h H).objs.size=h.objs.size:=PySem.W.hideAll_size _ _
theorem Qb4 {h:Heap} {H:Hp} {b:Addr} {o:Obj} (e:h.get? b=some o) (n:H b=none):(Gc h H).get? b=some o :=
 PySem.W.hideAll_get _ e fun hm=>by
  have q:(H b).isSome=true:=(List.mem_filter.mp hm).2
  rw [n] at q;simp at q
theorem Qd4 {h:Heap} {H:Hp} {b:Addr} {o:Obj} (e:(Gc h H).get? b=some o):h.get? b=some o/\H b=none:=by
  have e':h.get? b=some o:=PySem.W.of_hideAll (trk h H) e
  refine ⟨e',?_⟩
  cases q:H b with
  | none=>rfl
  | some x =>
    have hm:b∈trk h H:=List.mem_filter.mpr ⟨List.mem_range.mpr (Heap.lt_size e'),by simp [q]⟩
    have z:(Gc h H).get? b=none:=PySem.W.hideAll_none (trk h H) hm
    rw [z] at e;cases e
def KO (g h:Heap) (L:Addr):List (Addr×Obj):=(List.range h.objs.size).filterMap fun a=>if a=L∨(g.get? a).isSome=true then none else (h.get? a).map fun o=>(a,o)
theorem VY {g h:Heap} {L:Addr} {p:Addr×Obj} (hp:p∈KO g h L):p.1≠L/\g.get? p.1=none/\h.get? p.1=some p.2:=by
  obtain ⟨b,_,e⟩:=List.mem_filterMap.mp hp
  split at e
  . cases e
  . rename_i hn
    cases q:h.get? b with
    | none=>rw [q] at e;simp at e
    | some u =>
      rw [q] at e
      simp only [Option.map_some,Option.some.injEq] at e
      subst e
      refine ⟨fun z=>hn (.inl z),?_,q⟩
      show g.get? b=none
      cases r:g.get? b with
      | none=>rfl
      | some v=>exact (hn (.inr (by simp [r]))).elim
def rest (g h:Heap) (L d:Addr):List (Addr×Obj):=(KO g h L).filter fun p=>decide (p.1≠d)
theorem Qcq {g h:Heap} {L:Addr}:News g L h (KO g h L):=fun p hp=>let ⟨a,b,c⟩:=VY hp;⟨c,a,b⟩
end L2
namespace L2
open PySem PySem.Spec PyProof.Rows
structure Mod (K:PySem.W.Frag) (mg:Str->Option Value) (base:Heap):Prop where
 kin:K.In base
 glob:base.Ns mainGlobals mg
 blt:∃ mb,base.Ns builtinsNs mb/\∀ x:Str,x ≠ "__name__" -> mb x=bootBuiltins x
 nolimit:base.NoLimit
structure Cx where
 prog:Program
 w:World
 K:PySem.W.Frag
 mg:Str->Option Value
 base:Heap
 A:Around
 N:List Str
 s₀:Shared
 H₀:Hp
 env:Env
 outer:List Env
 stack:List Env
 ex:List Addr
 fn:Str->Bool
 calm:Bool
 pn:List (Addr×Obj)
 xe:Value->Shared->Prop
def frs (l:List Env):List Addr:=l.filterMap (·.frame)
abbrev Cx.fs (X:Cx):List Addr:=frs X.outer
def Vis (sc:Scope) (x:Str):Prop:=sc.names.lookup x=some .local∨sc.names.lookup x=some .cell∨sc.names.lookup x=some .free
def Loc (sc:Scope) (x:Str):Prop:=sc.names.lookup x=some .local∨sc.names.lookup x=some .cell
def Qhz (env:Env) (h:Heap) (m:Str->Option Value) (x:Str) (u:Value):Prop :=
 (env.kindOf x=some .local/\m x=some u)∨((env.kindOf x=some .cell∨env.kindOf x=some .free)/\∃ c,env.cells.lookup x=some c/\h.IsCell c (some u))
structure Cx.Ok (X:Cx):Prop where
 mod:Mod X.K X.mg X.base
 kind:X.env.scope.kind=.function
 glob:X.env.globals=mainGlobals
 blt:X.env.builtins=builtinsNs
 above:X.s₀.heap.objs.size<=X.env.locals
 inj:∀ x y c,X.env.cells.lookup x=some c->X.env.cells.lookup y=some c->x=y
 has:∀ x,(X.env.kindOf x=some .cell∨X.env.kindOf x=some .free)->∃ c,X.env.cells.lookup x=some c
 cab:∀ x c,X.fn x=true->X.env.cells.lookup x=some c->X.s₀.heap.objs.size<=c
 hd:X.calm=true->X.A.handled=none
 frames:X.A.frames=some X.stack
 stk:X.stack=X.outer∨(X.stack=X.env::X.outer/\X.env.frame=some X.env.locals)
 exf:∀ b∈X.ex,b≠X.env.locals/\∀ x c,X.env.cells.lookup x=some c->c≠b
 bs:∀ b o,X.base.get? b=some o->X.s₀.heap.get? b=some o/\X.H₀ b=none
 bsz:X.base.objs.size<=X.s₀.heap.objs.size
 noex:∀ b o,X.base.get? b=some o->b∉X.ex
 exfs:∀ b∈X.ex,b∉X.fs
 funs:X.s₀.heap.FunFrames X.base X.outer
 frf:∀ b∈X.fs,X.H₀ b=none
structure Inv (X:Cx) (pins:List (Addr×Obj)) (σ:List (Option V)) (H:Hp) (s:Shared):Prop where
 ok:X.Ok
 os:s.os=X.s₀.os
 bare:AllBare s.gens
 base:Un X.fs X.ex X.H₀ H X.s₀.heap s.heap
 loc:∃ m,s.heap.Ns X.env.locals m/\∀ (i:Nat) (x:Str) (v:V),X.N[i]?=some x->σ[i]?=some (some v)->Vis X.env.scope x->∃ u,RelV v u/\Qhz X.env s.heap m x u
 cell:∀ x c,X.env.cells.lookup x=some c->∃ v,s.heap.IsCell c v
 free:H X.env.locals=none
 freeC:∀ x c,X.env.cells.lookup x=some c->H c=none
 pin:∀ p∈X.pn++pins,s.heap.get? p.1=some p.2/\H p.1=none/\p.1≠X.env.locals/\p.1∉X.fs/\∀ v,p.2.data≠.cell v
 hok:HOk X.prog X.w H s.heap
 len:σ.length=X.N.length
section
variable {X:Cx} {pins:List (Addr×Obj)} {σ:List (Option V)} {H H':Hp} {s:Shared} {h':Heap}
theorem Cx.Ok.nofr (ok:X.Ok) {b:Addr} {o:Obj} (e:X.base.get? b=some o):b∉X.fs:=fun hb=>by
 have:=(ok.funs.mem hb).1
 rw [e] at this;cases this
theorem Inv.bs (I:Inv X pins σ H s):∀ b o,X.base.get? b=some o->s.heap.get? b=some o/\H b=none:=fun b o e =>
 ⟨I.base.keep b o (I.ok.bs b o e).1 (I.ok.bs b o e).2 (I.ok.nofr e) (I.ok.noex b o e),I.base.free b o (I.ok.bs b o e).1 (I.ok.bs b o e).2 (I.ok.noex b o e)⟩
theorem Inv.bk (I:Inv X pins σ H s):∀ b o,X.base.get? b=some o->s.heap.get? b=some o:=fun b o e=>(I.bs b o e).1
theorem Inv.mod (I:Inv X pins σ H s):Mod X.K X.mg X.base:=I.ok.mod
theorem Inv.kIn (I:Inv X pins σ H s):X.K.In s.heap:=I.ok.mod.kin.keeps I.bk
theorem Inv.fr (I:Inv X pins σ H s):∃ m,Fr X.base X.env.locals s.heap m :=
 let ⟨m,hn,_⟩:=I.loc
 ⟨m,hn,I.bk,Nat.le_trans I.ok.bsz I.ok.above⟩
theorem Inv.lt (I:Inv X pins σ H s):X.env.locals < s.heap.objs.size:=let ⟨_,hn,_⟩:=I.loc;hn.lt
theorem Inv.sz (I:Inv X pins σ H s):X.s₀.heap.objs.size<=s.heap.objs.size:=Nat.le_trans I.ok.above (Nat.le_of_lt I.lt)
theorem Inv.nofs (I:Inv X pins σ H s) {a:Addr} (h:s.heap.objs.size<=a):a∉X.fs:=fun hb=>by
 obtain ⟨_,o,ho,_⟩:=I.ok.funs.mem hb
 exact absurd (Nat.lt_of_lt_of_le (Heap.lt_size ho) (Nat.le_trans I.sz h)) (Nat.lt_irrefl _)
theorem Inv.cne (I:Inv X pins σ H s):∀ x c,X.env.cells.lookup x=some c->c≠X.env.locals:=fun x c e z=>by
 obtain ⟨v,o,ho,hd⟩:=I.cell x c e
 obtain ⟨m,⟨o',es,ep,ho',hd',_⟩,_⟩:=I.loc
 rw [z,ho'] at ho;cases ho;rw [hd'] at hd;cases hd
theorem Inv.funs (I:Inv X pins σ H s):s.heap.FunFrames X.base X.outer:=by
  have all:∀ (l:List Env),(∀ b∈frs l,b∈X.fs)->X.s₀.heap.FunFrames X.base l->s.heap.FunFrames X.base l:=by
    intro l
    induction l with
    | nil=>intro _ _;trivial
    | cons env r ih =>
      intro hs hl
      obtain ⟨hk,⟨L,o,hf,hn,ho,hd⟩,hr⟩:=hl
      have hL:L∈X.fs:=hs L (by unfold frs;rw [List.filterMap_cons,hf];exact List.mem_cons_self)
      obtain ⟨sl,e⟩:=I.base.slot L o ho (I.ok.frf L hL) hL fun z=>I.ok.exfs L z hL
      exact ⟨hk,⟨L,_,hf,hn,e,hd⟩,ih (fun b hb=>hs b (by unfold frs;rw [List.filterMap_cons,hf];exact List.mem_cons_of_mem _ hb)) hr⟩
  exact all X.outer (fun _ hb=>hb) I.ok.funs
theorem Inv.stack (I:Inv X pins σ H s):s.heap.FunFrames X.base X.stack:=by
 rcases I.ok.stk with e | ⟨e,hf⟩
 ·rw [e];exact I.funs
 ·rw [e]
  obtain ⟨m,hn,_⟩:=I.loc
  refine .cons (by rw [I.ok.kind];decide) hf hn ?_ I.funs
  exact Heap.get?_none_of_le (Nat.le_trans I.ok.bsz I.ok.above)
theorem Inv.stkSub (I:Inv X pins σ H s):∀ b∈frs X.stack,b∈X.env.locals::X.fs:=fun b hb=>by
 rcases I.ok.stk with e | ⟨e,hf⟩
 ·rw [e] at hb;exact List.mem_cons_of_mem _ hb
 ·rw [e] at hb
  unfold frs at hb
  rw [List.filterMap_cons,hf] at hb
  exact hb
theorem Inv.stkFree (I:Inv X pins σ H s):∀ b∈frs X.stack,H b=none:=fun b hb=>by
 rcases List.mem_cons.mp (I.stkSub b hb) with e | hb
 ·rw [e];exact I.free
 ·obtain ⟨_,o,ho,_⟩:=I.ok.funs.mem hb
  exact I.base.free b o ho (I.ok.frf b hb) fun z=>I.ok.exfs b z hb
theorem Inv.step {g':Array GenState} {t':Nat} {d':Drawn} {ch:List Addr} (I:Inv X pins σ H s)
  (hch:∀ b∈ch,(b∈X.ex∨X.s₀.heap.objs.size<=b)/\b≠X.env.locals/\(∀ x c,X.env.cells.lookup x=some c->c≠b)/\∀ p∈X.pn++pins,p.1≠b)
  (keep:∀ b o,b≠X.env.locals->b∉X.fs->b∉ch->s.heap.get? b=some o->H b=none->h'.get? b=some o)
  (slot:∀ b o,b≠X.env.locals->b∈X.fs->b∉ch->s.heap.get? b=some o->H b=none->∃ sl,h'.get? b=some { o with slots:=sl }) (free:∀ b o,b∉ch->s.heap.get? b=some o->H b=none->H' b=none)
  (there:∀ b o,b∉ch->s.heap.get? b=some o->∃ o',h'.get? b=some o')
  (tups:∀ b xs,H b=some (.tup xs)->H' b=some (.tup xs)) (frzs:∀ b o u,H b=some (.frz o u)->H' b=some (.frz o u)) (tbls:∀ b ps,H b=some (.tbl ps)->∃ more,H' b=some (.tbl (ps++more)))
  (ns:∀ m,s.heap.Ns X.env.locals m->h'.Ns X.env.locals m) (hok:HOk X.prog X.w H' h') (hg:AllBare g') :
  Inv X pins σ H' { s with heap:=h',gens:=g',drawn:=d',toks:=t' }:=by
 have neL:∀ b o,X.s₀.heap.get? b=some o->b≠X.env.locals:=fun b o e=>Nat.ne_of_lt (Nat.lt_of_lt_of_le (Heap.lt_size e) I.ok.above)
 have neC:∀ b o,X.s₀.heap.get? b=some o->b∉X.ex->b∉ch:=fun b o e hx hb=>by
  rcases (hch b hb).1 with z | z
  ·exact hx z
  ·exact absurd (Nat.lt_of_lt_of_le (Heap.lt_size e) z) (Nat.lt_irrefl _)
 have cellK:∀ x c,X.env.cells.lookup x=some c->∀ v,s.heap.IsCell c v->h'.IsCell c v:=fun x c e v ⟨o,ho,hd⟩=>by
  have nch:c∉ch:=fun z=>(hch c z).2.2.1 x c e rfl
  by_cases hc:c∈X.fs
  ·obtain ⟨sl,q⟩:=slot c o (I.cne x c e) hc nch ho (I.freeC x c e)
   exact ⟨_,q,hd⟩
  ·exact ⟨o,keep c o (I.cne x c e) hc nch ho (I.freeC x c e),hd⟩
 refine ⟨I.ok,I.os,hg,⟨fun b o e n hb hx=>?_,fun b o e n hb hx=>?_,fun b o e n hx=>?_,fun b o e hx=>?_,fun b xs e=>tups b xs (I.base.tups b xs e),fun b o xs e=>frzs b o xs (I.base.frzs b o xs e),fun b ps e=>?_⟩,?_,fun x c e=>?_,?_,fun x c e=>?_,fun p hp=>?_,hok,I.len⟩
 ·exact keep b o (neL b o e) hb (neC b o e hx) (I.base.keep b o e n hb hx) (I.base.free b o e n hx)
 ·obtain ⟨sl,e1⟩:=I.base.slot b o e n hb hx
  obtain ⟨sl',e2⟩:=slot b _ (neL b o e) hb (neC b o e hx) e1 (I.base.free b o e n hx)
  exact ⟨sl',e2⟩
 ·obtain ⟨o',e1⟩:=I.base.there b o e hx
  exact free b o' (neC b o e hx) e1 (I.base.free b o e n hx)
 ·obtain ⟨o',e1⟩:=I.base.there b o e hx
  exact there b o' (neC b o e hx) e1
 ·obtain ⟨m1,e1⟩:=I.base.tbls b ps e
  obtain ⟨m2,e2⟩:=tbls b _ e1
  exact ⟨m1++m2,by rw [e2,Array.append_assoc]⟩
 ·obtain ⟨m,hn,hl⟩:=I.loc
  refine ⟨m,ns m hn,fun i x v e1 e2 e3=>?_⟩
  obtain ⟨u,r,l⟩:=hl i x v e1 e2 e3
  refine ⟨u,r,?_⟩
  rcases l with l | ⟨k,c,e,z⟩
  ·exact .inl l
  ·exact .inr ⟨k,c,e,cellK x c e _ z⟩
 ·obtain ⟨v,z⟩:=I.cell x c e
  exact ⟨v,cellK x c e v z⟩
 ·obtain ⟨m,⟨o,_,_,ho,_⟩,_⟩:=I.loc
  exact free _ o (fun z=>(hch _ z).2.1 rfl) ho I.free
 ·obtain ⟨v,o,ho,hd⟩:=I.cell x c e
  exact free c o (fun z=>(hch c z).2.2.1 x c e rfl) ho (I.freeC x c e)
 ·obtain ⟨e,n,ne,nf,d⟩:=I.pin p hp
  have nch:p.1∉ch:=fun z=>(hch p.1 z).2.2.2 p hp rfl
  exact ⟨keep p.1 p.2 ne nf nch e n,free p.1 p.2 nch e n,ne,nf,d⟩
theorem Inv.un {t':Nat} (I:Inv X pins σ H s) (u:Un X.fs [] H H' s.heap h') (hok:HOk X.prog X.w H' h'):Inv X pins σ H' { s with heap:=h',toks:=t' }:=by
 obtain ⟨m,⟨o,es,ep,ho,r⟩,_⟩:=id I.loc
 obtain ⟨sl,hL⟩:=u.any ho I.free (by simp)
 exact I.step (g':=s.gens) (d':=s.drawn) (ch:=[]) (fun _ z=>nomatch z) (fun b o _ hb _ e n=>u.keep b o e n hb (by simp)) (fun b o _ hb _ e n=>u.slot b o e n hb (by simp)) (fun b o _ e n=>u.free b o e n (by simp)) (fun b o _ e=>u.there b o e (by simp)) u.tups u.frzs u.tbls (fun m' hm=>by
  obtain ⟨o',es',ep',ho',r'⟩:=hm
  rw [ho] at ho';cases ho'
  exact ⟨_,es',ep',hL,r'⟩) hok I.bare
theorem Inv.call {g':Array GenState} {t':Nat} {d':Drawn} {ch:List Addr} (I:Inv X pins σ H s) (u:Un (frs X.stack) ch H H' s.heap h') (hok:HOk X.prog X.w H' h') (hg:AllBare g')
  (hch:∀ b∈ch,(b∈X.ex∨X.s₀.heap.objs.size<=b)/\b≠X.env.locals/\(∀ x c,X.env.cells.lookup x=some c->c≠b)/\∀ p∈X.pn++pins,p.1≠b) :
  Inv X pins σ H' { s with heap:=h',gens:=g',drawn:=d',toks:=t' }:=by
 obtain ⟨m,⟨o,es,ep,ho,r⟩,_⟩:=id I.loc
 obtain ⟨sl,hL⟩:=u.any ho I.free fun z=>(hch _ z).2.1 rfl
 exact I.step (ch:=ch) hch (fun b o hL hb hc e n=>u.keep b o e n (fun z=>(List.mem_cons.mp (I.stkSub b z)).elim hL hb) hc) (fun b o _ _ hc e n=>u.any e n hc) (fun b o hc e n=>u.free b o e n hc) (fun b o hc e=>u.there b o e hc) u.tups u.frzs u.tbls (fun m' hm=>by
  obtain ⟨o',es',ep',ho',r'⟩:=hm
  rw [ho] at ho';cases ho'
  exact ⟨_,es',ep',hL,r'⟩) hok hg
theorem Inv.turned {t':Nat} {it:Addr} (I:Inv X pins σ H s) (k:∀ b o,b≠it->s.heap.get? b=some o->h'.get? b=some o) (hn:H it=none) (hL:it≠X.env.locals)
  (h1:it∈X.ex∨X.s₀.heap.objs.size<=it) (h2:∀ x c,X.env.cells.lookup x=some c->c≠it) (h3:∀ p∈X.pn++pins,p.1≠it):Inv X pins σ H { s with heap:=h',toks:=t' }:=by
 have nit:∀ b u,H b=some u->b≠it:=fun b u e z=>by rw [z,hn] at e;cases e
 refine I.step (g':=s.gens) (d':=s.drawn) (ch:=[it]) (fun b hb=>?_) (fun b o _ _ hc e _=>k b o (fun z=>hc (by simp [z])) e) (fun b o _ _ hc e _=>⟨o.slots,k b o (fun z=>hc (by simp [z])) e⟩) (fun _ _ _ _ n=>n)
  (fun b o hc e=>⟨o,k b o (fun z=>hc (by simp [z])) e⟩) (fun _ _ e=>e) (fun _ _ _ e=>e) (fun b ps e=>⟨#[],by rw [e];simp⟩) (fun m hm=>?_) (fun b u e=>?_) I.bare
 ·have e:b=it:=by simpa using hb
  subst e
  exact ⟨h1,hL,h2,h3⟩
 ·obtain ⟨o,es,ep,ho,r⟩:=hm
  exact ⟨o,es,ep,k _ o (Ne.symm hL) ho,r⟩
 ·refine (I.hok b u e).stay (fun c v hc q=>k c v ?_ q) (fun _ q=>q) fun _ _ q=>q
  rcases hc with z | z
  ·rw [z];exact nit b u e
  ·exact nit c _ z
theorem Inv.tok (I:Inv X pins σ H s) (t:Nat):Inv X pins σ H { s with toks:=t }:=I.un (h':=s.heap) (t':=t) Un.refl I.hok
theorem Inv.kept {t':Nat} (I:Inv X pins σ H s) (k:∀ b u,s.heap.get? b=some u->h'.get? b=some u):Inv X pins σ H { s with heap:=h',toks:=t' }:=I.un (Un.kept k) (I.hok.kept k)
theorem Inv.laid {a:Addr} {o:HO} {t':Nat} (I:Inv X pins σ H s) (k:∀ b u,s.heap.get? b=some u->h'.get? b=some u) (hp:s.heap.objs.size<=a) (new:ObjOk X.prog X.w (upd H a o) h' a o) :
  Inv X pins σ (upd H a o) { s with heap:=h',toks:=t' }:=I.un (Un.laid k hp (I.hok.fresh hp)) (I.hok.laid k hp new)
theorem Inv.write {x e:Addr} {o:HO} {t':Nat} (I:Inv X pins σ H s) (mu:Mut (H x)) (he:e=x∨H e=some (.own x)) (k:∀ b u,b≠e->s.heap.get? b=some u->h'.get? b=some u) (heo:∃ u,h'.get? e=some u)
  (new:ObjOk X.prog X.w (upd H x o) h' x o):Inv X pins σ (upd H x o) { s with heap:=h',toks:=t' }:=I.un (Un.write mu he k heo) (I.hok.write mu he k heo new)
theorem Inv.pins_of {pins':List (Addr×Obj)} (I:Inv X pins σ H s) (h:∀ p∈pins',s.heap.get? p.1=some p.2/\H p.1=none/\p.1≠X.env.locals/\p.1∉X.fs/\∀ v,p.2.data≠.cell v):Inv X pins' σ H s :=
 ⟨I.ok,I.os,I.bare,I.base,I.loc,I.cell,I.free,I.freeC,fun p hp=>(List.mem_append.mp hp).elim (fun z=>I.pin p (List.mem_append_left _ z)) (h p),I.hok,I.len⟩
theorem vE {N:List Str} (hN:N.Nodup) {i j:Nat} {x:Str} (a:N[i]?=some x) (b:N[j]?=some x):i=j:=by
 obtain ⟨h1,e1⟩:=List.getElem?_eq_some_iff.mp a
 obtain ⟨h2,e2⟩:=List.getElem?_eq_some_iff.mp b
 exact (List.getElem_inj hN).mp (e1.trans e2.symm)
theorem KC {M:Model} {A:Around} {E:Value->Shared->Prop} {i:Nat} {x:Str} {v:V} {u:Value} {Q:Unit->Shared->Prop} (I:Inv X pins σ H s) (hN:X.N.Nodup) (hi:X.N[i]?=some x) (hx:Loc X.env.scope x) (r:RelV v u)
  (h:∀ s',Inv X pins (σ.set i (some v)) H s'->(∃ a,Heap.SameBut a s.heap s'.heap/\(a=X.env.locals∨X.env.cells.lookup x=some a))->Q () s') (hf:X.fn x=true∨X.env.scope.names.lookup x=some .local:=by first | exact .inl rfl | exact .inr rfl | assumption):wpAny M A (storeName X.env x u) Q E s:=by
 obtain ⟨m,hn,hl⟩:=id I.loc
 have hcls:(X.env.scope.kind==.class||(X.env.scope.kind==.module&&X.env.locals != X.env.globals))=false:=by rw [I.ok.kind];rfl
 have hiσ:i < σ.length:=by rw [I.len];exact (List.getElem?_eq_some_iff.mp hi).1
 have cne:=I.cne
 have tracked:∀ {a:Addr} {h':Heap},(∃ o,s.heap.get? a=some o/\H a=none)->Heap.SameBut a s.heap h'->HOk X.prog X.w H h':=fun {a h'} ha hs b ob e=>by
  obtain ⟨_,_,hfree⟩:=ha
  refine (I.hok b ob e).stay (fun c w' hc q=>(hs.2 c ?_).trans q) (fun _ q=>q) fun _ _ q=>q
  rintro rfl
  rcases hc with rfl | hc
  ·rw [hfree] at e;cases e
  ·rw [hfree] at hc;cases hc
 rcases hx with hk | hk
 ·refine wpAny_storeName_local hk hn (fun h' hn' hs=>?_) hcls
  obtain ⟨oL,_,_,hoL,_⟩:=id hn
  refine h _ ⟨I.ok,I.os,I.bare,⟨fun b o e n hb hx=>?_,fun b o e n hb hx=>?_,I.base.free,fun b o e hx=>?_,I.base.tups,I.base.frzs,I.base.tbls⟩,⟨_,hn',fun j y v' e1 e2 e3=>?_⟩,fun y c e=>?_,I.free,I.freeC,fun p hp=>?_,tracked ⟨oL,hoL,I.free⟩ hs,by simpa using I.len⟩ ⟨_,hs,.inl rfl⟩
  ·exact (hs.2 b (Nat.ne_of_lt (Nat.lt_of_lt_of_le (Heap.lt_size e) I.ok.above))).trans (I.base.keep b o e n hb hx)
  ·obtain ⟨sl,e1⟩:=I.base.slot b o e n hb hx
   exact ⟨sl,(hs.2 b (Nat.ne_of_lt (Nat.lt_of_lt_of_le (Heap.lt_size e) I.ok.above))).trans e1⟩
  ·obtain ⟨o',e1⟩:=I.base.there b o e hx
   exact ⟨o',(hs.2 b (Nat.ne_of_lt (Nat.lt_of_lt_of_le (Heap.lt_size e) I.ok.above))).trans e1⟩
  ·by_cases hj:j=i
   ·subst hj
    rw [hi] at e1;cases e1
    rw [List.getElem?_set_self hiσ] at e2
    cases e2
    exact ⟨u,r,.inl ⟨hk,by simp⟩⟩
   ·rw [List.getElem?_set_ne (Ne.symm hj)] at e2
    obtain ⟨u',r',q⟩:=hl j y v' e1 e2 e3
    refine ⟨u',r',?_⟩
    rcases q with ⟨k,e⟩ | ⟨k,c,e,z⟩
    ·refine .inl ⟨k,?_⟩
     have:y≠x:=fun e=>hj (vE hN e1 (e▸hi))
     simp [this,e]
    ·exact .inr ⟨k,c,e,z.sameBut hs (cne y c e)⟩
  ·obtain ⟨w',z⟩:=I.cell y c e
   exact ⟨w',z.sameBut hs (cne y c e)⟩
  ·obtain ⟨e,n,ne,nf,d⟩:=I.pin p hp
   exact ⟨(hs.2 p.1 ne).trans e,n,ne,nf,d⟩
 ·have hfn:X.fn x=true:=by
   rcases hf with z | z
   ·exact z
   ·rw [z] at hk;cases hk
  obtain ⟨c,hc⟩:=I.ok.has x (.inl hk)
  obtain ⟨w',z⟩:=I.cell x c hc
  refine wpAny_storeName_cell I.ok.kind hk hc z (fun h' hc' hs=>?_)
  obtain ⟨oc,hoc,hocd⟩:=id z
  refine h { s with heap:=h' } ⟨I.ok,I.os,I.bare,⟨fun b o e n hb hx=>?_,fun b o e n hb hx=>?_,I.base.free,fun b o e hx=>?_,I.base.tups,I.base.frzs,I.base.tbls⟩,⟨m,hn.sameBut hs (Ne.symm (cne x c hc)),fun j y v' e1 e2 e3=>?_⟩,fun y c' e=>?_,I.free,I.freeC,fun p hp=>?_,tracked ⟨oc,hoc,I.freeC x c hc⟩ hs,by simpa using I.len⟩ ⟨c,hs,.inr hc⟩
  ·exact (hs.2 b (Nat.ne_of_lt (Nat.lt_of_lt_of_le (Heap.lt_size e) (I.ok.cab x c hfn hc)))).trans (I.base.keep b o e n hb hx)
  ·obtain ⟨sl,e1⟩:=I.base.slot b o e n hb hx
   exact ⟨sl,(hs.2 b (Nat.ne_of_lt (Nat.lt_of_lt_of_le (Heap.lt_size e) (I.ok.cab x c hfn hc)))).trans e1⟩
  ·obtain ⟨o',e1⟩:=I.base.there b o e hx
   exact ⟨o',(hs.2 b (Nat.ne_of_lt (Nat.lt_of_lt_of_le (Heap.lt_size e) (I.ok.cab x c hfn hc)))).trans e1⟩
  ·by_cases hj:j=i
   ·subst hj
    rw [hi] at e1;cases e1
    rw [List.getElem?_set_self hiσ] at e2
    cases e2
    exact ⟨u,r,.inr ⟨.inl hk,c,hc,hc'⟩⟩
   ·rw [List.getElem?_set_ne (Ne.symm hj)] at e2
    obtain ⟨u',r',q⟩:=hl j y v' e1 e2 e3
    refine ⟨u',r',?_⟩
    rcases q with q | ⟨k,c',e,z'⟩
    ·exact .inl q
    ·refine .inr ⟨k,c',e,z'.sameBut hs ?_⟩
     rintro rfl
     exact hj (vE hN e1 (I.ok.inj _ _ _ e hc▸hi))
  ·by_cases hcc:c'=c
   ·subst hcc;exact ⟨_,hc'⟩
   ·obtain ⟨w2,z2⟩:=I.cell y c' e
    exact ⟨w2,z2.sameBut hs hcc⟩
  ·obtain ⟨e,n,ne,nf,d⟩:=I.pin p hp
   refine ⟨(hs.2 p.1 ?_).trans e,n,ne,nf,d⟩
   intro q
   rw [q,hoc] at e
   have q':oc=p.2:=Option.some.inj e
   exact d w' (by rw [<- q'];exact hocd)
theorem v7 {M:Model} {A:Around} {E:Value->Shared->Prop} {i:Nat} {x:Str} {v:V} {u:Value} {Q:Unit->Shared->Prop} (I:Inv X pins σ H s) (hN:X.N.Nodup) (hi:X.N[i]?=some x) (hx:Loc X.env.scope x) (r:RelV v u)
  (h:∀ s',Inv X pins (σ.set i (some v)) H s'->Q () s') (hf:X.fn x=true∨X.env.scope.names.lookup x=some .local:=by first | exact .inl rfl | exact .inr rfl | assumption):wpAny M A (storeName X.env x u) Q E s :=
 KC I hN hi hx r (fun s' I' _=>h s' I') hf
theorem Inv.call' {s':Shared} {ch:List Addr} (I:Inv X pins σ H s) (ho:s'.os=s.os) (u:Un (frs X.stack) ch H H' s.heap s'.heap) (hok:HOk X.prog X.w H' s'.heap) (hg:AllBare s'.gens)
  (hch:∀ b∈ch,(b∈X.ex∨X.s₀.heap.objs.size<=b)/\b≠X.env.locals/\(∀ x c,X.env.cells.lookup x=some c->c≠b)/\∀ p∈X.pn++pins,p.1≠b):Inv X pins σ H' s':=by
 obtain ⟨h',g',d',t',o'⟩:=s'
 have e:o'=s.os:=ho
 subst e
 exact I.call (g':=g') (t':=t') (d':=d') u hok hg hch
end
abbrev XK:=Value->Option Addr->Hp->Prop
abbrev St:=List (Option V)
abbrev VK:=V->Hp->Prop
abbrev TE:=St->Hp->VK->Prop
abbrev TT:=St->Hp->(Bool->Hp->Prop)->Prop
abbrev TA:=St->Hp->(List V->Hp->Prop)->Prop
structure KK where
 nx:St->Hp->Prop
 rt:VK
 bk:St->Hp->Prop:=fun _ _=>False
 ct:St->Hp->Prop:=fun _ _=>False
abbrev TS:=KK->St->Hp->Prop
def EP (X:Cx) (pins:List (Addr×Obj)) (σ:St) (Q:VK) (u:Value) (s':Shared):Prop:=∃ v H',Inv X pins σ H' s'/\RelV v u/\Q v H'
def TP (X:Cx) (pins:List (Addr×Obj)) (σ:St) (Q:Bool->Hp->Prop) (b:Bool) (s':Shared):Prop:=∃ H',Inv X pins σ H' s'/\Q b H'
def AP (X:Cx) (pins:List (Addr×Obj)) (σ:St) (Q:List V->Hp->Prop) (us:List Value) (s':Shared):Prop:=∃ vs H',Inv X pins σ H' s'/\Vals vs us/\Q vs H'
def SP (X:Cx) (pins:List (Addr×Obj)) (D:KK) (f:Flow) (s':Shared):Prop :=
 match f with
 | .next=>∃ σ' H',Inv X pins σ' H' s'/\D.nx σ' H'
 | .brk=>∃ σ' H',Inv X pins σ' H' s'/\D.bk σ' H'
 | .cont=>∃ σ' H',Inv X pins σ' H' s'/\D.ct σ' H'
 | .ret u=>∃ v σ' H',Inv X pins σ' H' s'/\RelV v u/\D.rt v H'
def PE (X:Cx) (e:Expr) (t:TE):Prop :=
 ∀ (pins:List (Addr×Obj)) (s:Shared) (σ:St) (H:Hp) (Q:VK),Inv X pins σ H s->t σ H Q->wpAny (model X.prog X.w) X.A (eval e X.env) (EP X pins σ Q) X.xe s
def PT (X:Cx) (e:Expr) (t:TT):Prop :=
 ∀ (pins:List (Addr×Obj)) (s:Shared) (σ:St) (H:Hp) (Q:Bool->Hp->Prop),Inv X pins σ H s->t σ H Q->wpAny (model X.prog X.w) X.A (isTrue e X.env (eval e X.env)) (TP X pins σ Q) X.xe s
def PW (X:Cx) (e:Expr) (t:TT):Prop :=
 ∀ (whole:Sem Value) (pins:List (Addr×Obj)) (s:Shared) (σ:St) (H:Hp) (Q:Bool->Hp->Prop),Inv X pins σ H s->t σ H Q->wpAny (model X.prog X.w) X.A (isTrue e X.env whole) (TP X pins σ Q) X.xe s
def PA (X:Cx) (es:List Expr) (t:TA):Prop :=
 ∀ (pos:Pos) (pins:List (Addr×Obj)) (s:Shared) (σ:St) (H:Hp) (Q:List V->Hp->Prop),Inv X pins σ H s->t σ H Q->wpAny (model X.prog X.w) X.A (spliced (backTo pos (starEach es X.env))) (AP X pins σ Q) X.xe s
def PS (X:Cx) (st:Stmt) (t:TS):Prop :=
 ∀ (pins:List (Addr×Obj)) (s:Shared) (σ:St) (H:Hp) (D:KK),Inv X pins σ H s->t D σ H->wpAny (model X.prog X.w) X.A (exec st X.env) (SP X pins D) X.xe s
def PSs (X:Cx) (st:List Stmt) (t:TS):Prop :=
 ∀ (pins:List (Addr×Obj)) (s:Shared) (σ:St) (H:Hp) (D:KK),Inv X pins σ H s->t D σ H->wpAny (model X.prog X.w) X.A (execs st X.env) (SP X pins D) X.xe s
theorem thn {α:Type} {t:Sem α} {Q Q':α->Shared->Prop} {M:Model} {A:Around} {E:Value->Shared->Prop} {s:Shared} (h:wpAny M A t Q E s) (hQ:∀ a s,Q a s->Q' a s):wpAny M A t Q' E s:=wpAny_mono h hQ fun _ _ x=>x
end L2
namespace L2
open PySem PySem.Spec PyProof.Rows
section
variable {X:Cx}
theorem bin {a b:Expr} {ta tb:TE} (ha:PE X a ta) (hb:PE X b tb) {pins:List (Addr×Obj)} {s:Shared} {σ:St} {H:Hp} {R:V->V->Hp->Prop} (I:Inv X pins σ H s) (h:ta σ H fun x H1=>tb σ H1 fun y H2=>R x y H2)
  {α:Type} {Q:α->Shared->Prop} {f:Value->Value->Sem α}
  (hf:∀ v u s2 x y H2,Inv X pins σ H2 s2->RelV x v->RelV y u->R x y H2->wpAny (model X.prog X.w) X.A (f v u) Q X.xe s2) :
  wpAny (model X.prog X.w) X.A (eval a X.env) (fun v s₁=>wpAny (model X.prog X.w) X.A (eval b X.env) (fun u s₂=>wpAny (model X.prog X.w) X.A (f v u) Q X.xe s₂) X.xe s₁) X.xe s:=by
 refine thn (ha pins s σ H _ I h) fun v s1 ⟨x,H1,I1,r1,q1⟩=>?_
 refine thn (hb pins s1 σ H1 _ I1 q1) fun u s2 ⟨y,H2,I2,r2,q2⟩=>?_
 exact hf v u s2 x y H2 I2 r1 r2 q2
def Qh2 (i:Nat):TE:=fun σ H Q=>∃ v,σ[i]?=some (some v)/\Q v H
def tC (v:V):TE:=fun _ H Q=>Q v H
theorem Qf1 {i:Nat} {x:Str} {pos:Pos} (hN:X.N[i]?=some x) (hv:Vis X.env.scope x) (hd:(x==("__debug__" : Str))=false:=by decide) (hcd:(x==("__classdict__" : Str))=false:=by decide):PE X (.Name x pos) (Qh2 i):=by
 intro pins s σ H Q I h
 obtain ⟨v,e,h⟩:=h
 obtain ⟨m,hn,hl⟩:=I.loc
 obtain ⟨u,r,l⟩:=hl i x v hN e hv
 have fin:EP X pins σ Q u s:=⟨v,H,I,r,h⟩
 rcases l with ⟨hk,hm⟩ | ⟨hk,c,hc,hcell⟩
 ·exact wpAny_Name (wpAny_loadName_local I.ok.kind hk hn hm fin) hd
 ·rcases hk with hk | hk
  ·exact wpAny_Name (wpAny_loadName_cell I.ok.kind hk hc hcell fin) hd
  ·exact wpAny_Name (wpAny_loadName_free I.ok.kind hk hc hcell fin hcd) hd
theorem QfV {i j pos}:PE X (.Constant (.int i) j pos) (tC (.int i)):=fun _ _ _ H _ I h=>wpAny_Constant_int ⟨.int i,H,I.tok _,⟨_,rfl⟩,h⟩
theorem Qg7 {b j pos}:PE X (.Constant (.bool b) j pos) (tC (.bl b)):=fun _ _ _ H _ I h=>Constant_bool ⟨.bl b,H,I,rfl,h⟩
theorem QfW {j pos}:PE X (.Constant .none j pos) (tC .non):=fun _ _ _ H _ I h=>Constant_none ⟨.non,H,I,rfl,h⟩
theorem QfZ {x j pos}:PE X (.Constant (.str x) j pos) (tC (.str x)):=fun _ _ _ H _ I h=>Calls.Constant_str ⟨.str x,H,I.tok _,⟨_,rfl⟩,h⟩
def Gl (X:Cx) (x:Str):Prop:=X.env.kindOf x=some .globalImplicit
theorem Gn {E:Value->Shared->Prop} {pins:List (Addr×Obj)} {s:Shared} {σ:St} {H:Hp} {x:Str} {u:Value} {pos:Pos} {Q:Value->Shared->Prop} (I:Inv X pins σ H s) (hg:Gl X x) (hm:X.mg x=some u) (h:Q u s)
  (hd:(x==("__debug__" : Str))=false:=by decide):wpAny (model X.prog X.w) X.A (eval (.Name x pos) X.env) Q E s :=
 Calls.Name_function_global I.ok.kind hg (Calls.loadGlobal_global (by rw [I.ok.glob];exact I.mod.glob.keeps I.bk) hm h) hd
theorem YQ {E:Value->Shared->Prop} {pins:List (Addr×Obj)} {s:Shared} {σ:St} {H:Hp} {x:Str} {u:Value} {pos:Pos} {Q:Value->Shared->Prop} (I:Inv X pins σ H s) (hg:Gl X x) (hm:X.mg x=none) (hv:bootBuiltins x=some u) (h:Q u s)
  (hn:x ≠ "__name__" := by decide) (hd:(x==("__debug__" : Str))=false:=by decide):wpAny (model X.prog X.w) X.A (eval (.Name x pos) X.env) Q E s:=by
 obtain ⟨mb,h1,h2⟩:=I.mod.blt
 exact Calls.Name_function_global I.ok.kind hg (Calls.loadGlobal_builtin (by rw [I.ok.glob];exact I.mod.glob.keeps I.bk) hm (by rw [I.ok.blt];exact h1.keeps I.bk) ((h2 x hn).trans hv) h) hd
theorem Qab {x:Str} {v:V} {u:Value} {pos:Pos} (hg:Gl X x) (hm:X.mg x=some u) (r:RelV v u) (hd:(x==("__debug__" : Str))=false:=by decide):PE X (.Name x pos) (tC v) :=
 fun _ _ _ H _ I h=>Gn I hg hm ⟨v,H,I,r,h⟩ hd
theorem Qef {x:Str} {v:V} {u:Value} {pos:Pos} (hg:Gl X x) (hm:X.mg x=none) (hv:bootBuiltins x=some u) (r:RelV v u) (hn:x ≠ "__name__" := by decide) (hd:(x==("__debug__" : Str))=false:=by decide):PE X (.Name x pos) (tC v) :=
 fun _ _ _ H _ I h=>YQ I hg hm hv ⟨v,H,I,r,h⟩ hn hd
variable {a b:Expr} {ta tb:TE} {pos:Pos}
def PC (X:Cx) (op:CmpOp) (a b:Expr) (t:TE):Prop :=
  ∀ (pins : List (Addr × Obj)) (s : Shared) (σ : St) (H : Hp) (Q : VK), Inv X pins σ H s -> t σ H Q ->
    wpAny (model X.prog X.w) X.A (eval a X.env) (fun v s₁=>wpAny (model X.prog X.w) X.A (eval b X.env) (fun u s₂=>wpAny (model X.prog X.w) X.A (compareOp op v u) (EP X pins σ Q) X.xe s₂) X.xe s₁) X.xe s
theorem Qcr (b:Expr) {op:CmpOp} (h:op≠.In) (h2:op≠.NotIn):behindInMarks op b=false:=by
 have e1:(op==CmpOp.In)=false:=by cases op<;>first | rfl | exact absurd rfl h
 have e2:(op==CmpOp.NotIn)=false:=by cases op<;>first | rfl | exact absurd rfl h2
 cases b<;>simp [behindInMarks,e1,e2]
def tB (t:TE):TT:=fun σ H Q=>t σ H fun x H1=>∃ c,x=.bl c/\Q c H1
theorem QhL {op:CmpOp} {t:TE} (h:PC X op a b t) (h1:behindInMarks op b=false:=by first | exact Qcr _ (by decide) (by decide) | rfl):PT X (.Compare a [op] [b] pos) (tB t):=by
 intro pins s σ H Q I hw
 refine wpAny_isTrue_Compare1 (thn (h pins s σ H _ I hw) fun v s1 h1=>thn h1 fun u s2 h2=>thn h2 fun c s3 ⟨x,H1,I1,r1,q1⟩=>?_) h1
 obtain ⟨d,rfl,q⟩:=q1
 cases r1
 exact wpAny_truthy_bool ⟨H1,I1,q⟩
theorem Qge {e:Expr} {t:TE} (h:PE X e t) (he:∀ whole,isTrue e X.env whole=(do let v <- whole;standAt e.pos;holding [v] (truthy v)):=by intro _;rfl):PT X e (tB t):=by
 intro pins s σ H Q I hw
 refine isTrue_plain (thn (h pins s σ H _ I hw) fun v s1 ⟨x,H1,I1,r1,q1⟩=>?_) (he _)
 obtain ⟨d,rfl,q⟩:=q1
 cases r1
 exact wpAny_truthy_bool ⟨H1,I1,q⟩
variable {tA tB':TT} {rest:List Expr}
def QhU (t u:TT):TT:=fun σ H Q=>t σ H fun c H1=>if c=true then u σ H1 Q else Q false H1
def tOr (t u:TT):TT:=fun σ H Q=>t σ H fun c H1=>if c=true then Q true H1 else u σ H1 Q
def QhZ (t:TT):TT:=fun σ H Q=>t σ H fun c H1=>Q (!c) H1
theorem QeB (ha:PT X a tA):PW X (.BoolOp .And [a] pos) tA:=by
 intro wh pins s σ H Q I h
 refine isTrue_and (thn (ha pins s σ H Q I h) fun c s1 e=>?_)
 cases c with
 | true=>exact isTrue_and_nil e
 | false=>exact e
theorem Qgh (ha:PT X a tA):PW X (.BoolOp .Or [a] pos) tA:=by
 intro wh pins s σ H Q I h
 refine isTrue_or (thn (ha pins s σ H Q I h) fun c s1 e=>?_)
 cases c with
 | false=>exact isTrue_or_nil e
 | true=>exact e
theorem Qgg (ha:PT X a tA) (hb:PW X (.BoolOp .And (b::rest) pos) tB'):PW X (.BoolOp .And (a::b::rest) pos) (QhU tA tB'):=by
 intro wh pins s σ H Q I h
 refine isTrue_and (thn (ha pins s σ H _ I h) fun c s1 ⟨H1,I1,q1⟩=>?_)
 cases c with
 | true=>exact hb wh pins s1 σ H1 Q I1 q1
 | false=>exact ⟨H1,I1,q1⟩
theorem Qhc (ha:PT X a tA) (hb:PW X (.BoolOp .Or (b::rest) pos) tB'):PW X (.BoolOp .Or (a::b::rest) pos) (tOr tA tB'):=by
 intro wh pins s σ H Q I h
 refine isTrue_or (thn (ha pins s σ H _ I h) fun c s1 ⟨H1,I1,q1⟩=>?_)
 cases c with
 | true=>exact ⟨H1,I1,q1⟩
 | false=>exact hb wh pins s1 σ H1 Q I1 q1
theorem Qgd (ha:PT X a tA):PT X (.UnaryOp .Not a pos) (QhZ tA):=by
 intro pins s σ H Q I h
 exact isTrue_not (ha pins s σ H (fun c H1=>Q (!c) H1) I h)
def Qhl (ta tb:TE):TE:=fun σ H Q=>ta σ H fun x H1=>∃ c,x=.bl c/\if c=true then tb σ H1 Q else Q (.bl false) H1
def Qhr (ta:TE):TE:=fun σ H Q=>ta σ H fun x H1=>∃ c,x=.bl c/\Q (.bl (!c)) H1
theorem QfY {op} {t:TE} (h:PE X a t):PE X (.BoolOp op [a] pos) t:=fun pins s σ H Q I hw=>BoolOp_one (h pins s σ H Q I hw)
theorem QfT (ha:PE X a ta) (hb:PE X (.BoolOp .And (b::rest) pos) tb):PE X (.BoolOp .And (a::b::rest) pos) (Qhl ta tb):=by
 intro pins s σ H Q I h
 refine BoolOp_and (thn (ha pins s σ H _ I h) fun v s1 ⟨x,H1,I1,r1,q1⟩=>?_)
 obtain ⟨c,rfl,q1⟩:=q1
 cases r1
 refine wpAny_truthy_bool ?_
 cases c with
 | true=>exact hb pins s1 σ H1 Q I1 q1
 | false=>exact ⟨.bl false,H1,I1,rfl,q1⟩
theorem QfX (ha:PE X a ta):PE X (.UnaryOp .Not a pos) (Qhr ta):=by
 intro pins s σ H Q I h
 refine UnaryOp_ (thn (ha pins s σ H _ I h) fun v s1 ⟨x,H1,I1,r1,q1⟩=>?_)
 obtain ⟨c,rfl,q1⟩:=q1
 cases r1
 exact not_of (wpAny_truthy_bool ⟨.bl (!c),H1,I1,rfl,q1⟩)
def tIf (t:TT) (ta tb:TE):TE:=fun σ H Q=>t σ H fun c H1=>if c=true then ta σ H1 Q else tb σ H1 Q
theorem QcD {c:Expr} (hc:PT X c tA) (ha:PE X a ta) (hb:PE X b tb):PE X (.IfExp c a b pos) (tIf tA ta tb):=by
 intro pins s σ H Q I h
 refine wpAny_IfExp (thn (hc pins s σ H _ I h) fun d s1 ⟨H1,I1,q1⟩=>?_)
 cases d with
 | true=>exact ha pins s1 σ H1 Q I1 q1
 | false=>exact hb pins s1 σ H1 Q I1 q1
end
end L2
namespace L2
open PySem PySem.Spec PyProof.Rows
def SqL (K:PySem.W.Frag) (H:Hp) (a:Addr) (xs:List V):Prop :=
 Rd H a (.lst xs) ∨
  ∃ (o:Obj) (its:Array Value) (n:Nat),K.lookup a=some o/\o.cls=.type "list" /\ o.dict=none/\o.data=.seq its n/\its.size<=sizeLine/\Vals xs its.toList
def SqT (K:PySem.W.Frag) (H:Hp) (a:Addr) (xs:List V):Prop :=
 Rd H a (.tup xs) ∨
  ∃ (o:Obj) (its:Array Value) (n:Nat),K.lookup a=some o/\o.cls=.type "tuple" /\ o.data=.seq its n/\its.size<=sizeLine/\Vals xs its.toList
def QhA:Value->Option V
 | .none=>some .non
 | .bool b=>some (.bl b)
 | .int i _=>some (.int i)
 | .str x _=>some (.str x)
 | .bytes b _=>some (.byt b)
 | .float b _=>some (.flt b)
 | .ref a=>some (.ref a)
 | .type n=>some (.ty n)
 | _=>none
theorem RelV.abs {x:V} {u:Value} (r:RelV x u):QhA u=some x:=by
 cases x with
 | non=>cases r;rfl
 | bl _=>cases r;rfl
 | int _=>obtain ⟨t,rfl⟩:=r;rfl
 | str _=>obtain ⟨t,rfl⟩:=r;rfl
 | byt _=>obtain ⟨t,rfl⟩:=r;rfl
 | flt _=>obtain ⟨t,rfl⟩:=r;rfl
 | ref _=>cases r;rfl
 | ty _=>cases r;rfl
theorem RelV.inj {x y:V} {u:Value} (r:RelV x u) (q:RelV y u):x=y:=Option.some.inj (r.abs.symm.trans q.abs)
theorem Vals.inj:∀ {xs ys:List V} {us:List Value},Vals xs us->Vals ys us->xs=ys
 | _,_,_,.nil,.nil=>rfl
 | _,_,_,.cons r t,.cons r' t'=>by rw [r.inj r',Vals.inj t t']
section
variable {X:Cx} {pins:List (Addr×Obj)} {σ:St} {H:Hp} {s:Shared} {a:Addr} {xs ys:List V}
theorem SqL.of {K:PySem.W.Frag} (h:H a=some (.lst xs)):SqL K H a xs:=.inl (.inl h)
theorem SqT.of {K:PySem.W.Frag} (h:H a=some (.tup xs)):SqT K H a xs:=.inl (.inl h)
theorem Inv.list (I:Inv X pins σ H s) (h:SqL X.K H a xs):∃ its:List Value,Vals xs its/\PlainL s.heap a its.toArray/\xs.length<=sizeLine:=by
 rcases h with h | ⟨o,its,n,hk,hc,hd,hs,hz,r⟩
 ·obtain ⟨z,its,n,r,e⟩:=h.ok I.hok
  exact ⟨its,r,⟨_,n,e,rfl,rfl,rfl⟩,z⟩
 ·refine ⟨its.toList,r,⟨o,n,I.kIn a o hk,hc,hd,by simpa using hs⟩,?_⟩
  have e:=r.length
  simp only [Array.length_toList] at e
  omega
theorem Inv.tuple (I:Inv X pins σ H s) (h:SqT X.K H a xs):∃ its:List Value,Vals xs its/\IsTup s.heap a its.toArray/\xs.length<=sizeLine:=by
 rcases h with h | ⟨o,its,n,hk,hc,hs,hz,r⟩
 ·obtain ⟨z,its,r,p⟩:=h.ok I.hok
  exact ⟨its,r,p,z⟩
 ·refine ⟨its.toList,r,⟨o,I.kIn a o hk,hc,n,by simpa using hs⟩,?_⟩
  have e:=r.length
  simp only [Array.length_toList] at e
  omega
theorem Inv.list_inj (I:Inv X pins σ H s) (h:SqL X.K H a xs) (h':SqL X.K H a ys):xs=ys:=by
 obtain ⟨its,r,⟨o,n,e,_,_,d⟩,_⟩:=I.list h
 obtain ⟨its',r',⟨o',n',e',_,_,d'⟩,_⟩:=I.list h'
 rw [e] at e';cases e'
 rw [d] at d'
 injection d' with d1 _
 have:its=its':=by simpa using congrArg Array.toList d1
 subst this
 exact r.inj r'
theorem Inv.tuple_inj (I:Inv X pins σ H s) (h:SqT X.K H a xs) (h':SqT X.K H a ys):xs=ys:=by
 obtain ⟨its,r,⟨o,e,_,n,d⟩,_⟩:=I.tuple h
 obtain ⟨its',r',⟨o',e',_,n',d'⟩,_⟩:=I.tuple h'
 rw [e] at e';cases e'
 rw [d] at d'
 injection d' with d1 _
 have:its=its':=by simpa using congrArg Array.toList d1
 subst this
 exact r.inj r'
end
abbrev Cx.wish (X:Cx) (E:Value->Shared->Prop):Cx:={ X with xe:=E }
abbrev Cx.nox (X:Cx):Cx:=X.wish fun _ _=>False
theorem Cx.Ok.wish {X:Cx} (ok:X.Ok) (E:Value->Shared->Prop):(X.wish E).Ok :=
 ⟨ok.mod,ok.kind,ok.glob,ok.blt,ok.above,ok.inj,ok.has,ok.cab,ok.hd,ok.frames,ok.stk,ok.exf,ok.bs,ok.bsz,ok.noex,ok.exfs,ok.funs,ok.frf⟩
theorem Cx.Ok.unwish {X:Cx} {E:Value->Shared->Prop} (ok:(X.wish E).Ok):X.Ok :=
 ⟨ok.mod,ok.kind,ok.glob,ok.blt,ok.above,ok.inj,ok.has,ok.cab,ok.hd,ok.frames,ok.stk,ok.exf,ok.bs,ok.bsz,ok.noex,ok.exfs,ok.funs,ok.frf⟩
section
variable {X:Cx} {pins:List (Addr×Obj)} {σ:St} {H:Hp} {s:Shared} {E:Value->Shared->Prop}
theorem Inv.wish (I:Inv X pins σ H s) (E:Value->Shared->Prop):Inv (X.wish E) pins σ H s:=⟨I.ok.wish E,I.os,I.bare,I.base,I.loc,I.cell,I.free,I.freeC,I.pin,I.hok,I.len⟩
theorem Inv.unwish (I:Inv (X.wish E) pins σ H s):Inv X pins σ H s:=⟨I.ok.unwish,I.os,I.bare,I.base,I.loc,I.cell,I.free,I.freeC,I.pin,I.hok,I.len⟩
theorem SP.unwish {D:KK} {f:Flow} {s':Shared} (h:SP (X.wish E) pins D f s'):SP X pins D f s':=by
 cases f with
 | next=>obtain ⟨σ',H',I,q⟩:=h;exact ⟨σ',H',I.unwish,q⟩
 | brk=>obtain ⟨σ',H',I,q⟩:=h;exact ⟨σ',H',I.unwish,q⟩
 | cont=>obtain ⟨σ',H',I,q⟩:=h;exact ⟨σ',H',I.unwish,q⟩
 | ret u=>obtain ⟨v,σ',H',I,r,q⟩:=h;exact ⟨v,σ',H',I.unwish,r,q⟩
theorem PSs.nox {st:List Stmt} {t:TS} (h:PSs X.nox st t):PSs X st t:=fun pins s σ H D I hw =>
 wpAny_mono (h pins s σ H D (I.wish _) hw) (fun _ _ q=>q.unwish) fun _ _ z=>False.elim z
end
section
variable {X:Cx} {st:Stmt} {rest:List Stmt} {t u:TS} {e:Expr} {te:TE} {pos:Pos}
def Qhp:TS:=fun D σ H=>D.nx σ H
def Qht (t u:TS):TS:=fun D σ H=>t { D with nx:=u D } σ H
theorem pss_nil:PSs X [] Qhp:=fun _ _ σ H _ I h=>wpAny_execs_nil ⟨σ,H,I,h⟩
theorem QcR (h1:PS X st t) (h2:PSs X rest u):PSs X (st::rest) (Qht t u):=by
  intro pins s σ H D I h
  refine wpAny_execs_cons (thn (h1 pins s σ H { D with nx:=u D } I h) fun f s1 q=>?_)
  cases f with
  | next =>
    obtain ⟨σ',H',I',q⟩:=q
    exact h2 pins s1 σ' H' D I' q
  | ret v=>exact q
  | brk=>exact q
  | cont=>exact q
theorem Qew (h1:PS X st t):PSs X [st] t:=by
 intro pins s σ H D I h
 refine wpAny_execs_cons (thn (h1 pins s σ H D I h) fun f s1 q=>?_)
 cases f with
 | next=>exact wpAny_execs_nil q
 | ret v=>exact q
 | brk=>exact q
 | cont=>exact q
theorem Inv.quiet {pins:List (Addr×Obj)} {σ:St} {H:Hp} {s:Shared} (I:Inv X pins σ H s):interactive X.env=false:=by simp [interactive,I.ok.kind]
def Qho (te:TE):TS:=fun D σ H=>te σ H fun _ H1=>D.nx σ H1
theorem Qev (he:PE X e te) (hs:swapsWith e none pos.line X.env=pure false:=by rfl):PS X (.Expr e pos) (Qho te):=by
 intro pins s σ H D I h
 exact wpAny_Expr_any (thn (he pins s σ H _ I h) fun v s1 ⟨x,H1,I1,r1,q1⟩=>⟨σ,H1,I1,q1⟩) I.quiet hs
def Qh0 (te:TE):TS:=fun D σ H=>te σ H D.rt
theorem Qgb (he:PE X e te):PS X (.Return (some e) pos) (Qh0 te):=by
 intro pins s σ H D I h
 exact wpAny_Return_some (thn (he pins s σ H _ I h) fun v s1 ⟨x,H1,I1,r1,q1⟩=>⟨x,σ,H1,I1,r1,q1⟩)
def QhX (c:TT) (t u:TS):TS:=fun D σ H=>c σ H fun b H1=>if b=true then t D σ H1 else u D σ H1
theorem Qhb {c:Expr} {a b:List Stmt} {tc:TT} (hc:PT X c tc) (ha:PSs X a t) (hb:PSs X b u):PS X (.If c a b pos) (QhX tc t u):=by
 intro pins s σ H D I h
 refine wpAny_If (thn (hc pins s σ H _ I h) fun d s1 ⟨H1,I1,q1⟩=>?_)
 cases d with
 | true=>exact ha pins s1 σ H1 D I1 q1
 | false=>exact hb pins s1 σ H1 D I1 q1
def Qgo:TS:=fun _ _ _=>False
theorem QcQ:PS X st Qgo:=fun _ _ _ _ _ _ h=>h.elim
end
abbrev TG:=V->St->Hp->(St->Hp->Prop)->Prop
abbrev TGs:=List V->St->Hp->(St->Hp->Prop)->Prop
def PG (X:Cx) (target:Expr) (t:TG):Prop :=
  ∀ (pins : List (Addr × Obj)) (s : Shared) (σ : St) (H : Hp) (v : V) (u : Value) (Q : St -> Hp -> Prop), Inv X pins σ H s -> RelV v u -> t v σ H Q ->
    wpAny (model X.prog X.w) X.A (assign target X.env u) (fun _ s'=>∃ σ' H',Inv X pins σ' H' s'/\Q σ' H') X.xe s
def PGs (X:Cx) (ts:List Expr) (t:TGs):Prop :=
  ∀ (pins : List (Addr × Obj)) (s : Shared) (σ : St) (H : Hp) (vs : List V) (us : List Value) (Q : St -> Hp -> Prop), Inv X pins σ H s -> Vals vs us -> t vs σ H Q ->
    wpAny (model X.prog X.w) X.A (assignInOrder ((assignEach ts X.env).map (·.2)) us) (fun _ s'=>∃ σ' H',Inv X pins σ' H' s'/\Q σ' H') X.xe s
abbrev QdE:=V->V->V->Hp->(Hp->Prop)->Prop
def QdD (X:Cx) (t:QdE):Prop :=
  ∀ (pins : List (Addr × Obj)) (s : Shared) (σ : St) (H : Hp) (o i v : V) (ov iv u : Value) (Q : Hp -> Prop), Inv X pins σ H s -> RelV o ov -> RelV i iv -> RelV v u -> t o i v H Q ->
    wpAny (model X.prog X.w) X.A (setItem ov iv u) (fun _ s'=>∃ H',Inv X pins σ H' s'/\Q H') X.xe s
section
variable {X:Cx} {pos:Pos}
def kK (i:Nat):TG:=fun v σ H Q=>Q (σ.set i (some v)) H
theorem Gy {i:Nat} {x:Str} (hN:X.N.Nodup) (hi:X.N[i]?=some x) (hx:Loc X.env.scope x) (hf:X.fn x=true∨X.env.scope.names.lookup x=some .local:=by first | exact .inl rfl | exact .inr rfl | assumption):PG X (.Name x pos) (kK i):=by
 intro pins s σ H v u Q I r h
 exact wpAny_assign_Name (v7 I hN hi hx r (fun s' I'=>⟨_,H,I',h⟩) hf)
def QhC:TGs:=fun vs σ H Q=>vs=[]/\Q σ H
def QgR (t:TG) (u:TGs):TGs:=fun vs σ H Q=>∃ v r,vs=v::r/\t v σ H fun σ' H'=>u r σ' H' Q
theorem Qem:PGs X [] QhC:=by
 intro pins s σ H vs us Q I r h
 obtain ⟨e,h⟩:=h
 subst e
 cases r
 exact assignInOrder_nil ⟨σ,H,I,h⟩
theorem QcK {e:Expr} {es:List Expr} {t:TG} {u:TGs} (h1:PG X e t) (h2:PGs X es u)
    (hs:(assignEach (e::es) X.env).map (·.2)=assign e X.env::(assignEach es X.env).map (·.2):=by rfl):PGs X (e::es) (QgR t u):=by
  intro pins s σ H vs us Q I r h
  obtain ⟨v,vr,e1,h⟩:=h
  subst e1
  cases r with
  | cons r rr =>
    rw [hs]
    refine assignInOrder_cons (thn (h1 pins s σ H _ _ _ I r h) fun _ s1 ⟨σ1,H1,I1,q1⟩=>?_)
    exact h2 pins s1 σ1 H1 _ _ Q I1 rr q1
def QhE (K:PySem.W.Frag) (n:Nat) (t:TGs):TG:=fun v σ H Q=>∃ a xs,v=.ref a/\SqT K H a xs/\xs.length=n/\t xs σ H Q
theorem Qf4 {es:List Expr} {k:Nat} {t:TGs} {n:Nat} (hc:X.calm=true) (h:PGs X es t)
  (hn:(assignEach es X.env).length=n:=by rfl) (hst:(assignEach es X.env).findIdx? (·.1)=none:=by rfl):PG X (.Tuple es k pos) (QhE X.K n t):=by
 intro pins s σ H v u Q I r hw
 obtain ⟨a,xs,e1,hq,hl,hw⟩:=hw
 subst e1
 cases r
 obtain ⟨its,rv,ht,hz⟩:=I.tuple hq
 refine assign_Tuple_tuple (I.ok.hd hc) ht (by simp [hn,<- hl,rv.length]) hst fun h' hx=>?_
 have I1:Inv X pins σ H { s with heap:=h' }:=I.kept (t':=s.toks) fun b o e=>hx b o (Nat.ne_of_lt (Heap.lt_size e)) e
 exact h pins _ σ H xs _ Q I1 (by simpa using rv) hw
def QhD (to ti:TE) (t:QdE):TG:=fun v σ H Q=>to σ H fun o H1=>ti σ H1 fun i H2=>t o i v H2 fun H3=>Q σ H3
theorem Qf3 {o i:Expr} {to ti:TE} {t:QdE} (ho:PE X o to) (hi:PE X i ti) (hs:QdD X t)
  (ha:∀ v,assign (.Subscript o i pos) X.env v=(do
   let ov <- holding [v] (eval o X.env)
   let iv <- holding [v,ov] (eval i X.env)
   standAt pos
   holding [v,ov,iv] (setItem ov iv v)
   release [v,ov,iv] []):=by intro _;rfl):PG X (.Subscript o i pos) (QhD to ti t):=by
 intro pins s σ H v u Q I r h
 rw [ha]
 refine wpAny_bind (wpAny_holding (thn (ho pins s σ H _ I h) fun ov s1 ⟨x,H1,I1,r1,q1⟩=>?_))
 refine wpAny_bind (wpAny_holding (thn (hi pins s1 σ H1 _ I1 q1) fun iv s2 ⟨y,H2,I2,r2,q2⟩=>?_))
 refine wpAny_bind (wpAny_standAt (wpAny_bind (wpAny_holding (thn (hs pins s2 σ H2 x y v ov iv u _ I2 r1 r2 r q2) fun _ s3 ⟨H3,I3,q3⟩=>?_))))
 exact wpAny_release ⟨σ,H3,I3,q3⟩
def QeR (te:TE) (g:TG):TS:=fun D σ H=>te σ H fun x H1=>g x σ H1 D.nx
theorem Qf9 {tg e:Expr} {te:TE} {g:TG} (he:PE X e te) (hg:PG X tg g) (hs:swapsWithSole [tg] e pos.line X.env=pure false:=by rfl) (hw:swappedStores [tg] e X.env=pure none:=by rfl)
  (h1:(assignEach [tg] X.env).map (·.2)=[assign tg X.env]:=by rfl):PS X (.Assign [tg] e pos) (QeR te g):=by
 intro pins s σ H D I h
 refine wpAny_Assign_stores (thn (he pins s σ H _ I h) fun v s1 ⟨x,H1,I1,r1,q1⟩=>?_) hs hw
 rw [h1]
 exact thn (hg pins s1 σ H1 x v _ I1 r1 q1) fun _ s2 q=>q
theorem Qgc {i:Nat} {x:Str} {e:Expr} {te:TE} {pos':Pos} (hN:X.N.Nodup) (hi:X.N[i]?=some x) (hx:Loc X.env.scope x) (he:PE X e te) (hs:swapsWith e (some (.Name x pos')) pos.line X.env=pure false:=by rfl) (hf:X.fn x=true∨X.env.scope.names.lookup x=some .local:=by first | exact .inl rfl | exact .inr rfl | assumption) :
  PS X (.Assign [.Name x pos'] e pos) (QeR te (kK i)):=by
 intro pins s σ H D I h
 refine wpAny_Assign_Name (thn (he pins s σ H _ I h) fun v s1 ⟨y,H1,I1,r1,q1⟩=>?_) hs
 exact v7 I1 hN hi hx r1 (fun s2 I2=>⟨_,H1,I2,q1⟩) hf
end
section
variable {X:Cx} {pos:Pos}
end
structure It where
 go:Nat->Hp->Prop
 yld:Nat->Hp->V->Hp->Prop
 stop:Nat->Hp->Prop
def yW (X:Cx) (pins:List (Addr×Obj)) (H:Hp) (b:Addr):Prop :=
 H b=none/\b≠X.env.locals/\b∉X.fs/\(b∈X.ex∨X.s₀.heap.objs.size<=b)/\(∀ x c,X.env.cells.lookup x=some c->c≠b)/\∀ p∈X.pn++pins,p.1≠b
theorem Inv.fpOk {X:Cx} {pins:List (Addr×Obj)} {σ:St} {H H':Hp} {s:Shared} {b:Addr} (I:Inv X pins σ H s) (hb:s.heap.objs.size<=b) (hn:H' b=none):yW X pins H' b:=by
 refine ⟨hn,Nat.ne_of_gt (Nat.lt_of_lt_of_le I.lt hb),I.nofs hb,.inr (Nat.le_trans I.sz hb),fun x c e z=>?_,fun p hp z=>?_⟩
 ·obtain ⟨v,q⟩:=I.cell x c e
  exact absurd (Nat.lt_of_lt_of_le q.lt (by rw [z];exact hb)) (Nat.lt_irrefl _)
 ·exact absurd (Nat.lt_of_lt_of_le (Heap.lt_size (I.pin p hp).1) (by rw [z];exact hb)) (Nat.lt_irrefl _)
structure QaD (P:Program) (w:World) (K:PySem.W.Frag) (tg:Expr) (J:It) (fp:List Addr) (it:Addr) (tn:Nat->Heap->Prop):Prop where
 mem:it∈fp
 obj:∀ i h,tn i h->∀ b∈fp,∃ o,h.get? b=some o/\∀ v,o.data≠.cell v
 keep:∀ i h h',tn i h->(∀ b∈fp,∀ o,h.get? b=some o->h'.get? b=some o)->tn i h'
 item:∀ (X:Cx),X.prog=P->X.w=w->X.K=K->X.calm=true->∀ (i:Nat) (pins:List (Addr×Obj)) (s:Shared) (σ:St) (H:Hp) (E:Value->Shared->Prop),Inv X pins σ H s->(∀ b∈fp,yW X pins H b)->tn i s.heap->J.go i H ->
  wpAny (model P w) X.A (pyNext (.ref it)) (fun r s1=>∃ u,r=some u /\
   wpAny (model P w) X.A (letOwnedTupleGo tg (.ref it) u) (fun _ s2=>∃ x H',Inv X pins σ H' s2/\RelV x u/\J.yld i H x H'/\tn (i+1) s2.heap/\∀ b∈fp,H' b=none) E s1) E s
 done:∀ (X:Cx),X.prog=P->X.w=w->X.K=K->X.calm=true->∀ (i:Nat) (pins:List (Addr×Obj)) (s:Shared) (σ:St) (H:Hp) (E:Value->Shared->Prop),Inv X pins σ H s->(∀ b∈fp,yW X pins H b)->tn i s.heap->J.stop i H ->
  wpAny (model P w) X.A (pyNext (.ref it)) (fun r s1=>r=none/\Inv X pins σ H s1) E s
 self:∀ (A:Around) (i:Nat) (s:Shared) (Q:Value->Shared->Prop) (E:Value->Shared->Prop),tn i s.heap->Q (.ref it) s->wpAny (model P w) A (pyIter (.ref it)) Q E s
abbrev TI:=St->Hp->(It->Hp->Prop)->Prop
def PIE (X:Cx) (pins:List (Addr×Obj)) (σ:St) (tg:Expr) (R:It->Hp->Prop) (itv:Value) (s2:Shared):Prop :=
 ∃ (it:Addr) (fp:List Addr) (tn:Nat->Heap->Prop) (J:It) (H':Hp),itv=.ref it/\Inv X pins σ H' s2/\QaD X.prog X.w X.K tg J fp it tn/\tn 0 s2.heap/\(∀ b∈fp,yW X pins H' b)/\R J H'
def PI (X:Cx) (tg iter:Expr) (wi:TI):Prop :=
  ∀ (pins : List (Addr × Obj)) (s : Shared) (σ : St) (H : Hp) (R : It -> Hp -> Prop), Inv X pins σ H s -> wi σ H R ->
    wpAny (model X.prog X.w) X.A (eval iter X.env) (fun v s1=>wpAny (model X.prog X.w) X.A (pyIter v) (PIE X pins σ tg R) X.xe s1) X.xe s
theorem Qb0 {M:Model} {A:Around} {E:Value->Shared->Prop} {s:Shared} {tg:Expr} {it:Addr} {u:Value} {o:Obj} {n:String} {vs:Array Value} {Q:Unit->Shared->Prop} (ho:s.heap.get? it=some o) (hc:o.cls=.type n) (hd:o.data=.fields vs)
    (hn:["enumerate", "zip", "dict_itemiterator", "dict_reverseitemiterator", "odict_iterator", "itertools.zip_longest", "itertools.pairwise"].contains n=false) (hQ:Q () s):wpAny M A (letOwnedTupleGo tg (.ref it) u) Q E s:=by
  unfold letOwnedTupleGo
  cases tg<;>first
    | exact wpAny_pure hQ
    | (cases u<;>first
        | exact wpAny_pure hQ
        | (refine wpAny_bind (wpAny_load ho ?_)
           rw [hc,hd]
           show wpAny M A (if (["enumerate", "zip", "dict_itemiterator", "dict_reverseitemiterator", "odict_iterator", "itertools.zip_longest", "itertools.pairwise"].contains n&&vs[0]?==some (rawInt _))=true then _ else _) Q E s
           rw [if_neg (by intro h;rw [hn,Bool.false_and] at h;cases h)]
           exact wpAny_pure hQ))
def Itl (K:PySem.W.Frag) (a:Addr):It :=
 ⟨fun i H=>∃ xs x,SqL K H a xs/\xs[i]?=some x,fun i H x H'=>H'=H/\∀ xs,SqL K H a xs->xs[i]?=some x,fun i H=>∃ xs,SqL K H a xs/\xs.length<=i⟩
def Itt (K:PySem.W.Frag) (a:Addr):It :=
 ⟨fun i H=>∃ xs x,SqT K H a xs/\xs[i]?=some x,fun i H x H'=>H'=H/\∀ xs,SqT K H a xs->xs[i]?=some x,fun i H=>∃ xs,SqT K H a xs/\xs.length<=i⟩
def Itr (lo:Int) (n:Nat):It:=⟨fun i _=>i < n,fun i H x H'=>H'=H/\x=.int (lo+i),fun i _=>n<=i⟩
theorem Qbr {P:Program} {w:World} {K:PySem.W.Frag} {tg:Expr} (a it:Addr):QaD P w K tg (Itl K a) [it] it (fun i h=>h.IsListIter it a i) where
 mem:=by simp
 obj:=fun i h st b hb=>by
  have e:b=it:=by simpa using hb
  subst e
  obtain ⟨o,e,c,d⟩:=st
  exact ⟨o,e,fun v z=>by rw [d] at z;cases z⟩
 keep:=fun i h h' st k=>st.at fun o e=>k it (by simp) o e
 item:=by
  intro X hP hw hK hc i pins s σ H E I hf st hg
  subst hP hw hK
  obtain ⟨xs,x,hq,hx⟩:=hg
  obtain ⟨its,rv,p,hz⟩:=I.list hq
  obtain ⟨u,hu,ru⟩:=rv.get hx
  obtain ⟨f0,f1,f2,f3,f4,f5⟩:=hf it (by simp)
  refine wpAny_pyNext_list_item st p.isList (x:=u) (by simpa using hu) fun h' st' sb=>?_
  have I1:Inv X pins σ H { s with heap:=h' }:=I.turned (t':=s.toks) (fun b o hb e=>(sb.2 b hb).trans e) f0 f1 f3 f4 f5
  obtain ⟨o,e,c,d⟩:=id st'
  exact ⟨u,rfl,Qb0 (s:={ s with heap:=h' }) e c d (by decide) ⟨x,H,I1,ru,⟨rfl,fun ys hy=>by rw [I.list_inj hy hq];exact hx⟩,st',fun b hb=>(hf b hb).1⟩⟩
 done:=by
  intro X hP hw hK hc i pins s σ H E I hf st hg
  subst hP hw hK
  obtain ⟨xs,hq,hx⟩:=hg
  obtain ⟨its,rv,p,hz⟩:=I.list hq
  obtain ⟨f0,f1,f2,f3,f4,f5⟩:=hf it (by simp)
  have hl:=rv.length
  exact wpAny_pyNext_list_end (I.ok.hd hc) st p.isList (by simp;omega) fun h' eb=>⟨rfl,I.turned (t':=s.toks) (fun b o hb e=>eb b o hb e) f0 f1 f3 f4 f5⟩
 self:=fun _ _ _ _ _ st h=>wpAny_pyIter_listiter st h
theorem gO {P:Program} {w:World} {K:PySem.W.Frag} {tg:Expr} (a it:Addr):QaD P w K tg (Itt K a) [it] it (fun i h=>h.IsTupleIter it a i) where
 mem:=by simp
 obj:=fun i h st b hb=>by
  have e:b=it:=by simpa using hb
  subst e
  obtain ⟨o,e,c,d⟩:=st
  exact ⟨o,e,fun v z=>by rw [d] at z;cases z⟩
 keep:=fun i h h' st k=>st.at fun o e=>k it (by simp) o e
 item:=by
  intro X hP hw hK hc i pins s σ H E I hf st hg
  subst hP hw hK
  obtain ⟨xs,x,hq,hx⟩:=hg
  obtain ⟨its,rv,p,hz⟩:=I.tuple hq
  obtain ⟨u,hu,ru⟩:=rv.get hx
  obtain ⟨f0,f1,f2,f3,f4,f5⟩:=hf it (by simp)
  refine wpAny_pyNext_tuple_item st (show s.heap.IsTuple a its.toArray from p) (x:=u) (by simpa using hu) fun h' st' sb=>?_
  have I1:Inv X pins σ H { s with heap:=h' }:=I.turned (t':=s.toks) (fun b o hb e=>(sb.2 b hb).trans e) f0 f1 f3 f4 f5
  obtain ⟨o,e,c,d⟩:=id st'
  exact ⟨u,rfl,Qb0 (s:={ s with heap:=h' }) e c d (by decide) ⟨x,H,I1,ru,⟨rfl,fun ys hy=>by rw [I.tuple_inj hy hq];exact hx⟩,st',fun b hb=>(hf b hb).1⟩⟩
 done:=by
  intro X hP hw hK hc i pins s σ H E I hf st hg
  subst hP hw hK
  obtain ⟨xs,hq,hx⟩:=hg
  obtain ⟨its,rv,p,hz⟩:=I.tuple hq
  obtain ⟨f0,f1,f2,f3,f4,f5⟩:=hf it (by simp)
  have hl:=rv.length
  exact wpAny_pyNext_tuple_end (I.ok.hd hc) st (show s.heap.IsTuple a its.toArray from p) (by simp;omega) fun h' eb=>⟨rfl,I.turned (t':=s.toks) (fun b o hb e=>eb b o hb e) f0 f1 f3 f4 f5⟩
 self:=fun _ _ _ _ _ st h=>wpAny_pyIter_tupleiter st h
theorem gM {P:Program} {w:World} {K:PySem.W.Frag} {tg:Expr} (it:Addr) (lo:Int) (n:Nat):QaD P w K tg (Itr lo n) [it] it (fun i h=>IsRangeIter h it (lo+(i:Nat) * 1) ((n:Int) - (i:Nat)) 1) where
 mem:=by simp
 obj:=fun i h st b hb=>by
  have e:b=it:=by simpa using hb
  subst e
  exact ⟨_,st,fun v z=>by
   have z':Data.fields _=Data.cell v:=z
   cases z'⟩
 keep:=fun i h h' st k=>k it (by simp) _ st
 item:=by
  intro X hP hw hK hc i pins s σ H E I hf st hg
  subst hP hw hK
  obtain ⟨f0,f1,f2,f3,f4,f5⟩:=hf it (by simp)
  have W:=Walks.range (prog:=X.prog) (w:=X.w) (I.ok.hd hc) it lo 1 n
  refine W.item i s _ _ hg st fun v h' tk hv st' kk=>?_
  obtain ⟨t,rfl⟩:=hv
  have I1:Inv X pins σ H { s with heap:=h',toks:=tk }:=I.turned (fun b o hb e=>kk b o (by simpa using hb) e) f0 f1 f3 f4 f5
  refine ⟨_,rfl,Qb0 (s:={ s with heap:=h',toks:=tk }) (n := "range_iterator") st' rfl rfl (by decide) ⟨.int (lo+i),H,I1,⟨t,?_⟩,⟨rfl,rfl⟩,st',fun b hb=>(hf b hb).1⟩⟩
  rw [Int.mul_one]
 done:=by
  intro X hP hw hK hc i pins s σ H E I hf st hg
  subst hP hw hK
  obtain ⟨f0,f1,f2,f3,f4,f5⟩:=hf it (by simp)
  exact wpAny_pyNext_range_end (I.ok.hd hc) st (by have:n<=i:=hg;omega) fun h' eb=>⟨rfl,I.turned (t':=s.toks) (fun b o hb e=>eb b o hb e) f0 f1 f3 f4 f5⟩
 self:=fun _ _ _ _ _ st h=>wpAny_pyIter_rangeiter st h
end L2
namespace L2
open PySem PySem.Spec PyProof.Rows
section
variable {X:Cx} {tg:Expr}
def QgS (K:PySem.W.Frag) (tl:TE):TI:=fun σ H R=>tl σ H fun x H1=>∃ a,x=.ref a/\(∃ xs,SqL K H1 a xs)/\R (Itl K a) H1
def QhF (K:PySem.W.Frag) (tl:TE):TI:=fun σ H R=>tl σ H fun x H1=>∃ a,x=.ref a/\(∃ xs,SqT K H1 a xs)/\R (Itt K a) H1
theorem Qen {l:Expr} {tl:TE} (hl:PE X l tl):PI X tg l (QgS X.K tl):=by
 intro pins s σ H R I h
 refine thn (hl pins s σ H _ I h) fun v s1 ⟨x,H1,I1,r1,q1⟩=>?_
 obtain ⟨a,e,⟨xs,hq⟩,q⟩:=q1
 subst e
 cases r1
 obtain ⟨its,rv,p,hz⟩:=I1.list hq
 refine wpAny_pyIter_list p.isList ?_
 refine ⟨s1.heap.objs.size,[s1.heap.objs.size],_,_,H1,rfl,I1.kept (t':=s1.toks) fun b o e=>Heap.get?_push_of_some _ e,Qbr a _,⟨_,Heap.get?_push_size _ rfl,rfl,rfl⟩,fun b hb=>?_,q⟩
 have e:b=s1.heap.objs.size:=by simpa using hb
 subst e
 exact I1.fpOk (Nat.le_refl _) (I1.hok.fresh (Nat.le_refl _))
theorem Qf5 {l:Expr} {tl:TE} (hl:PE X l tl):PI X tg l (QhF X.K tl):=by
 intro pins s σ H R I h
 refine thn (hl pins s σ H _ I h) fun v s1 ⟨x,H1,I1,r1,q1⟩=>?_
 obtain ⟨a,e,⟨xs,hq⟩,q⟩:=q1
 subst e
 cases r1
 obtain ⟨its,rv,p,hz⟩:=I1.tuple hq
 refine wpAny_pyIter_tuple (show s1.heap.IsTuple a its.toArray from p) ?_
 refine ⟨s1.heap.objs.size,[s1.heap.objs.size],_,_,H1,rfl,I1.kept (t':=s1.toks) fun b o e=>Heap.get?_push_of_some _ e,gO a _,⟨_,Heap.get?_push_size _ rfl,rfl,rfl⟩,fun b hb=>?_,q⟩
 have e:b=s1.heap.objs.size:=by simpa using hb
 subst e
 exact I1.fpOk (Nat.le_refl _) (I1.hok.fresh (Nat.le_refl _))
theorem QcX {pins:List (Addr×Obj)} {σ:St} {H:Hp} {s:Shared} {R:It->Hp->Prop} {E:Value->Shared->Prop} {lo hi:Int} {t u v:Tok} {tk:Nat} (I:Inv X pins σ H s) (h1:-(2 ^ 62)<=lo) (h2:lo < 2 ^ 62) (h3:-(2 ^ 62)<=hi) (h4:hi < 2 ^ 62)
  (q:R (Itr lo (hi - lo).toNat) H):wpAny (model X.prog X.w) X.A (pyIter (.ref s.heap.objs.size)) (PIE X pins σ tg R) E { s with heap:=s.heap.push { cls:=.type "range", data:=.fields #[.int lo t,.int hi u,.int 1 v] },toks:=tk }:=by
 refine wpAny_pyIter_range (IsRange.new ..) (small_one h1 h2 h3 h4) ?_
 have I1:Inv X pins σ H { s with heap:=s.heap.push { cls:=.type "range", data:=.fields #[.int lo t,.int hi u,.int 1 v] },toks:=tk }:=I.kept fun b o e=>Heap.get?_push_of_some _ e
 refine ⟨(s.heap.push { cls:=.type "range", data:=.fields #[.int lo t,.int hi u,.int 1 v] }).objs.size,[(s.heap.push { cls:=.type "range", data:=.fields #[.int lo t,.int hi u,.int 1 v] }).objs.size],_,_,H,rfl,
  I1.kept (t':=tk) fun b o e=>Heap.get?_push_of_some _ e,gM _ lo (hi - lo).toNat,?_,fun b hb=>?_,q⟩
 ·have e1:lo+((0:Nat):Int) * 1=lo:=by simp
  have e2:(((hi - lo).toNat:Nat):Int) - ((0:Nat):Int)=Builtin.Range.rangeSize lo hi 1:=by rw [rangeSize_one];split<;>omega
  show IsRangeIter _ _ (lo+((0:Nat):Int) * 1) ((((hi - lo).toNat:Nat):Int) - ((0:Nat):Int)) 1
  rw [e1,e2]
  exact Heap.get?_push_size _ rfl
 ·have e:b=(s.heap.push { cls:=.type "range", data:=.fields #[.int lo t,.int hi u,.int 1 v] }).objs.size:=by simpa using hb
  subst e
  exact I1.fpOk (Nat.le_refl _) (I1.hok.fresh (Nat.le_refl _))
def QgT (ta:TA):TI:=fun σ H R=>ta σ H fun vs H1=>∃ j:Int,vs=[.int j] /\ -(2 ^ 62)<=j/\j < 2 ^ 62/\R (Itr 0 j.toNat) H1
theorem Qbd {a:Expr} {ta:TA} {p pos:Pos} (hg:Gl X "range") (hm:X.mg "range" = none) (ha:PA X [a] ta) (hs:starEach [a] X.env=[(false,eval a X.env)]:=by rfl):PI X tg (.Call (.Name "range" p) [a] [] pos) (QgT ta):=by
  intro pins s σ H R I h
  refine Call_ (YQ I hg hm boot_range (PyProof.Rows.callWith_type1 (thn (ha pos pins s σ H _ I h) fun us s1 ⟨vs,H1,I1,r1,q1⟩=>?_) hs rfl))
  obtain ⟨j,e,q1,q2,q⟩:=q1
  subst e
  cases r1 with
  | cons r rr =>
    cases rr
    obtain ⟨t,rfl⟩:=r
    exact call_range_1 (QcX I1 (by omega) (by omega) q1 q2 (by simpa using q))
def QhW (wi:TI) (g:TG) (tb:TS):TS:=fun D σ H=>wi σ H fun J H1=>∃ W:Nat->Nat->St->Hp->Prop,(∃ m,W 0 m σ H1)/\∀ i m σ H,W i m σ H ->
 (J.stop i H/\D.nx σ H)∨(J.go i H/\∃ N:St->Hp->Prop,(∀ σ' H',N σ' H'->∃ m',m' < m/\W (i+1) m' σ' H')/\∀ x H',J.yld i H x H'->g x σ H' fun σ2 H2=>tb { D with nx:=N,ct:=N,bk:=D.nx } σ2 H2)
def V3 (fp:List Addr) (h:Heap):List (Addr×Obj):=fp.filterMap fun b=>(h.get? b).map fun o=>(b,o)
theorem qI {fp:List Addr} {h:Heap} {b:Addr} {o:Obj} (hb:b∈fp) (e:h.get? b=some o):(b,o)∈V3 fp h:=List.mem_filterMap.mpr ⟨b,hb,by rw [e];rfl⟩
theorem Qa6 {fp:List Addr} {h:Heap} {p:Addr×Obj} (hp:p∈V3 fp h):p.1∈fp/\h.get? p.1=some p.2:=by
  obtain ⟨b,hb,e⟩:=List.mem_filterMap.mp hp
  cases q:h.get? b with
  | none=>rw [q] at e;cases e
  | some o =>
    rw [q] at e
    have e':(b,o)=p:=Option.some.inj e
    subst e'
    exact ⟨hb,q⟩
theorem Inv.pinned {pins:List (Addr×Obj)} {σ:St} {H:Hp} {s:Shared} {fp:List Addr} (I:Inv X pins σ H s) (hf:∀ b∈fp,yW X pins H b) (ho:∀ b∈fp,∃ o,s.heap.get? b=some o/\∀ v,o.data≠.cell v):Inv X (pins++V3 fp s.heap) σ H s :=
 I.pins_of fun p hp=>(List.mem_append.mp hp).elim (fun z=>I.pin p (List.mem_append_right _ z)) fun z=>by
  obtain ⟨hb,e⟩:=Qa6 z
  obtain ⟨f0,f1,f2,_⟩:=hf p.1 hb
  obtain ⟨o,e',d⟩:=ho p.1 hb
  rw [e] at e';cases e'
  exact ⟨e,f0,f1,f2,d⟩
theorem Inv.unpinned {pins pl:List (Addr×Obj)} {σ:St} {H:Hp} {s:Shared} (I:Inv X (pins++pl) σ H s):Inv X pins σ H s:=I.pins_of fun p hp=>I.pin p (List.mem_append_right _ (List.mem_append_left _ hp))
theorem QcP {iter:Expr} {body:List Stmt} {wi:TI} {g:TG} {tb:TS} {pos:Pos} (hp:PassesOwn (model X.prog X.w) X.A X.env X.xe) (hc:X.calm=true) (hi:PI X tg iter wi) (hg:PG X tg g) (hb:PSs X body tb)
  (hs:∀ x,foldedSetIterable iter X.env x=pure x:=by intro _;rfl):PS X (.For tg iter body [] pos) (QhW wi g tb):=by
 intro pins s σ H D I h
 refine wpAny_For (thn (hi pins s σ H _ I h) fun v s1 h1=>thn h1 fun itv s2 h2=>?_) hs
 obtain ⟨it,fp,tn,J,H2,e,I2,T,st2,f2,W,⟨m0,w0⟩,turn⟩:=h2
 subst e
 have stat:∀ {H':Hp},(∀ b∈fp,H' b=none)->∀ b∈fp,yW X pins H' b:=fun hn b hb=>⟨hn b hb,(f2 b hb).2⟩
 refine codeAny_forLoop_any (fun n s'=>∃ i σ' H',Inv X pins σ' H' s'/\tn i s'.heap/\(∀ b∈fp,H' b=none)/\W i n σ' H') ?_ m0 ⟨0,σ,H2,I2,st2,fun b hb=>(f2 b hb).1,w0⟩
 rintro n s3 ⟨i,σ3,H3,I3,st3,fr3,w3⟩
 rcases turn i n σ3 H3 w3 with ⟨stop,qn⟩ | ⟨go,N,hN,step⟩
 ·refine wpAny_passesOwn hp (thn (T.done X rfl rfl rfl hc i pins s3 σ3 H3 X.xe I3 (stat fr3) st3 stop) fun r s4 ⟨hr,I4⟩=>?_)
  subst hr
  exact wpAny_execs_nil ⟨σ3,H3,I4,qn⟩
 ·refine wpAny_passesOwn hp (thn (T.item X rfl rfl rfl hc i pins s3 σ3 H3 X.xe I3 (stat fr3) st3 go) fun r s4 ⟨u,hr,h4⟩=>?_)
  subst hr
  refine wpAny_passesOwn hp (thn h4 fun _ s5 ⟨x,H5,I5,r5,y5,st5,fr5⟩=>?_)
  have I5':=I5.pinned (stat fr5) (T.obj _ _ st5)
  refine wpAny_passesOwn hp (thn (hg _ s5 σ3 H5 x u _ I5' r5 (step x H5 y5)) fun _ s6 ⟨σ6,H6,I6,q6⟩=>?_)
  refine wpAny_passesOwn hp (thn (hb _ s6 σ6 H6 _ I6 q6) fun f s7 q7=>?_)
  have again:∀ {σ7:St} {H7:Hp},Inv X (pins++V3 fp s5.heap) σ7 H7 s7->N σ7 H7->∃ m,m < n/\∃ i σ' H',Inv X pins σ' H' s7/\tn i s7.heap/\(∀ b∈fp,H' b=none)/\W i m σ' H':=fun {σ7 H7} I7 n7=>by
   obtain ⟨m',hm,w7⟩:=hN σ7 H7 n7
   refine ⟨m',hm,i+1,σ7,H7,I7.unpinned,T.keep _ _ _ st5 fun b hb o e=>(I7.pin (b,o) (List.mem_append_right _ (List.mem_append_right _ (qI hb e)))).1,fun b hb=>?_,w7⟩
   obtain ⟨o,e,d⟩:=T.obj _ _ st5 b hb
   exact (I7.pin (b,o) (List.mem_append_right _ (List.mem_append_right _ (qI hb e)))).2.1
  cases f with
  | next=>obtain ⟨σ7,H7,I7,n7⟩:=q7;exact again I7 n7
  | cont=>obtain ⟨σ7,H7,I7,n7⟩:=q7;exact again I7 n7
  | brk=>obtain ⟨σ7,H7,I7,q7⟩:=q7;exact ⟨σ7,H7,I7.unpinned,q7⟩
  | ret v=>obtain ⟨x7,σ7,H7,I7,r7,q7⟩:=q7;exact ⟨x7,σ7,H7,I7.unpinned,r7,q7⟩
end
end L2
namespace L2
open PySem PySem.Spec PyProof.Rows
abbrev R2:=V->V->Hp->VK->Prop
def OpR (X:Cx) (f:Value->Value->Sem Value) (r:R2):Prop :=
  ∀ (pins : List (Addr × Obj)) (s : Shared) (σ : St) (H : Hp) (x y : V) (v u : Value) (Q : VK), Inv X pins σ H s -> RelV x v -> RelV y u -> r x y H Q ->
    wpAny (model X.prog X.w) X.A (f v u) (EP X pins σ Q) X.xe s
def CallR (X:Cx) (f:Value) (r:List V->Hp->VK->Prop):Prop :=
  ∀ (pins : List (Addr × Obj)) (s : Shared) (σ : St) (H : Hp) (xs : List V) (us : List Value) (Q : VK), Inv X pins σ H s -> Vals xs us -> r xs H Q ->
    wpAny (model X.prog X.w) X.A (call f us) (EP X pins σ Q) X.xe s
def tOp (r:R2) (ta tb:TE):TE:=fun σ H Q=>ta σ H fun x H1=>tb σ H1 fun y H2=>r x y H2 Q
def rI (C:Int->Int->Prop) (g:Int->Int->V):R2:=fun x y H Q=>∃ i j,x=.int i/\y=.int j/\C i j/\Q (g i j) H
def rI0 (g:Int->Int->V):R2:=fun x y H Q=>∃ i j,x=.int i/\y=.int j/\Q (g i j) H
section
variable {X:Cx} {a b c:Expr} {ta tb tc:TE} {pos:Pos}
theorem Qfk (ha:PE X a ta) (hb:PE X b tb) {pins:List (Addr×Obj)} {s:Shared} {σ:St} {H:Hp} {R:V->V->Hp->Prop} (I:Inv X pins σ H s)
  (h:ta σ H fun x H1=>tb σ H1 fun y H2=>R x y H2) {Q:Value->Shared->Prop} {f:Value->Value->Sem Value}
  (hf:∀ v u s2 x y H2,Inv X pins σ H2 s2->RelV x v->RelV y u->R x y H2->wpAny (model X.prog X.w) X.A (f v u) Q X.xe s2) :
  wpAny (model X.prog X.w) X.A (eval a X.env) (fun v s₁=>wpAny (model X.prog X.w) X.A (eval b X.env) (fun u s₂=>wpAny (model X.prog X.w) X.A (f v u) Q X.xe s₂) X.xe s₁) X.xe s:=by
 refine thn (ha pins s σ H _ I h) fun v s1 ⟨x,H1,I1,r1,q1⟩=>?_
 refine thn (hb pins s1 σ H1 _ I1 q1) fun u s2 ⟨y,H2,I2,r2,q2⟩=>?_
 exact hf v u s2 x y H2 I2 r1 r2 q2
theorem Qg9 {op:Operator} {r:R2} (ho:OpR X (binaryOp op) r) (ha:PE X a ta) (hb:PE X b tb):PE X (.BinOp a op b pos) (tOp r ta tb):=by
 intro pins s σ H Q I h
 exact wpAny_BinOp (Qfk ha hb I h fun v u s2 x y H2 I2 rx ry q=>ho pins s2 σ H2 x y v u Q I2 rx ry q)
theorem opI {f:Value->Value->Sem Value} {C:Int->Int->Prop} {g:Int->Int->Int}
  (rule:∀ (i j:Int) (t u:Tok) (s:Shared) (Q:Value->Shared->Prop) (E:Value->Shared->Prop),C i j->Q (.int (g i j) s.toks) { s with toks:=s.toks+1 }->wpAny (model X.prog X.w) X.A (f (.int i t) (.int j u)) Q E s) :
  OpR X f (rI C fun i j=>.int (g i j)):=by
 intro pins s σ H x y v u Q I rx ry h
 obtain ⟨i,j,rfl,rfl,hc,q⟩:=h
 obtain ⟨t,rfl⟩:=rx
 obtain ⟨t',rfl⟩:=ry
 exact rule i j t t' s _ _ hc ⟨.int (g i j),H,I.tok _,⟨_,rfl⟩,q⟩
theorem QgZ {f:Value->Value->Sem Value} {g:Int->Int->Int}
  (rule:∀ (i j:Int) (t u:Tok) (s:Shared) (Q:Value->Shared->Prop) (E:Value->Shared->Prop),Q (.int (g i j) s.toks) { s with toks:=s.toks+1 }->wpAny (model X.prog X.w) X.A (f (.int i t) (.int j u)) Q E s) :
  OpR X f (rI0 fun i j=>.int (g i j)):=by
 intro pins s σ H x y v u Q I rx ry h
 obtain ⟨i,j,rfl,rfl,q⟩:=h
 obtain ⟨t,rfl⟩:=rx
 obtain ⟨t',rfl⟩:=ry
 exact rule i j t t' s _ _ ⟨.int (g i j),H,I.tok _,⟨_,rfl⟩,q⟩
theorem Qd6 {f:Value->Value->Sem Value} {g:Int->Int->Bool}
  (rule:∀ (i j:Int) (t u:Tok) (s:Shared) (Q:Value->Shared->Prop) (E:Value->Shared->Prop),Q (.bool (g i j)) s->wpAny (model X.prog X.w) X.A (f (.int i t) (.int j u)) Q E s) :
  OpR X f (rI0 fun i j=>.bl (g i j)):=by
 intro pins s σ H x y v u Q I rx ry h
 obtain ⟨i,j,rfl,rfl,q⟩:=h
 obtain ⟨t,rfl⟩:=rx
 obtain ⟨t',rfl⟩:=ry
 exact rule i j t t' s _ _ ⟨.bl (g i j),H,I,rfl,q⟩
def Qhw (i j:Int):Prop:=0 < j/\j < 1073741824
def Qhx (i j:Int):Prop:=0<=j/\j<=1000000/\i.natAbs < 2 ^ 64
def CMul (i j:Int):Prop:=(-(2 ^ 64) < i/\i < 2 ^ 64)∨(-(2 ^ 64) < j/\j < 2 ^ 64)
theorem CMul.ok {i j:Int} (h:CMul i j):IntMulOk i j:=by
 rcases h with ⟨h1,h2⟩ | ⟨h1,h2⟩
 ·exact .of_left (intBits_le_64 h1 h2)
 ·exact .of_right (intBits_le_64 h1 h2)
theorem QfN:OpR X (binaryOp .Add) (rI0 fun i j=>.int (i+j)):=QgZ fun _ _ _ _ _ _ _ q=>add_int q
theorem QfS:OpR X (binaryOp .Sub) (rI0 fun i j=>.int (i - j)):=QgZ fun _ _ _ _ _ _ _ q=>sub_int q
theorem QfQ:OpR X (binaryOp .Mult) (rI CMul fun i j=>.int (i * j)):=opI fun _ _ _ _ _ _ _ hc q=>mul_int q hc.ok
theorem Qd8:OpR X (binaryOp .FloorDiv) (rI Qhw fun i j=>.int (i / j)):=opI fun i j _ _ _ _ _ hc q=>by
 have h1:(0:Int) < j:=hc.1
 have h2:j < 1073741824:=hc.2
 exact floordiv_int (by omega) (by rw [Int.fdiv_eq_ediv_of_nonneg i (by omega)];exact q) (.inl (PyProof.noPylong_small (by omega)))
theorem QfP:OpR X (binaryOp .Mod) (rI (fun _ j=>0 < j) fun i j=>.int (i % j)):=opI fun i j _ _ _ _ _ hc q=>by
 have h1:(0:Int) < j:=hc
 exact mod_int' (by omega) (by rw [Int.fmod_eq_emod_of_nonneg i (by omega)];exact q)
theorem QfR:OpR X (binaryOp .Pow) (rI Qhx fun i j=>.int (i ^ j.toNat)):=opI fun _ _ _ _ _ _ _ hc q=>pow_int_small hc.1 hc.2.1 hc.2.2 q
end
section
variable {X:Cx} {a b c:Expr} {ta tb tc:TE} {pos:Pos}
theorem QbW {pins:List (Addr×Obj)} {σ:St} {H:Hp} {s:Shared} {Q:VK} {k k':Bool} (I:Inv X pins σ H s) (q:Q (.bl k) H) (e:k=k'):EP X pins σ Q (.bool k') s:=by
 subst e
 exact ⟨.bl k,H,I,rfl,q⟩
theorem Qg3:OpR X (compareOp .Lt) (rI0 fun i j=>.bl (decide (i < j))):=Qd6 fun _ _ _ _ _ _ _ q=>lt_int q
theorem Qg2:OpR X (compareOp .LtE) (rI0 fun i j=>.bl (decide (i<=j))):=Qd6 fun _ _ _ _ _ _ _ q=>le_int q
theorem Qg1:OpR X (compareOp .Gt) (rI0 fun i j=>.bl (decide (j < i))):=Qd6 fun _ _ _ _ _ _ _ q=>gt_int q
theorem Qg0:OpR X (compareOp .GtE) (rI0 fun i j=>.bl (decide (j<=i))):=Qd6 fun _ _ _ _ _ _ _ q=>ge_int q
theorem QfO:OpR X (compareOp .Is) (fun x y H Q=>y=.non/\Q (.bl (decide (x=.non))) H):=by
 intro pins s σ H x y v u Q I rx ry h
 obtain ⟨rfl,q⟩:=h
 cases ry
 refine is_none_gen (QbW I q ?_)
 cases x<;>first
  | (cases rx;rfl)
  | (obtain ⟨t,rfl⟩:=rx;rfl)
theorem Qd9:OpR X (compareOp .IsNot) (fun x y H Q=>y=.non/\Q (.bl (!decide (x=.non))) H):=by
 intro pins s σ H x y v u Q I rx ry h
 obtain ⟨rfl,q⟩:=h
 cases ry
 refine isnot_none_gen (QbW I q ?_)
 cases x<;>first
  | (cases rx;rfl)
  | (obtain ⟨t,rfl⟩:=rx;rfl)
theorem QP (b:Expr) {op:CmpOp} (h:op≠.In:=by decide) (h2:op≠.NotIn:=by decide):behindInMarks op b=false:=by
 have e1:(op==CmpOp.In)=false:=by cases op<;>first | rfl | exact absurd rfl h
 have e2:(op==CmpOp.NotIn)=false:=by cases op<;>first | rfl | exact absurd rfl h2
 cases b<;>simp [behindInMarks,e1,e2]
theorem Qeh {op:CmpOp} {r:R2} (ho:OpR X (compareOp op) r) (ha:PE X a ta) (hb:PE X b tb) (hm:behindInMarks op b=false):PE X (.Compare a [op] [b] pos) (tOp r ta tb):=by
 intro pins s σ H Q I h
 exact wpAny_Compare1 (Qfk ha hb I h fun v u s2 x y H2 I2 rx ry q=>ho pins s2 σ H2 x y v u Q I2 rx ry q) hm
def Qff (t:TE):TT:=fun σ H Q=>t σ H fun x H'=>∃ k,x=.bl k/\Q k H'
theorem Qex {op:CmpOp} {r:R2} (ho:OpR X (compareOp op) r) (ha:PE X a ta) (hb:PE X b tb) (hm:behindInMarks op b=false):PT X (.Compare a [op] [b] pos) (Qff (tOp r ta tb)):=by
 intro pins s σ H Q I h
 refine wpAny_isTrue_Compare1 (thn (ha pins s σ H _ I h) fun v s1 ⟨x,H1,I1,r1,q1⟩=>thn (hb pins s1 σ H1 _ I1 q1) fun u s2 ⟨y,H2,I2,r2,q2⟩ =>
  thn (ho pins s2 σ H2 x y v u _ I2 r1 r2 q2) fun c s3 ⟨z,H3,I3,r3,k,e,q3⟩=>?_) hm
 subst e
 cases r3
 exact wpAny_truthy_bool ⟨H3,I3,q3⟩
def Qdn (r r':R2) (ta tb tc:TE):TE:=fun σ H Q=>ta σ H fun x H1=>tb σ H1 fun y H2=>r x y H2 fun z H3=>∃ k,z=.bl k /\
 (if k=true then tc σ H3 fun w' H4=>r' y w' H4 Q else Q (.bl false) H3)
theorem QcS {op op':CmpOp} {r r':R2} (ho:OpR X (compareOp op) r) (ho':OpR X (compareOp op') r') (ha:PE X a ta) (hb:PE X b tb) (hc:PE X c tc)
    (hm:lastMarks [op,op'] [b,c]=false:=by with_unfolding_all rfl):PT X (.Compare a [op,op'] [b,c] pos) (Qff (Qdn r r' ta tb tc)):=by
  intro pins s σ H Q I h
  refine isTrue_chain (thn (ha pins s σ H _ I h) fun v s1 ⟨x,H1,I1,r1,q1⟩=>test_link (thn (hb pins s1 σ H1 _ I1 q1) fun u s2 ⟨y,H2,I2,r2,q2⟩ =>
    thn (ho pins s2 σ H2 x y v u _ I2 r1 r2 q2) fun d s3 ⟨z,H3,I3,r3,k,e,q3⟩=>?_)) hm
  subst e
  cases r3
  refine wpAny_truthy_bool ?_
  cases k with
  | false =>
    obtain ⟨k',e',q'⟩:=q3
    cases e'
    exact ite_ff ⟨H3,I3,q'⟩
  | true =>
    refine ite_tt (test_last (thn (hc pins s3 σ H3 _ I3 q3) fun w' s4 ⟨z',H4,I4,r4,q4⟩=>thn (ho' pins s4 σ H4 y z' u w' _ I4 r2 r4 q4) fun d' s5 ⟨z2,H5,I5,r5,k2,e2,q5⟩=>?_))
    subst e2
    cases r5
    exact wpAny_truthy_bool ⟨H5,I5,q5⟩
theorem Gp:(sizeLine:Nat) < 2 ^ 63:=by rw [sizeLine_eq];decide
theorem yQ {x:V} {us:List Value} (r:Vals [x] us):∃ u,us=[u]/\RelV x u:=by
 cases r with
 | cons r1 r2=>cases r2;exact ⟨_,rfl,r1⟩
theorem Qdt {x y:V} {us:List Value} (r:Vals [x,y] us):∃ u w',us=[u,w']/\RelV x u/\RelV y w':=by
  cases r with
  | cons r1 r2 =>
    cases r2 with
    | cons r3 r4=>cases r4;exact ⟨_,_,rfl,r1,r3⟩
theorem QaN (hc:X.calm=true):CallR X (.builtin "min") (fun xs H Q=>∃ i j,xs=[.int i,.int j]/\Q (.int (if j < i then j else i)) H):=by
 intro pins s σ H xs us Q I r h
 obtain ⟨i,j,rfl,q⟩:=h
 obtain ⟨u,w',rfl,⟨t,rfl⟩,⟨t',rfl⟩⟩:=Qdt r
 refine min_two_ints (I.ok.hd hc) fun h' tk k=>⟨_,H,I.kept k,?_,q⟩
 by_cases hj:j < i
 ·rw [if_pos hj,if_pos hj];exact ⟨_,rfl⟩
 ·rw [if_neg hj,if_neg hj];exact ⟨_,rfl⟩
theorem U6:CallR X (.type "int") (fun xs H Q=>(∃ i,xs=[.int i]/\Q (.int i) H)∨∃ k,xs=[.bl k]/\Q (.int (if k then 1 else 0)) H):=by
 intro pins s σ H xs us Q I r h
 rcases h with ⟨i,rfl,q⟩ | ⟨k,rfl,q⟩
 ·obtain ⟨u,rfl,t,rfl⟩:=yQ r
  exact call_int_int ⟨.int i,H,I,⟨_,rfl⟩,q⟩
 ·obtain ⟨u,rfl,r1⟩:=yQ r
  cases r1
  exact call_int_bool ⟨.int (if k then 1 else 0),H,I.tok _,⟨_,rfl⟩,q⟩
end
end L2
namespace L2
open PySem PySem.Spec PyProof.Rows
structure ObjM (h:Heap) (x dx C:Addr) (mA:Str->Option Value):Prop where
 obj:h.get? x=some (PySem.W.instObj C dx)
 ns:h.Ns1 dx mA
 ne:dx≠x
theorem Qa4 {h:Heap} {dx:Addr} {mA:Str->Option Value} (n:h.Ns1 dx mA):∃ od,h.get? dx=some od/\∀ name,PySem.W.lookIn name od=some (mA name):=by
 obtain ⟨o,es,ep,ho,hd,hk,_,hm⟩:=n
 refine ⟨o,ho,fun name=>?_⟩
 have e:=hm name
 unfold nsFind findBy at e
 rw [<- Array.find?_toList] at e
 unfold PySem.W.lookIn
 rw [hd]
 dsimp only
 split
 ·rename_i y q
  rw [q] at e
  exact congrArg some e
 ·rename_i q
  rw [q] at e
  have a:es.toList.any (·.refKey)=false:=by
   rw [List.any_eq_false]
   intro y hy
   obtain ⟨z,t,hkey⟩:=hk y (Array.mem_toList_iff.mp hy)
   simp [DictEntry.refKey,hkey]
  have a':¬ es.toList.any (·.refKey)=true:=by rw [a];exact Bool.false_ne_true
  rw [if_neg a']
  exact congrArg some e
theorem ObjM.look {h:Heap} {x dx C:Addr} {mA:Str->Option Value} (I:ObjM h x dx C mA):∃ od,PySem.W.InstAt h x (PySem.W.instObj C dx) C (some od)/\∀ name,PySem.W.lookIn name od=some (mA name) :=
 let ⟨od,ho,hl⟩:=Qa4 I.ns
 ⟨od,⟨I.obj,rfl,rfl,ho⟩,hl⟩
section
variable {prog:Program} {w:World} {A:Around} {E:Value->Shared->Prop} {s:Shared} {K:PySem.W.Frag} {x dx C f:Addr} {mA:Str->Option Value} {name:Str} {v:Value}
theorem QdU {expr:Bool} {Q:Value->Shared->Prop} (X:K.In s.heap) (I:ObjM s.heap x dx C mA) (hg:PySem.W.plainGet K C name=true) (hh:PySem.W.hasDictIn K C=true)
  (ha:PySem.W.findIn K (.ref C) name=some none) (hv:mA name=some v) (hv':PySem.W.handedIn v=true) (h:Q v { s with toks:=s.toks+1 }) :
  wpAny (model prog w) A (getAttr (.ref x) name expr) Q E s:=by
 obtain ⟨od,J,hl⟩:=I.look
 exact PySem.W.get_value X J (PySem.W.plainGet_of hg).1 (PySem.W.findObj_own hh ha rfl (by rw [hl,hv])) hv' h
theorem QbZ {pl:Sem Bool} {Q:Value×List Value->Shared->Prop} (X:K.In s.heap) (I:ObjM s.heap x dx C mA) (hg:PySem.W.plainGet K C name=true)
  (hf:PySem.W.findIn K (.ref C) name=some (some (.ref f))) (ht:PySem.W.isFn K (.ref f)=true) (hv:mA name=none) (h:Q (.ref f,[.ref x]) s) :
  wpAny (model prog w) A (getMethod (.ref x) name pl) Q E s:=by
 obtain ⟨od,J,hl⟩:=I.look
 exact PySem.W.method_fn X J (PySem.W.plainGet_of hg).1 (PySem.W.plainGet_of hg).2 hf (beq_iff_eq.mp ht) (by show (PySem.W.lookIn name od).map (·.isSome)=some false;rw [hl,hv];rfl) h
theorem QeK {ns:List Str} {Q:Unit->Shared->Prop} (X:K.In s.heap) (I:ObjM s.heap x dx C mA)
  (hs:PySem.W.findIn K (.ref C) "__setattr__" = some (some (.builtin "object.__setattr__"))) (hp:PySem.W.plainOver K C=true) (ht:PySem.W.takerIn K C name=some none) (hh:PySem.W.hasDictIn K C=true)
  (hw:PySem.Within mA ns) (hsz:ns.length<=sizeLine)
  (h:∀ h',ObjM h' x dx C (fun y=>if y=name then some v else mA y)->Heap.SameBut dx s.heap h'->Q () { s with heap:=h',toks:=s.toks+2 }) :
  wpAny (model prog w) A (setAttr (.ref x) name v) Q E s:=by
 obtain ⟨od,J,hl⟩:=I.look
 refine PySem.W.set_plain X J hs (PySem.W.osa_open (s:={ s with toks:=s.toks+1 }) (r:=none) X J hp ht fun b=>?_)
 obtain ⟨cd,hc,hd'⟩:=PySem.W.any_some hh
 have hx:s.heap.get? x=some ⟨.ref C,some dx,.plain,#[]⟩:=I.obj
 refine wpAny_bind (wpAny_pure (wpAny_bind (wpAny_bind (wpAny_loadPart hx (wpAny_bind (PySem.W.Looks.here (s:={ s with toks:=s.toks+1 }) (PySem.W.looks_clsIn X hc) ?_))))))
 rw [hd']
 refine wpAny_pure (a:=some dx) (wpAny_bind (wpAny_pure (wpAny_bind ?_)))
 refine wpAny_nsSet1 (s:={ s with toks:=s.toks+1 }) I.ns fun h' hn2 hs2=>?_
 obtain ⟨oD,esD,epD,hoD,hdD,hcD⟩:=hn2.count (PySem.Within.cons name v hw)
 refine wpAny_bind (wpAny_lookBehind hoD (by rw [hdD];exact pastItsLine_dict (Nat.le_trans hcD (by rw [List.length_cons];omega))) ?_)
 exact wpAny_pure (h _ ⟨(hs2.2 _ (Ne.symm I.ne)).trans I.obj,hn2,I.ne⟩ hs2)
theorem Qcm {R:Result->Shared->Prop} {vs:List Value} {kw:List (Str×Value)} (X:K.In s.heap) (hm:PySem.W.makesIn K C=true)
  (hi:PySem.W.findIn K (.ref C) "__init__" = some (some (.ref f))) (hf:PySem.W.typeIn K (.ref f)=some (.type "function"))
  (h:codeAny (model prog w) (A.under (.builtin "type.__call__" ⟨.ref C::vs,kw⟩)) (.call (.ref f) ⟨.ref (s.heap.objs.size+1)::vs,kw⟩) (PySem.W.InitBack (s.heap.objs.size+1) R)
   { s with heap:=(s.heap.push PySem.W.emptyDict).push (PySem.W.instObj C s.heap.objs.size) }) :
  codeAny (model prog w) A (.call (.ref C) ⟨vs,kw⟩) R s:=by
 obtain ⟨hh,g,d,t,os⟩:=s
 exact PySem.W.make_core (PySem.W.makes_of X hm) (PySem.W.looks_findIn X hi) (fun self=>PySem.W.bind_fn X self hf) (.inl rfl) h
end
def YV (f:Str) (v:V):List (Str×V)->List (Str×V)
 | []=>[(f,v)]
 | (g,x)::r=>if g=f then (g,v)::r else (g,x)::YV f v r
theorem yC (f g:Str) (v:V):∀ fs:List (Str×V),(YV f v fs).lookup g=if g=f then some v else fs.lookup g
  | []=>by
    show List.lookup g [(f,v)]=_
    by_cases h:g=f
    . have hb:(g==f)=true:=beq_iff_eq.mpr h
      simp only [List.lookup,hb,if_pos h]
    . have hb:(g==f)=false:=beq_eq_false_iff_ne.mpr h
      simp only [List.lookup,hb,if_neg h]
  | (k,x)::r=>by
    have ih:=yC f g v r
    rw [show YV f v ((k,x)::r)=(if k=f then (k,v)::r else (k,x)::YV f v r) from rfl]
    by_cases hk:k=f
    . rw [if_pos hk]
      by_cases h:g=k
      . have hb:(g==k)=true:=beq_iff_eq.mpr h
        simp only [List.lookup,hb,if_pos (h.trans hk)]
      . have hb:(g==k)=false:=beq_eq_false_iff_ne.mpr h
        simp only [List.lookup,hb,if_neg (fun e:g=f=>h (e.trans hk.symm))]
    . rw [if_neg hk]
      by_cases h:g=k
      . have hb:(g==k)=true:=beq_iff_eq.mpr h
        simp only [List.lookup,hb,if_neg (fun e:g=f=>hk (h.symm.trans e))]
      . have hb:(g==k)=false:=beq_eq_false_iff_ne.mpr h
        simp only [List.lookup,hb]
        exact ih
theorem yf (f:Str) (v:V):∀ fs:List (Str×V),f∈(YV f v fs).map (·.1)/\∀ g,g∈fs.map (·.1)->g∈(YV f v fs).map (·.1)
  | []=>⟨by simp [YV],fun g h=>by simp at h⟩
  | (k,x)::r=>by
    obtain ⟨i1,i2⟩:=yf f v r
    rw [show YV f v ((k,x)::r)=(if k=f then (k,v)::r else (k,x)::YV f v r) from rfl]
    by_cases hk:k=f
    . rw [if_pos hk]
      subst hk
      exact ⟨by simp,fun g h=>by simpa using h⟩
    . rw [if_neg hk]
      refine ⟨?_,fun g h=>?_⟩
      . rw [List.map_cons]
        exact List.mem_cons_of_mem _ i1
      . rw [List.map_cons] at h ⊢
        rcases List.mem_cons.mp h with e | e
        . exact List.mem_cons.mpr (.inl e)
        . exact List.mem_cons_of_mem _ (i2 g e)
theorem yB (f:Str) (v:V):∀ fs:List (Str×V),(YV f v fs).length<=fs.length+1
  | []=>by simp [YV]
  | (k,x)::r=>by
    have ih:=yB f v r
    rw [show YV f v ((k,x)::r)=(if k=f then (k,v)::r else (k,x)::YV f v r) from rfl]
    by_cases hk:k=f
    . rw [if_pos hk,List.length_cons,List.length_cons];omega
    . rw [if_neg hk,List.length_cons,List.length_cons];omega
theorem RelO.some_of {v:V} {o:Option Value} (r:RelO (some v) o):∃ u,o=some u/\RelV v u:=by
 cases o with
 | none=>exact (show False from r).elim
 | some u=>exact ⟨u,rfl,r⟩
theorem RelO.none_of {o:Option Value} (r:RelO none o):o=none:=by
 cases o with
 | none=>rfl
 | some u=>exact (show False from r).elim
theorem QaW {v:V} {u:Value} (r:RelV v u):PySem.W.handedIn u=true:=by
 cases v with
 | non=>cases (show u=Value.none from r);rfl
 | bl b=>cases (show u=Value.bool b from r);rfl
 | int i=>obtain ⟨t,e⟩:=(show ∃ t,u=Value.int i t from r);cases e;rfl
 | str x=>obtain ⟨t,e⟩:=(show ∃ t,u=Value.str x t from r);cases e;rfl
 | byt b=>obtain ⟨t,e⟩:=(show ∃ t,u=Value.bytes b t from r);cases e;rfl
 | flt b=>obtain ⟨t,e⟩:=(show ∃ t,u=Value.float b t from r);cases e;rfl
 | ref a=>cases (show u=Value.ref a from r);rfl
 | ty n=>cases (show u=Value.type n from r);rfl
section
variable {P:Program} {w:World} {H H':Hp} {h h':Heap} {a C dx:Addr} {fs fs':List (Str×V)}
theorem Gf (hok:HOk P w H h) (e:H a=some (.ins C dx fs)):∃ mA,ObjM h a dx C mA/\(∀ f,RelO (fs.lookup f) (mA f))/\PySem.Within mA (fs.map (·.1))/\fs.length<=1000/\H dx=some (.own a):=by
 obtain ⟨d,z,ne,ob,mA,n,r,q⟩:=(show ObjOk P w H h a (.ins C dx fs) from hok a _ e)
 exact ⟨mA,⟨ob,n,ne⟩,r,q,z,d⟩
end
structure Cls (K:PySem.W.Frag) (C:Addr):Prop where
 pg:PySem.W.plainGet K C Str.empty=true
 hd:PySem.W.hasDictIn K C=true
 po:PySem.W.plainOver K C=true
 sa:PySem.W.findIn K (.ref C) "__setattr__" = some (some (.builtin "object.__setattr__"))
theorem Cls.get {K:PySem.W.Frag} {C:Addr} (c:Cls K C) (f:Str):PySem.W.plainGet K C f=true:=c.pg
def NoAttr (K:PySem.W.Frag) (C:Addr) (f:Str):Prop:=PySem.W.findIn K (.ref C) f=some none
theorem NoAttr.taker {K:PySem.W.Frag} {C:Addr} {f:Str} (n:NoAttr K C f):PySem.W.takerIn K C f=some none:=by
 unfold PySem.W.takerIn
 rw [show PySem.W.findIn K (.ref C) f=some none from n]
 rfl
structure uy (K:PySem.W.Frag) (C:Addr) (m:Str) (f:Addr):Prop where
 at_:PySem.W.findIn K (.ref C) m=some (some (.ref f))
 fn:PySem.W.isFn K (.ref f)=true
 kp:PySem.W.keepIn K (.ref f)=true
section
variable {X:Cx} {pins:List (Addr×Obj)} {σ:St} {H:Hp} {s:Shared} {a C dx:Addr} {fs:List (Str×V)} {f:Str} {v:V} {A:Around} {E:Value->Shared->Prop}
theorem VM {b:Bool} {Q:Value->Shared->Prop} (I:Inv X pins σ H s) (e:H a=some (.ins C dx fs)) (c:Cls X.K C) (n:NoAttr X.K C f) (l:fs.lookup f=some v)
  (h:∀ u s',Inv X pins σ H s'->RelV v u->Q u s'):wpAny (model X.prog X.w) A (getAttr (.ref a) f b) Q E s:=by
 obtain ⟨mA,O,r,_,_,_⟩:=Gf I.hok e
 obtain ⟨u,hu,ru⟩:=RelO.some_of (v:=v) (o:=mA f) (by rw [<- l];exact r f)
 exact QdU I.kIn O (c.get f) c.hd n hu (QaW ru) (h u _ (I.tok _) ru)
theorem jD {m:Str} {g:Addr} {pl:Sem Bool} {Q:Value×List Value->Shared->Prop} (I:Inv X pins σ H s) (e:H a=some (.ins C dx fs)) (c:Cls X.K C) (k:uy X.K C m g) (l:fs.lookup m=none)
  (h:Q (.ref g,[.ref a]) s):wpAny (model X.prog X.w) A (getMethod (.ref a) m pl) Q E s:=by
 obtain ⟨mA,O,r,_,_,_⟩:=Gf I.hok e
 have hn:mA m=none:=RelO.none_of (by rw [<- l];exact r m)
 exact QbZ I.kIn O (c.get m) k.at_ k.fn hn h
theorem Um {y:V} {u:Value} {Q:Unit->Shared->Prop} (I:Inv X pins σ H s) (e:H a=some (.ins C dx fs)) (c:Cls X.K C) (n:NoAttr X.K C f) (hl:fs.length < 1000) (ry:RelV y u)
  (h:∀ s',Inv X pins σ (upd H a (.ins C dx (YV f y fs))) s'->Q () s'):wpAny (model X.prog X.w) A (setAttr (.ref a) f u) Q E s:=by
 obtain ⟨mA,O,r,wi,_,ho⟩:=Gf I.hok e
 have hz:(fs.map (·.1)).length<=sizeLine:=by rw [List.length_map,sizeLine_eq];omega
 refine QeK I.kIn O c.sa c.po n.taker c.hd wi hz fun h' O' sb=>h _ ?_
 have hd:∃ o,h'.get? dx=some o:=let ⟨o,_,_,e',_⟩:=O'.ns;⟨o,e'⟩
 refine I.write (x:=a) (e:=dx) (by rw [e];exact True.intro) (.inr ho) (fun b q hb z=>(sb.2 b hb).trans z) hd ?_
 refine ⟨by rw [QX O.ne];exact ho,?_,O.ne,O'.obj,_,O'.ns,fun g=>?_,fun g hg=>?_⟩
 ·have:=yB f y fs;omega
 ·show RelO ((YV f y fs).lookup g) (if g=f then some u else mA g)
  rw [yC]
  by_cases q:g=f
  ·rw [if_pos q,if_pos q];exact ry
  ·rw [if_neg q,if_neg q];exact r g
 ·by_cases q:g=f
  ·rw [q];exact (yf f y fs).1
  ·refine (yf f y fs).2 g (wi g fun z=>hg ?_)
   show (if g=f then some u else mA g)=none
   rw [if_neg q];exact z
theorem Inv.made (I:Inv X pins σ H s):Inv X pins σ (upd (upd H s.heap.objs.size (.own (s.heap.objs.size+1))) (s.heap.objs.size+1) (.ins C s.heap.objs.size []))
  { s with heap:=(s.heap.push PySem.W.emptyDict).push (PySem.W.instObj C s.heap.objs.size) }:=by
 have e1:(s.heap.push PySem.W.emptyDict).get? s.heap.objs.size=some PySem.W.emptyDict:=Heap.get?_push_size s.heap rfl
 have e2:((s.heap.push PySem.W.emptyDict).push (PySem.W.instObj C s.heap.objs.size)).get? (s.heap.objs.size+1)=some (PySem.W.instObj C s.heap.objs.size):=by
  have:=Heap.get?_push_size (s.heap.push PySem.W.emptyDict) (o:=PySem.W.instObj C s.heap.objs.size) rfl
  rwa [Heap.size_push] at this
 have e3:(s.heap.push PySem.W.emptyDict).Ns s.heap.objs.size (fun _=>none):=⟨PySem.W.emptyDict,#[],_,e1,rfl,(fun e he=>absurd he (by simp)),fun _=>rfl⟩
 have I1:=I.laid (a:=s.heap.objs.size) (o:=.own (s.heap.objs.size+1)) (h':=s.heap.push PySem.W.emptyDict) (t':=s.toks) (fun b u q=>Heap.get?_push_of_some _ q) (Nat.le_refl _) ⟨_,e1⟩
 refine I1.laid (a:=s.heap.objs.size+1) (o:=.ins C s.heap.objs.size []) (t':=s.toks) (fun b u q=>Heap.get?_push_of_some _ q) (Nat.le_of_eq (Heap.size_push _ _)) ?_
 have ne:s.heap.objs.size≠s.heap.objs.size+1:=Nat.ne_of_lt (Nat.lt_succ_self _)
 refine ⟨by rw [QX ne,Za],Nat.zero_le _,ne,e2,fun _=>none,(Heap.Ns1.of_empty e3).at fun o q=>Heap.get?_push_of_some _ q,fun _=>True.intro,fun y hy=>absurd rfl hy⟩
theorem QdG {prog:Program} {w:World} {env:Env} {e:Expr} {f:Str} {pos:Pos} {s:Shared} {Q:Value->Shared->Prop} (hb:attributeBase e f env (eval e env)=eval e env)
  (h:wpAny (model prog w) A (eval e env) (fun o s₁=>wpAny (model prog w) A (getAttr o f true) Q E s₁) E s):wpAny (model prog w) A (eval (.Attribute e f pos) env) Q E s :=
 Attribute_any_ h (by rw [arm_eval_Attribute,hb])
end
def QhV (K:PySem.W.Frag) (ta:TE) (f:Str):TE:=fun σ H Q=>ta σ H fun x H1=>∃ a C dx fs v,x=.ref a/\H1 a=some (.ins C dx fs)/\Cls K C/\NoAttr K C f/\fs.lookup f=some v/\Q v H1
def QhT (K:PySem.W.Frag) (ta tv:TE) (f:Str):TS:=fun D σ H=>tv σ H fun y H1=>ta σ H1 fun x H2=>∃ a C dx fs,x=.ref a/\H2 a=some (.ins C dx fs)/\Cls K C/\NoAttr K C f/\fs.length < 1000 /\
 D.nx σ (upd H2 a (.ins C dx (YV f y fs)))
def QgB (X:Cx) (op:Operator) (rd:V->V->Hp->VK->Prop):Prop :=
 ∀ (pins:List (Addr×Obj)) (s:Shared) (σ:St) (H:Hp) (x y:V) (u v:Value) (Q:VK),Inv X pins σ H s->RelV x u->RelV y v->rd x y H Q->wpAny (model X.prog X.w) X.A (inplaceOp op u v) (EP X pins σ Q) X.xe s
def QeH (K:PySem.W.Frag) (ta tv:TE) (rd:V->V->Hp->VK->Prop) (f:Str):TS:=fun D σ H=>ta σ H fun x H1=>∃ a C dx fs v,x=.ref a/\H1 a=some (.ins C dx fs)/\Cls K C/\NoAttr K C f/\fs.lookup f=some v /\
 tv σ H1 fun y H2=>rd v y H2 fun z H3=>∃ dx' fs',H3 a=some (.ins C dx' fs')/\fs'.length < 1000/\D.nx σ (upd H3 a (.ins C dx' (YV f z fs')))
section
variable {X:Cx} {o e value:Expr} {f:Str} {pos pos' tpos:Pos} {ta tv:TE}
theorem QfU (he:PE X e ta) (hb:attributeBase e f X.env (eval e X.env)=eval e X.env):PE X (.Attribute e f pos) (QhV X.K ta f):=by
 intro pins s σ H Q I h
 refine QdG hb (thn (he pins s σ H _ I h) fun u s1 ⟨x,H1,I1,rx,a,C,dx,fs,v,ex,ea,c,n,l,q⟩=>?_)
 subst ex
 obtain rfl:u=Value.ref a:=rx
 exact VM I1 ea c n l fun u' s2 I2 ru=>⟨v,H1,I2,ru,q⟩
theorem Qga (ha:PE X o ta) (hv:PE X value tv) (hs:swapsWith value (some (.Attribute o f pos')) pos.line X.env=pure false):PS X (.Assign [.Attribute o f pos'] value pos) (QhT X.K ta tv f):=by
 intro pins s σ H D I h
 refine plainObj_wpAny_Assign_Attribute (thn (hv pins s σ H _ I h) fun u s1 ⟨y,H1,I1,ry,q⟩=>thn (ha pins s1 σ H1 _ I1 q) fun ov s2 ⟨x,H2,I2,rx,a,C,dx,fs,ex,ea,c,n,l,q2⟩=>?_) hs
 subst ex
 obtain rfl:ov=Value.ref a:=rx
 exact Um I2 ea c n l ry fun s3 I3=>⟨σ,_,I3,q2⟩
theorem Qbf {op:Operator} {rd:V->V->Hp->VK->Prop} (ha:PE X o ta) (hv:PE X value tv) (hop:QgB X op rd):PS X (.AugAssign (.Attribute o f tpos) op value pos) (QeH X.K ta tv rd f):=by
 intro pins s σ H D I h
 refine wpAny_AugAssign_AttributeAny (thn (ha pins s σ H _ I h) fun ov s1 ⟨x,H1,I1,rx,a,C,dx,fs,v,ex,ea,c,n,l,q⟩=>?_)
 subst ex
 obtain rfl:ov=Value.ref a:=rx
 refine VM I1 ea c n l fun u s2 I2 ru=>thn (hv pins s2 σ H1 _ I2 q) fun w3 s3 ⟨y,H2,I3,ry,q3⟩=>thn (hop pins s3 σ H2 v y u w3 _ I3 ru ry q3) fun w4 s4 ⟨z,H3,I4,rz,dx',fs',ea',l',q4⟩=>?_
 exact Um I4 ea' c n l' rz fun s5 I5=>⟨σ,_,I5,q4⟩
def QhM:V->V->Hp->VK->Prop:=fun x y H Q=>∃ i j,x=.int i/\y=.int j/\Q (.int (i+j)) H
theorem Qfw:QgB X .Add QhM:=by
 rintro pins s σ H x y u v Q I rx ry ⟨i,j,rfl,rfl,q⟩
 obtain ⟨t,rfl⟩:=(show ∃ t,u=Value.int i t from rx)
 obtain ⟨t',rfl⟩:=(show ∃ t',v=Value.int j t' from ry)
 exact PyProof.Rows.iadd_int ⟨.int (i+j),H,I.tok _,⟨_,rfl⟩,q⟩
theorem Qe7 {pl:Sem Bool} {m:Str} {apos:Pos} {args:List Expr} {pins:List (Addr×Obj)} {s:Shared} {σ:St} {H:Hp} {Q:Value->Shared->Prop} {te:TE} (he:PE X e te) (I:Inv X pins σ H s)
  (h:te σ H fun x H1=>∃ a C dx fs g,x=.ref a/\H1 a=some (.ins C dx fs)/\Cls X.K C/\uy X.K C m g/\fs.lookup m=none /\
   ∀ s1,Inv X pins σ H1 s1->wpAny (model X.prog X.w) X.A (callWith pos (.ref g) [.ref a] (backTo pos (starEach args X.env)) (backToKw pos (keywordEach [] X.env))) Q X.xe s1)
  (ht:eval (.Call (.Attribute e m apos) args [] pos) X.env=(do
   let ov <- eval e X.env
   standAt apos.atName
   let (f,first) <- holding [ov] (getMethod ov m pl)
   callWith pos f first (backTo pos (starEach args X.env)) (backToKw pos (keywordEach [] X.env)))) :
  wpAny (model X.prog X.w) X.A (eval (.Call (.Attribute e m apos) args [] pos) X.env) Q X.xe s:=by
 refine PySem.W.methodCall_KW (pl:=pl) (thn (he pins s σ H _ I h) fun u s1 ⟨x,H1,I1,rx,a,C,dx,fs,g,ex,ea,c,k,l,q⟩=>?_) ht
 subst ex
 obtain rfl:u=Value.ref a:=rx
 exact jD I1 ea c k l (q s1 I1)
end
section
variable {X:Cx} {pins:List (Addr×Obj)} {σ:St} {H:Hp} {s:Shared} {A:Around} {E:Value->Shared->Prop} {Q:Value->Shared->Prop} {c:Value} {b:Bool}
end
end L2
namespace L2
open PySem PySem.Spec PyProof.Rows
structure Room (k:Nat) (A:Around):Prop where
 hd:A.handled=none
 dp:A.depth+3 * k+5 < recursionLimit
 un:A.units+16 * k+200 < cLine
theorem Room.mono {j k:Nat} {A:Around} (r:Room k A) (h:j<=k):Room j A:=⟨r.hd,by have:=r.dp;omega,by have:=r.un;omega⟩
theorem Room.deeper {k:Nat} {A:Around} (r:Room (k+1) A) (env:Env):Room k (A.deeper env) :=
 ⟨r.hd,by have:=r.dp;show A.depth+1+3 * k+5 < _;omega,by have:=r.un;show A.units+3+16 * k+200 < _;omega⟩
theorem gc {A:Around} {C:Addr} {us:List Value} {kw:List (Str×Value)}:(A.under (.builtin "type.__call__" ⟨.ref C::us,kw⟩)).depth=A.depth+1:=by
 first | rfl | simp [Around.under,Code.weight,Code.isCreation,Code.isGuard,Code.isCaller,Code.frames,Code.isFrame,guardIds]
theorem ge {A:Around} {C:Addr} {us:List Value} {kw:List (Str×Value)}:(A.under (.builtin "type.__call__" ⟨.ref C::us,kw⟩)).units=A.units+1:=by
 first | rfl | simp [Around.under,Code.cUnits,Code.frames,Code.isFrame]
theorem Room.make {k:Nat} {A:Around} (r:Room (k+1) A) (C:Addr) (us:List Value) (kw:List (Str×Value)):Room k (A.under (.builtin "type.__call__" ⟨.ref C::us,kw⟩)) :=
 ⟨r.hd,by have:=r.dp;rw [gc];omega,by have:=r.un;rw [ge];omega⟩
theorem Room.depth {k:Nat} {A:Around} (r:Room k A):A.depth < recursionLimit:=by have:=r.dp;omega
theorem Room.units {k:Nat} {A:Around} (r:Room k A):A.units+64 < cLine:=by have:=r.un;omega
def Qhq:TA:=fun _ H Q=>Q [] H
def Qhn (ta:TE) (tr:TA):TA:=fun σ H Q=>ta σ H fun x H1=>tr σ H1 fun xs H2=>Q (x::xs) H2
section
variable {X:Cx} {e:Expr} {es:List Expr} {te:TE} {t:TA} {pos:Pos}
theorem pa_nil:PA X [] Qhq:=fun _ _ _ _ H Q I h=>Calls.spliced_nil ⟨[],H,I,.nil,h⟩
theorem X9 (ha:PE X e te) (hr:PA X es t) (hs:starEach (e::es) X.env=(false,eval e X.env)::starEach es X.env:=by rfl):PA X (e::es) (Qhn te t):=by
 intro pos pins s σ H Q I h
 rw [hs]
 show wpAny _ _ (spliced ((false,eval e X.env)::backTo pos (starEach es X.env))) _ _ s
 refine Calls.spliced_cons (thn (ha pins s σ H _ I h) fun u s1 ⟨x,H1,I1,r1,q1⟩=>?_)
 exact thn (hr pos pins s1 σ H1 _ I1 q1) fun us s2 ⟨xs,H2,I2,r2,q2⟩=>⟨x::xs,H2,I2,.cons r1 r2,q2⟩
def Qh1 (t:TA):TE:=fun σ H Q=>t σ H fun xs H1=>xs.length<=sizeLine/\∀ p,H1 p=none->Q (.ref p) (upd H1 p (.tup xs))
def QhY (t:TA):TE:=fun σ H Q=>t σ H fun xs H1=>xs.length<=sizeLine/\∀ p,H1 p=none->Q (.ref p) (upd H1 p (.lst xs))
theorem Qf0 {x1} (h:PA X es t):PE X (.Tuple es x1 pos) (Qh1 t):=by
 intro pins s σ H Q I hq
 refine wpAny_Tuple_spliced (thn (h pos pins s σ H _ I hq) fun us s1 ⟨xs,H1,I1,r,z,q⟩=>⟨by rw [<- r.length];exact z,?_⟩)
 have hf:H1 s1.heap.objs.size=none:=I1.hok.fresh (Nat.le_refl _)
 refine ⟨.ref s1.heap.objs.size,upd H1 s1.heap.objs.size (.tup xs),I1.laid (t':=s1.toks) (fun b u e=>Heap.get?_push_of_some _ e) (Nat.le_refl _) ?_,rfl,q _ hf⟩
 exact ⟨z,us,r,⟨_,Heap.get?_push_size _ rfl,rfl,_,rfl⟩⟩
theorem QcE (h:PA X es t):PE X (.List es pos) (QhY t):=by
 intro pins s σ H Q I hq
 refine wpAny_List_spliced (thn (h pos pins s σ H _ I hq) fun us s1 ⟨xs,H1,I1,r,z,q⟩=>⟨by rw [<- r.length];exact z,?_⟩)
 have hf:H1 s1.heap.objs.size=none:=I1.hok.fresh (Nat.le_refl _)
 refine ⟨.ref s1.heap.objs.size,upd H1 s1.heap.objs.size (.lst xs),I1.laid (t':=s1.toks) (fun b u e=>Heap.get?_push_of_some _ e) (Nat.le_refl _) ?_,rfl,q _ hf⟩
 exact ⟨z,us,0,r,Heap.get?_push_size _ rfl⟩
end
abbrev Sp:=List V->Hp->VK->XK->Prop
abbrev CXT:=List Env->Hp->Shared->XK->Value->Shared->Prop
structure Env0 (P:Program) (w:World) (K:PySem.W.Frag) (mg:Str->Option Value) (base:Heap) (A:Around) (outer:List Env) (s:Shared) (H:Hp):Prop where
 frames:A.frames=some outer
 mod:Mod K mg base
 bs:∀ b o,base.get? b=some o->s.heap.get? b=some o/\H b=none
 bsz:base.objs.size<=s.heap.objs.size
 funs:s.heap.FunFrames base outer
 frf:∀ b∈frs outer,H b=none
 hok:HOk P w H s.heap
 bare:AllBare s.gens
def CE (outer:List Env) (P:Program) (w:World) (H:Hp) (s:Shared) (Q:VK) (u:Value) (s':Shared):Prop :=
 ∃ v H',s'.os=s.os/\AllBare s'.gens/\Un (frs outer) [] H H' s.heap s'.heap/\HOk P w H' s'.heap/\RelV v u/\Q v H'
def CR (CX:CXT) (outer:List Env) (P:Program) (w:World) (H:Hp) (s:Shared) (Q:VK) (E:XK) (r:Result) (s':Shared):Prop :=
 match r with
 | .ok (.ret u)=>CE outer P w H s Q u s'
 | .ok _=>False
 | .error e=>CX outer H s E e s'
structure zh (P:Program) (w:World) (K:PySem.W.Frag) (mg:Str->Option Value) (base:Heap) (CX:CXT) (k:Nat) (f:Addr) (fd:FuncData) (ps:List Str) (sp:Sp):Prop where
 len:∀ vs H Q E,sp vs H Q E->vs.length=ps.length
 run:∀ (A:Around) (outer:List Env) (s:Shared) (H:Hp) (args:Args) (us:List Value) (vs:List V) (Q:VK) (E:XK),Room k A->Env0 P w K mg base A outer s H->BindsTo s fd args (ps.zip us)->Vals vs us->sp vs H Q E ->
  codeAny (model P w) A (.call (.ref f) args) (CR CX outer P w H s Q E) s
theorem Env0.make {P:Program} {w:World} {K:PySem.W.Frag} {mg:Str->Option Value} {base:Heap} {A:Around} {outer:List Env} {s:Shared} {H:Hp} (e:Env0 P w K mg base A outer s H) (C:Addr) (us:List Value) (kw:List (Str×Value)) :
  Env0 P w K mg base (A.under (.builtin "type.__call__" ⟨.ref C::us,kw⟩)) outer s H:=⟨by first | exact e.frames | (simpa [Around.under,Code.envs,Code.isFrame,pushEnvs] using e.frames),e.mod,e.bs,e.bsz,e.funs,e.frf,e.hok,e.bare⟩
section
variable {X:Cx} {pins:List (Addr×Obj)} {σ:St} {H:Hp} {s s':Shared}
theorem Inv.env0 (I:Inv X pins σ H s):Env0 X.prog X.w X.K X.mg X.base X.A X.stack s H :=
 ⟨I.ok.frames,I.ok.mod,I.bs,Nat.le_trans I.ok.bsz I.sz,I.stack,I.stkFree,I.hok,I.bare⟩
theorem Inv.after {Q:VK} {u:Value} (I:Inv X pins σ H s) (h:CE X.stack X.prog X.w H s Q u s'):EP X pins σ Q u s':=by
 obtain ⟨v,H',os,bare,un,hok,r,q⟩:=h
 obtain ⟨hh,g,d,t,os'⟩:=s'
 obtain rfl:os'=s.os:=os
 exact ⟨v,H',I.call (h':=hh) (g':=g) (d':=d) (t':=t) (ch:=[]) un hok bare (fun b z=>absurd z (by simp)),r,q⟩
end
def Qhm (sp:Sp) (dvs:List V) (E:XK) (t:TA):TE:=fun σ H Q=>t σ H fun vs H1=>sp (vs++dvs) H1 Q E
def Qdo (C:Addr) (m:Str) (sp:Sp) (dvs:List V) (E:XK) (ta:TE) (t:TA):TE:=fun σ H Q=>ta σ H fun x H1=>∃ a dx fs,x=.ref a/\H1 a=some (.ins C dx fs)/\fs.lookup m=none /\
 t σ H1 fun vs H2=>sp (x::(vs++dvs)) H2 Q E
def Binds (K:PySem.W.Frag) (fd:FuncData) (ps:List Str) (ds:List Value):Prop :=
 ∀ (s:Shared) (us:List Value),K.In s.heap->(us++ds).length=ps.length->BindsTo s fd ⟨us,[]⟩ (ps.zip (us++ds))
theorem Binds.all {K:PySem.W.Frag} {fd:FuncData} {ps:List Str} (h:∀ us:List Value,us.length=ps.length->bindArgs fd ⟨us,[]⟩=pure (ps.zip us)):Binds K fd ps []:=fun s us _ hl=>by
 rw [List.append_nil] at hl ⊢
 exact .of_eq (h us hl)
def YK (CX:CXT) (X:Cx) (E:XK):Prop:=∀ (pins:List (Addr×Obj)) (σ:St) (H:Hp) (s:Shared) (e:Value) (s':Shared),Inv X pins σ H s->CX X.stack H s E e s'->X.xe e s'
section
variable {X:Cx} {CX:CXT} {k:Nat} {f C:Addr} {fd:FuncData} {ps:List Str} {sp:Sp} {dvs:List V} {ds:List Value} {E:XK} {x m:Str} {p pos apos:Pos} {e o:Expr} {es:List Expr} {ta:TE} {t:TA}
theorem gE {pins:List (Addr×Obj)} {σ:St} {H:Hp} {s:Shared} {Q:VK} {us:List Value} {vs:List V} (F:zh X.prog X.w X.K X.mg X.base CX k f fd ps sp) (hr:Room k X.A) (hb:Binds X.K fd ps ds) (hd:Vals dvs ds) (hx:YK CX X E)
    (I:Inv X pins σ H s) (r:Vals vs us) (h:sp (vs++dvs) H Q E):wpAny (model X.prog X.w) X.A (call (.ref f) us) (EP X pins σ Q) X.xe s:=by
  have r2:Vals (vs++dvs) (us++ds):=r.append hd
  have hl:(us++ds).length=ps.length:=by rw [<- r2.length];exact F.len _ _ _ _ h
  refine wpAny_call (codeAny_mono (F.run X.A X.stack s H ⟨us,[]⟩ (us++ds) (vs++dvs) Q E hr I.env0 (hb s us I.kIn hl) r2 h) fun r s' hq=>?_)
  cases r with
  | error e=>exact hx pins σ H s e s' I hq
  | ok fl =>
    cases fl with
    | ret u=>exact I.after hq
    | next=>exact False.elim hq
    | brk=>exact False.elim hq
    | cont=>exact False.elim hq
theorem Qeg (F:zh X.prog X.w X.K X.mg X.base CX k f fd ps sp) (hr:Room k X.A) (hg:Gl X x) (hm:X.mg x=some (.ref f)) (hk:PySem.W.keepIn X.K (.ref f)=true) (hb:Binds X.K fd ps ds) (hd:Vals dvs ds) (hx:YK CX X E)
  (ha:PA X (e::es) t) (hdb:(x==("__debug__" : Str))=false:=by decide) (he:starEach (e::es) X.env=(false,eval e X.env)::starEach es X.env:=by rfl) (hpl:(backTo pos (starEach es X.env)).any (·.1)=false:=by rfl) :
  PE X (.Call (.Name x p) (e::es) [] pos) (Qhm sp dvs E t):=by
 intro pins s σ H Q I h
 refine wpAny_Call_Name_kw (Gn I hg hm ?_ hdb)
 refine PySem.W.callWith_K (h₀:=X.base) I.ok.mod.kin hk (thn (ha pos pins s σ H _ I h) fun us s1 ⟨vs,H1,I1,r,q⟩=>⟨I1.kIn,?_⟩) he hpl
 exact gE F hr hb hd hx I1 r q
theorem Qej {pl:Sem Bool} (he:PE X o ta) (c:Cls X.K C) (hm:uy X.K C m f) (F:zh X.prog X.w X.K X.mg X.base CX k f fd ps sp) (hr:Room k X.A) (hb:Binds X.K fd ps ds) (hd:Vals dvs ds) (hx:YK CX X E) (ha:PA X (e::es) t)
  (hst:starEach (e::es) X.env=(false,eval e X.env)::starEach es X.env:=by rfl) (hpl:(backTo pos (starEach es X.env)).any (·.1)=false:=by rfl)
  (ht:eval (.Call (.Attribute o m apos) (e::es) [] pos) X.env=(do
   let ov <- eval o X.env
   standAt apos.atName
   let (f,first) <- holding [ov] (getMethod ov m pl)
   callWith pos f first (backTo pos (starEach (e::es) X.env)) (backToKw pos (keywordEach [] X.env))):=by rfl) :
  PE X (.Call (.Attribute o m apos) (e::es) [] pos) (Qdo C m sp dvs E ta t):=by
 intro pins s σ H Q I h
 refine PySem.W.methodCall_KW (pl:=pl) (thn (he pins s σ H _ I h) fun u s1 ⟨x,H1,I1,rx,a,dx,fs,ex,ea,l,q⟩=>?_) ht
 subst ex
 obtain rfl:u=Value.ref a:=rx
 refine jD I1 ea c hm l ?_
 refine PySem.W.callWith_K (first:=[.ref a]) (h₀:=X.base) I.ok.mod.kin hm.kp (thn (ha pos pins s1 σ H1 _ I1 q) fun us s2 ⟨vs,H2,I2,r,q2⟩=>⟨I2.kIn,?_⟩) hst hpl
 exact gE (us:=.ref a::us) (vs:=.ref a::vs) F hr hb hd hx I2 (.cons rfl r) q2
theorem QcG {pl:Sem Bool} (he:PE X o ta) (c:Cls X.K C) (hm:uy X.K C m f) (F:zh X.prog X.w X.K X.mg X.base CX k f fd ps sp) (hr:Room k X.A) (hb:Binds X.K fd ps ds) (hd:Vals dvs ds) (hx:YK CX X E)
  (ht:eval (.Call (.Attribute o m apos) [] [] pos) X.env=(do
   let ov <- eval o X.env
   standAt apos.atName
   let (f,first) <- holding [ov] (getMethod ov m pl)
   callWith pos f first (backTo pos (starEach [] X.env)) (backToKw pos (keywordEach [] X.env))):=by rfl) :
  PE X (.Call (.Attribute o m apos) [] [] pos) (Qdo C m sp dvs E ta Qhq):=by
 intro pins s σ H Q I h
 refine PySem.W.methodCall_KW (pl:=pl) (thn (he pins s σ H _ I h) fun u s1 ⟨x,H1,I1,rx,a,dx,fs,ex,ea,l,q⟩=>?_) ht
 subst ex
 obtain rfl:u=Value.ref a:=rx
 refine jD I1 ea c hm l ?_
 exact PySem.W.callWith_K0 (first:=[.ref a]) I1.kIn hm.kp (gE (us:=[.ref a]) (vs:=[.ref a]) F hr hb hd hx I1 (.cons rfl .nil) q)
structure Mk (K:PySem.W.Frag) (C f:Addr):Prop where
 makes:PySem.W.makesIn K C=true
 init:PySem.W.findIn K (.ref C) "__init__" = some (some (.ref f))
 fn:PySem.W.isFn K (.ref f)=true
 kp:PySem.W.keepIn K (.ref C)=true
end
section
variable {X:Cx} {CX:CXT} {k:Nat} {f C:Addr} {fd:FuncData} {ps ks:List Str} {sp:Sp} {E:XK} {x m:Str} {p pos apos kpos:Pos} {e o:Expr} {es:List Expr} {kws:List Keyword} {te ta:TE} {t tk:TA} {nm:Option Str}
variable {g:List Value->List Value->List Value} {gV:List V->List V->List V}
end
structure Qy (N P:List Str) (sc:Scope):Prop where
 kind:sc.kind=.function
 co:sc.isCoroutine=false
 gen:sc.isGenerator=false
 nd:N.Nodup
 pre:N.take P.length=P
 par:∀ x∈P,sc.names.lookup x=some .local∨sc.names.lookup x=some .cell
 nofree:∀ y∈sc.names,y.2≠.free
theorem U5 {kindOf:Str->Option NameKind} {x:Str}:∀ {binds:List (Str×Value)} {m:Str->Option Value},(∀ v,(x,v)∉binds)->bindL kindOf binds m x=m x
  | [],_,_=>rfl
  | (n,v)::r,m,h=>by
    unfold bindL
    rw [U5 fun w hw=>h w (List.mem_cons_of_mem _ hw)]
    split
    . have:x≠n:=by rintro rfl;exact h v List.mem_cons_self
      simp [this]
    . rfl
theorem U3 {kindOf:Str->Option NameKind} {x:Str}:∀ {binds:List (Str×Value)} {m:Str->Option Value},(∀ v,(x,v)∉binds)->bindC kindOf binds m x=m x
  | [],_,_=>rfl
  | (n,v)::r,m,h=>by
    unfold bindC
    rw [U3 fun w hw=>h w (List.mem_cons_of_mem _ hw)]
    split
    . rfl
    . have:x≠n:=by rintro rfl;exact h v List.mem_cons_self
      simp [this]
theorem U4 {kindOf:Str->Option NameKind} {x:Str} {v:Value}:∀ {P:List Str} {vs:List Value} {i:Nat} {m:Str->Option Value},P.Nodup->P[i]?=some x->vs[i]?=some v->kindOf x=some .local ->
    bindL kindOf (P.zip vs) m x=some v
  | [],_,_,_,_,h,_,_=>by simp at h
  | _::_,[],_,_,_,_,h,_=>by simp at h
  | p::P,w::vs,0,m,nd,h1,h2,hk=>by
    simp at h1 h2;subst h1;subst h2
    show bindL kindOf ((p,w)::P.zip vs) m p=_
    unfold bindL
    rw [U5 fun v hv=>(List.nodup_cons.mp nd).1 (List.of_mem_zip hv).1,if_pos hk]
    simp
  | p::P,w::vs,i+1,m,nd,h1,h2,hk=>by
    show bindL kindOf ((p,w)::P.zip vs) m x=_
    unfold bindL
    exact U4 (i:=i) (List.nodup_cons.mp nd).2 (by simpa using h1) (by simpa using h2) hk
theorem U2 {kindOf:Str->Option NameKind} {x:Str} {v:Value}:∀ {P:List Str} {vs:List Value} {i:Nat} {m:Str->Option Value},P.Nodup->P[i]?=some x->vs[i]?=some v->kindOf x≠some .local ->
    bindC kindOf (P.zip vs) m x=some v
  | [],_,_,_,_,h,_,_=>by simp at h
  | _::_,[],_,_,_,_,h,_=>by simp at h
  | p::P,w::vs,0,m,nd,h1,h2,hk=>by
    simp at h1 h2;subst h1;subst h2
    show bindC kindOf ((p,w)::P.zip vs) m p=_
    unfold bindC
    rw [U3 fun v hv=>(List.nodup_cons.mp nd).1 (List.of_mem_zip hv).1,if_neg hk]
    simp
  | p::P,w::vs,i+1,m,nd,h1,h2,hk=>by
    show bindC kindOf ((p,w)::P.zip vs) m x=_
    unfold bindC
    exact U2 (i:=i) (List.nodup_cons.mp nd).2 (by simpa using h1) (by simpa using h2) hk
def start (N:List Str) (vs:List V):St:=vs.map some++List.replicate (N.length - vs.length) none
def y0 (CX:CXT) (P:Program) (w:World) (K:PySem.W.Frag) (mg:Str->Option Value) (base:Heap) (N:List Str) (qual:Str) (scope:Scope) (f:Addr) (cd:Value) (A:Around) (outer:List Env) (s:Shared) (H:Hp) (E:XK):Cx where
 prog:=P
 w:=w
 K:=K
 mg:=mg
 base:=base
 A:=A.deeper (envOfC qual scope s.heap.objs.size f cd)
 N:=N
 s₀:=s
 H₀:=H
 env:=envOfC qual scope s.heap.objs.size f cd
 outer:=outer
 stack:=envOfC qual scope s.heap.objs.size f cd::outer
 ex:=[]
 calm:=true
 fn:=fun _=>true
 pn:=[]
 xe:=fun e s'=>wpAny (model P w) (A.deeper (envOfC qual scope s.heap.objs.size f cd)) (leaving (envOfC qual scope s.heap.objs.size f cd) e) (fun _ s''=>CX outer H s E e s'') (fun e' s''=>CX outer H s E e' s'') s'
theorem G3 {sc:Scope} {n:Nat} {x:Str} (h:sc.names.lookup x=some .cell):∃ c,(cellsFrom n sc.names []).lookup x=some c:=by
 have q:=PySem.W.cellsFrom_some sc.names n [] (.inl h)
 exact Option.isSome_iff_exists.mp q
theorem QaY {CX:CXT} {P:Program} {w:World} {K:PySem.W.Frag} {mg:Str->Option Value} {base:Heap} {N ps:List Str} {qual:Str} {scope:Scope} {f:Addr} {cd:Value} {A:Around} {outer:List Env} {s s1:Shared} {H:Hp} {E:XK} {us:List Value} {vs:List V}
  (S:Qy N ps scope) (hd:A.handled=none) (e0:Env0 P w K mg base A outer s H) (hl:vs.length=ps.length) (r:Vals vs us)
  (x:InCallC s s.heap.objs.size (bindL (envOfC qual scope s.heap.objs.size f cd).kindOf (ps.zip us) fun _=>none) (cellsFrom (s.heap.objs.size+1) scope.names []) (bindC (envOfC qual scope s.heap.objs.size f cd).kindOf (ps.zip us) fun _=>none) s1) :
  Inv (y0 CX P w K mg base N qual scope f cd A outer s H E) [] (start N vs) H s1:=by
 have hpl:ps.length<=N.length:=by have:=congrArg List.length S.pre;rw [List.length_take] at this;omega
 obtain ⟨h1,tk,rfl,hk⟩:=x.done
 have noA:∀ b:Addr,b∉(y0 CX P w K mg base N qual scope f cd A outer s H E).ex:=fun b z=>absurd (show b∈([]:List Addr) from z) (by simp)
 refine ⟨⟨e0.mod,S.kind,rfl,rfl,Nat.le_refl _,fun y z c h1 h2=>?_,fun y hy=>?_,fun y c _ h=>?_,fun _=>hd,Around.frames_deeper e0.frames,.inr ⟨rfl,rfl⟩,fun b z=>absurd z (noA b),e0.bs,e0.bsz,fun b _ _=>noA b,fun b z=>absurd z (noA b),e0.funs,e0.frf⟩,
  rfl,e0.bare,Un.kept hk,⟨_,x.toInCall.ns,fun i y v h1 h2 h3=>?_⟩,fun y c h=>⟨_,x.cell y c h⟩,e0.hok.fresh (Nat.le_refl _),fun y c h=>?_,fun p hp=>absurd (show p∈([]:List (Addr×Obj)) from hp) (by simp),e0.hok.kept hk,?_⟩
 ·exact name_of_addr x.apart (PySem.mem_of_lookup h1) (PySem.mem_of_lookup h2)
 ·have hy:scope.names.lookup y=some .cell∨scope.names.lookup y=some .free:=hy
  rcases hy with hy | hy
  ·exact G3 hy
  ·exact absurd rfl (S.nofree _ (PySem.mem_of_lookup hy))
 ·exact Nat.le_of_lt (x.above y c (PySem.mem_of_lookup h))
 ·have hi:i < vs.length:=by
   unfold start at h2
   by_cases hi:i < vs.length
   ·exact hi
   ·rw [List.getElem?_append_right (by simpa using hi)] at h2
    rw [List.getElem?_replicate] at h2
    split at h2<;>cases h2
  have ha:vs[i]?=some v:=by
   unfold start at h2
   rw [List.getElem?_append_left (by simpa using hi),List.getElem?_map] at h2
   cases e:vs[i]? with
   | none=>rw [e] at h2;cases h2
   | some a=>rw [e] at h2;cases h2;rfl
  obtain ⟨u,hu,rv⟩:=r.get ha
  have hp:ps[i]?=some y:=by
   rw [<- S.pre,List.getElem?_take_of_lt (by omega)];exact h1
  have ndP:ps.Nodup:=by rw [<- S.pre];exact S.nd.sublist (List.take_sublist _ _)
  refine ⟨u,rv,?_⟩
  rcases S.par y (List.mem_of_getElem? hp) with k | k
  ·exact .inl ⟨k,U4 ndP hp hu k⟩
  ·obtain ⟨c,e⟩:=G3 (n:=s.heap.objs.size+1) k
   refine .inr ⟨.inl k,c,e,?_⟩
   have q:=x.cell y c e
   rw [U2 ndP hp hu (by show scope.names.lookup y≠_;rw [k];decide)] at q
   exact q
 ·exact e0.hok.fresh (Nat.le_of_lt (x.above y c (PySem.mem_of_lookup h)))
 ·unfold start
  show _=N.length
  rw [List.length_append,List.length_map,List.length_replicate]
  omega
theorem QgP {CX:CXT} {P:Program} {w:World} {K:PySem.W.Frag} {mg:Str->Option Value} {base:Heap} {k:Nat} {f:Addr} {name qual:Str} {params:Arguments} {body:List Stmt} {scope:Scope} {dV kV doc pm cdv ct oc:Value} {an od:Option Addr}
    {osl:Array (Option Value)} {N ps:List Str} {sp:Sp} (lk:K.lookup f=some ⟨oc,od,.func (PySem.W.fnOf name qual params body scope dV kV doc pm an cdv ct),osl⟩) (hcd:PySem.W.codeIn K cdv qual=true) (S:Qy N ps scope)
    (len:∀ vs H Q E,sp vs H Q E->vs.length=ps.length)
    (hbody:∀ (A:Around) (outer:List Env) (s:Shared) (H:Hp) (vs:List V) (Q:VK) (E:XK),Room k (A.deeper (envOfC qual scope s.heap.objs.size f cdv))->sp vs H Q E ->
      ∃ t,PSs (y0 CX P w K mg base N qual scope f cdv A outer s H E) body t/\t { nx:=fun _ H'=>Q .non H',rt:=Q } (start N vs) H) :
    zh P w K mg base CX (k+1) f (PySem.W.fnOf name qual params body scope dV kV doc pm an cdv ct) ps sp:=by
  refine ⟨len,fun A outer s H args us vs Q E hr e0 hb r hsp=>?_⟩
  have hl:=len _ _ _ _ hsp
  have KX:K.In s.heap:=e0.mod.kin.keeps fun b o e=>(e0.bs b o e).1
  have lim:s.heap.NoLimit:=e0.mod.nolimit.keeps fun b o e=>(e0.bs b o e).1
  have hkind:∀ y∈ps.zip us,scope.names.lookup y.1=some .local∨(scope.names.lookup y.1=some .cell/\((cellsFrom (s.heap.objs.size+1) scope.names []).lookup y.1).isSome=true):=fun ⟨n,v⟩ hy=>by
    rcases S.par n (List.of_mem_zip hy).1 with q | q
    . exact .inl q
    . exact .inr ⟨q,PySem.W.cellsFrom_some _ _ _ (.inl q)⟩
  refine codeAny_call_function hr.depth (KX _ _ lk) rfl S.co S.gen rfl (PySem.W.codeRec_of KX hcd) (hb _ _ _ _ ?_)
  refine wpAny_newFunctionEnv_cells S.kind hkind fun env he s1 x=>?_
  subst he
  refine ⟨lim.keeps x.toInCall.keep,codeAny_func ?_⟩
  obtain ⟨t,ht,hq⟩:=hbody A outer s H vs Q E (hr.deeper _) hsp
  have I:Inv (y0 CX P w K mg base N qual scope f cdv A outer s H E) [] (start N vs) H s1:=QaY S hr.hd e0 hl r x
  refine wpAny_mono (ht [] s1 (start N vs) H _ I hq) (fun fl s' hs=>?_) fun e s' hs=>hs
  have fin:∀ {σ':St} {H':Hp} {v:V} {u:Value},Inv (y0 CX P w K mg base N qual scope f cdv A outer s H E) [] σ' H' s'->RelV v u->Q v H'->CE outer P w H s Q u s' :=
    fun {σ' H' v u} J rv q=>⟨v,H',J.os,J.bare,J.base,J.hok,rv,q⟩
  cases fl with
  | ret u =>
    obtain ⟨v,σ',H',J,rv,q⟩:=hs
    exact fin J rv q
  | next =>
    obtain ⟨σ',H',J,q⟩:=hs
    exact fin (v:=V.non) (u:=Value.none) J rfl q
  | brk =>
    obtain ⟨_,_,_,q⟩:=hs
    exact False.elim q
  | cont =>
    obtain ⟨_,_,_,q⟩:=hs
    exact False.elim q
end L2
namespace L2
open PySem PySem.Spec PyProof.Rows
section
variable {X:Cx} {x:Str} {p pos:Pos} {e:Expr} {es:List Expr} {t:TA} {id T:String} {r:List V->Hp->VK->Prop}
def tCB (r:List V->Hp->VK->Prop) (t:TA):TE:=fun σ H Q=>t σ H fun vs H1=>r vs H1 Q
theorem vI (hc:CallR X (.builtin id) r) (hg:Gl X x) (hm:X.mg x=none) (hv:bootBuiltins x=some (.builtin id)) (ha:PA X (e::es) t) (hn:x ≠ "__name__" := by decide) (hdb:(x==("__debug__" : Str))=false:=by decide)
  (he:starEach (e::es) X.env=(false,eval e X.env)::starEach es X.env:=by rfl) (hpl:(backTo pos (starEach es X.env)).any (·.1)=false:=by rfl):PE X (.Call (.Name x p) (e::es) [] pos) (tCB r t):=by
 intro pins s σ H Q I h
 refine wpAny_Call_Name_kw (YQ I hg hm hv ?_ hn hdb)
 exact PyProof.Rows.callWith_builtin1 (thn (ha pos pins s σ H _ I h) fun us s1 ⟨vs,H1,I1,r1,q1⟩=>hc pins s1 σ H1 vs us Q I1 r1 q1) he hpl
theorem Qa9 (hc:CallR X (.type T) r) (hg:Gl X x) (hm:X.mg x=none) (hv:bootBuiltins x=some (.type T)) (ha:PA X (e::es) t) (hn:x ≠ "__name__" := by decide) (hdb:(x==("__debug__" : Str))=false:=by decide)
  (he:starEach (e::es) X.env=(false,eval e X.env)::starEach es X.env:=by rfl) (hpl:(backTo pos (starEach es X.env)).any (·.1)=false:=by rfl):PE X (.Call (.Name x p) (e::es) [] pos) (tCB r t):=by
 intro pins s σ H Q I h
 refine wpAny_Call_Name_kw (YQ I hg hm hv ?_ hn hdb)
 exact PyProof.Rows.callWith_type1 (thn (ha pos pins s σ H _ I h) fun us s1 ⟨vs,H1,I1,r1,q1⟩=>hc pins s1 σ H1 vs us Q I1 r1 q1) he hpl
end
end L2
namespace HT
open PySem PyProof.Rows
section
open PySem.SeqAt
open PySem.AutoSeq1 (wpAny_loadPart')
open PySem.MeetsSeq PySem.MeetsSeq2 PySem.MeetsSeq3
end
section
variable {prog:Program} {w:World} {A:Around} {E:Value->Shared->Prop} {s:Shared}
theorem cat_tup {t b:Addr} {vs ws:List Value} {Q:Value->Shared->Prop} (ht:IsTup s.heap t vs.toArray) (hb:IsTup s.heap b ws.toArray) (hv:vs≠[])
  (h1:ws=[]->Q (.ref t) s) (h2:ws≠[]->Q (.ref s.heap.objs.size) { s with heap:=s.heap.push { cls:=.type "tuple", data:=.seq (vs++ws).toArray } })
  (hsz:vs.length+ws.length<=sizeLine):wpAny (model prog w) A (binaryOp .Add (.ref t) (.ref b)) Q E s:=by
 obtain ⟨⟨cls,dd,data,sl⟩,ho,hc,n,hd⟩:=id ht
 obtain ⟨⟨cls2,dd2,data2,sl2⟩,ho2,hc2,n2,hd2⟩:=id hb
 simp only at hc hd hc2 hd2
 subst hc hd hc2 hd2
 have e:vs.toArray++ws.toArray=(vs++ws).toArray:=by simp
 by_cases hw:ws=[]
 ·exact concat_meets ⟨_,ho,rfl⟩ ⟨_,ho2,rfl⟩ noFill_tuple_add seq_tuple_add PySem.F.slot_tuple_add PySem.F.entry_tuple_add (PySem.F.args_tuple_add_2 _ _)
   (tuple_addW1 t b vs.toArray ws.toArray n n2 dd dd2 sl sl2 (by simpa using hv) (by simp [hw])) ⟨ho,ho2,h1 hw⟩
 ·refine concat_meets ⟨_,ho,rfl⟩ ⟨_,ho2,rfl⟩ noFill_tuple_add seq_tuple_add PySem.F.slot_tuple_add PySem.F.entry_tuple_add (PySem.F.args_tuple_add_2 _ _)
   (tuple_addW2 t b vs.toArray ws.toArray n n2 dd dd2 sl sl2 (by simpa using hv) (by simpa using hw) (by rw [List.size_toArray,List.size_toArray];exact hsz)) ⟨ho,ho2,?_⟩
  rw [e]
  exact h2 hw
def sIx (n d:Nat):Option Int->Nat
 | none=>d
 | some v=>if v < 0 then (v+(n:Int)).toNat else min v.toNat n
theorem sIx_nat (n d k:Nat):sIx n d (some (k:Int))=min k n:=by
 show (if (k:Int) < 0 then ((k:Int)+(n:Int)).toNat else min (k:Int).toNat n)=min k n
 rw [if_neg (by omega),Int.toNat_natCast]
theorem Qgi (n d:Nat) (hd:d<=n) (o:Option Int):sIx n d o<=n:=by
  cases o with
  | none=>exact hd
  | some v =>
    show (if v < 0 then (v+(n:Int)).toNat else min v.toNat n)<=n
    by_cases hv:v < 0
    . rw [if_pos hv];omega
    . rw [if_neg hv];exact Nat.min_le_right _ _
theorem kj (v:Int) (n d:Nat):(if v < 0 then max (v+(n:Int)) 0 else min v (n:Int))=((sIx n d (some v):Nat):Int):=by
 show (if v < 0 then max (v+(n:Int)) 0 else min v (n:Int))=(((if v < 0 then (v+(n:Int)).toNat else min v.toNat n):Nat):Int)
 by_cases hv:v < 0
 ·simp only [if_pos hv];omega
 ·simp only [if_neg hv];omega
theorem uz (lo hi:Option Int) (n:Nat):Builtin.Slice.sliceAdjust lo hi 1 (n:Int)=(((sIx n 0 lo:Nat):Int),((sIx n n hi:Nat):Int)):=by
 have h1:¬ ((1:Int) < 0):=by omega
 unfold Builtin.Slice.sliceAdjust
 simp only [h1,if_false]
 refine Prod.ext ?_ ?_
 ·cases lo with
  | none=>rfl
  | some v=>exact kj v n 0
 ·cases hi with
  | none=>rfl
  | some v=>exact kj v n n
theorem gy (i j:Nat):Builtin.Slice.slicePlaces (i:Int) (j:Int) 1=j - i:=by
 unfold Builtin.Slice.slicePlaces
 have h1:(1:Int) > 0:=by omega
 simp only [h1,if_true,Int.ediv_one]
 split<;>omega
theorem Uq {v:Value} {o:Option Int} {Q:Option Int->Shared->Prop} (p:IsPart v o) (h:Q o s):wpAny (model prog w) A (Builtin.Slice.slicePartIndex v) Q E s:=by
 cases p with
 | none=>exact slicePart_none h
 | int i t=>exact slicePart_int h
theorem sliceApplied_gen {sl:Addr} {vl vu:Value} {lo hi:Option Int} {n:Nat} {Q:Int×Int×Nat->Shared->Prop} (hs:s.heap.IsSliceOf sl vl vu .none) (pl:IsPart vl lo) (pu:IsPart vu hi)
  (h:Q (((sIx n 0 lo:Nat):Int),1,sIx n n hi - sIx n 0 lo) s):wpAny (model prog w) A (Builtin.Slice.sliceApplied (.ref sl) (pure (n:Int))) Q E s:=by
 obtain ⟨os,hos,hcs,hds⟩:=id hs
 unfold Builtin.Slice.sliceApplied Builtin.Slice.sliceFields
 refine wpAny_bind (wpAny_bind (wpAny_field hos hds (x:=vl) rfl (wpAny_bind (wpAny_field hos hds (x:=vu) rfl (wpAny_bind (wpAny_field hos hds (x:=.none) rfl (wpAny_pure ?_)))))))
 refine wpAny_bind (slicePart_none ?_)
 show wpAny _ _ (if ((1:Int)==0)=true then _ else _) _ _ s
 rw [if_neg (by decide)]
 refine wpAny_bind (Uq pl (wpAny_bind (Uq pu (wpAny_bind (wpAny_pure ?_)))))
 show wpAny _ _ (match Builtin.Slice.sliceAdjust lo hi 1 (n:Int) with | (lo,hi)=>pure (lo,(1:Int),Builtin.Slice.slicePlaces lo hi 1)) _ _ s
 rw [uz lo hi n]
 show wpAny _ _ (pure (((sIx n 0 lo:Nat):Int),(1:Int),Builtin.Slice.slicePlaces ((sIx n 0 lo:Nat):Int) ((sIx n n hi:Nat):Int) 1)) _ _ s
 rw [gy]
 exact wpAny_pure h
theorem QcL (xs:Array Value) (i k:Nat):((List.range k).filterMap fun (m:Nat)=>xs[((i:Int)+(m:Int) * 1).toNat]?).toArray=((xs.toList.drop i).take k).toArray:=by
 have e:(fun (m:Nat)=>xs[((i:Int)+(m:Int) * 1).toNat]?)=fun m=>xs[i+m]?:=by
  funext m
  have:((i:Int)+(m:Int) * 1).toNat=i+m:=by omega
  rw [this]
 rw [e]
 have:=pick_run xs i k
 rw [List.filterMap_map] at this
 have e2:((fun x=>xs[x]?)∘fun x=>i+x)=fun m=>xs[i+m]?:=rfl
 rw [e2] at this
 rw [this]
theorem getItem_tuple_cut {t sl:Addr} {items:Array Value} {vl vu:Value} {lo hi:Option Int} {Q:Value->Shared->Prop} (ht:IsTup s.heap t items) (hs:s.heap.IsSliceOf sl vl vu .none) (pl:IsPart vl lo) (pu:IsPart vu hi)
  (hw:¬ (sIx items.size 0 lo=0/\sIx items.size items.size hi=items.size))
  (h:Q (.ref s.heap.objs.size) { s with heap:=s.heap.push { cls:=.type "tuple", data:=.seq ((items.toList.drop (sIx items.size 0 lo)).take (sIx items.size items.size hi - sIx items.size 0 lo)).toArray } })
  (hsz:items.size<=sizeLine):wpAny (model prog w) A (getItem (.ref t) (.ref sl)) Q E s:=by
 have htake:sizeOk (.seq ((items.toList.drop (sIx items.size 0 lo)).take (sIx items.size items.size hi - sIx items.size 0 lo)).toArray):=by
  show ((items.toList.drop (sIx items.size 0 lo)).take (sIx items.size items.size hi - sIx items.size 0 lo)).toArray.size<=sizeLine
  rw [List.size_toArray,List.length_take,List.length_drop,Array.length_toList]
  omega
 have hj:sIx items.size items.size hi<=items.size:=Qgi _ _ (Nat.le_refl _) hi
 obtain ⟨os,hos,hcs,hds⟩:=id hs
 have hTs:s.TypeIs (.ref sl) "slice" := ⟨os,hos,hcs⟩
 unfold getItem
 try with_reducible refine wpAny_holding ?_
 first | refine wpAny_bind (wpAny_pure ?_) | skip
 refine wpAny_bind (wpAny_sequenceKey ht.typeIs (by decide) ?_)
 refine wpAny_bind (wpAny_callSpecial?_slot (name:=Str.ofString "__getitem__") ht.typeIs PyProof.Rows.slot_tuple_getitem
  (wpAny_call_entry PyProof.Rows.slot_tuple_getitem ht.typeIs entry_tuple_getitem ?_ (args_tuple_getitem _ _)))
 show wpAny _ _ (Builtin.Tuple.tupleItemsOf (.ref t) >>= _) _ _ s
 refine wpAny_bind (tupleItemsOf_ ht ?_)
 refine wpAny_bind (wpAny_typeOf hTs ?_)
 rw [if_pos (by decide)]
 refine wpAny_bind (sliceApplied_gen hs pl pu ?_)
 have hno:¬ ((((sIx items.size 0 lo:Nat):Int)==0&&(1:Int)==1&&(sIx items.size items.size hi - sIx items.size 0 lo)==items.size)=true):=by
  intro q
  rw [Bool.and_eq_true,Bool.and_eq_true] at q
  have q1:((sIx items.size 0 lo:Nat):Int)=0:=eq_of_beq q.1.1
  have q2:sIx items.size items.size hi - sIx items.size 0 lo=items.size:=eq_of_beq q.2
  exact hw ⟨by omega,by omega⟩
 show wpAny _ _ (if (((sIx items.size 0 lo:Nat):Int)==0&&(1:Int)==1&&(sIx items.size items.size hi - sIx items.size 0 lo)==items.size)=true then _ else _) _ _ s
 rw [if_neg hno,QcL]
 first
  | exact wpAny_bind (m:=Builtin.Tuple.tupleExact _) (wpAny_newObj_type (wpAny_pure ⟨_,rfl,wpAny_pure h⟩) htake)
  | exact wpAny_bind (m:=Builtin.Tuple.tupleExact _) (wpAny_newObj_type (wpAny_bind (wpAny_pure (wpAny_pure ⟨_,rfl,wpAny_pure h⟩))) htake)
  | exact wpAny_bind (wpAny_bind (m:=Builtin.Tuple.tupleExact _) (wpAny_newObj_type (wpAny_pure (wpAny_pure ⟨_,rfl,wpAny_pure h⟩)) htake))
  | exact wpAny_bind (wpAny_bind (m:=Builtin.Tuple.tupleExact _) (wpAny_newObj_type (wpAny_pure ⟨_,rfl,wpAny_pure h⟩) htake))
end
end HT
namespace L2
open PySem PySem.Spec PyProof.Rows
abbrev TO:=St->Hp->(Option Int->Hp->Prop)->Prop
def PO (X:Cx) (e:Option Expr) (t:TO):Prop :=
  ∀ (pins : List (Addr × Obj)) (s : Shared) (σ : St) (H : Hp) (Q : Option Int -> Hp -> Prop), Inv X pins σ H s -> t σ H Q ->
    wpAny (model X.prog X.w) X.A (evalPart e X.env) (fun u s'=>∃ o H',Inv X pins σ H' s'/\IsPart u o/\Q o H') X.xe s
def QeS:TO:=fun _ H Q=>Q none H
def Qhs (t:TE):TO:=fun σ H Q=>t σ H fun x H1=>∃ i,x=.int i/\Q (some i) H1
section
variable {X:Cx} {e:Expr} {te:TE} {lo hi:Option Expr} {tl th:TO} {pos p2:Pos}
theorem Qep:PO X none QeS:=by
 intro pins s σ H Q I h
 rw [evalPart_none]
 exact wpAny_pure ⟨none,H,I,.none,h⟩
theorem Qeq (h:PE X e te):PO X (some e) (Qhs te):=by
 intro pins s σ H Q I hw
 rw [evalPart_some]
 refine thn (h pins s σ H _ I hw) fun u s1 ⟨x,H1,I1,r1,q1⟩=>?_
 obtain ⟨i,rfl,q⟩:=q1
 obtain ⟨t,rfl⟩:=r1
 exact ⟨some i,H1,I1,.int i t,q⟩
def SlR (X:Cx) (r:V->Option Int->Option Int->Hp->VK->Prop):Prop :=
  ∀ (pins : List (Addr × Obj)) (s : Shared) (σ : St) (H : Hp) (x : V) (v vl vu : Value) (lo hi : Option Int) (sl : Addr) (Q : VK), Inv X pins σ H s -> RelV x v -> s.heap.IsSliceOf sl vl vu .none -> IsPart vl lo -> IsPart vu hi -> r x lo hi H Q ->
    ∃ T id,typeLookup (.type T) "__getitem__" = pure (some (.builtin id))/\s.TypeIs v T/\wpAny (model X.prog X.w) X.A (getItem v (.ref sl)) (EP X pins σ Q) X.xe s
def tSl (r:V->Option Int->Option Int->Hp->VK->Prop) (te:TE) (tl th:TO):TE:=fun σ H Q=>te σ H fun x H1=>tl σ H1 fun l H2=>th σ H2 fun u H3=>r x l u H3 Q
theorem QcI {r:V->Option Int->Option Int->Hp->VK->Prop} (hr:SlR X r) (he:PE X e te) (hl:PO X lo tl) (hu:PO X hi th):PE X (.Subscript e (.Slice lo hi none p2) pos) (tSl r te tl th):=by
 intro pins s σ H Q I h
 refine Subscript_ (thn (he pins s σ H _ I h) fun v s1 ⟨x,H1,I1,r1,q1⟩=>?_)
 refine wpAny_Slice (thn (hl pins s1 σ H1 _ I1 q1) fun vl s2 ⟨l,H2,I2,pl,q2⟩=>thn (hu pins s2 σ H2 _ I2 q2) fun vu s3 ⟨u,H3,I3,pu,q3⟩=>?_)
 rw [evalPart_none]
 refine wpAny_pure ?_
 have I4:Inv X pins σ H3 { s3 with heap:=s3.heap.push { cls:=.type "slice", data:=.fields #[vl,vu,.none] } }:=I3.kept (t':=s3.toks) fun b ob q=>Heap.get?_push_of_some _ q
 obtain ⟨T,id,hT,ht,hg⟩:=hr pins { s3 with heap:=s3.heap.push { cls:=.type "slice", data:=.fields #[vl,vu,.none] } } σ H3 x v vl vu l u s3.heap.objs.size Q I4 r1 (Heap.IsSliceOf.new ..) pl pu q3
 show wpAny (model X.prog X.w) X.A (subscriptTail e (.Slice lo hi none p2) v (.ref s3.heap.objs.size)) (EP X pins σ Q) X.xe { s3 with heap:=s3.heap.push { cls:=.type "slice", data:=.fields #[vl,vu,.none] } }
 exact tail_any (ops:=[.ref s3.heap.objs.size,v]) ht hT hg (by with_unfolding_all rfl)
def G8 (xs:List V) (lo hi:Option Int):List V:=(xs.drop (HT.sIx xs.length 0 lo)).take (HT.sIx xs.length xs.length hi - HT.sIx xs.length 0 lo)
theorem yy (xs:List V) (lo hi:Option Int):(G8 xs lo hi).length<=xs.length:=by
 unfold G8
 rw [List.length_take,List.length_drop]
 omega
def QhR (K:PySem.W.Frag):V->Option Int->Option Int->Hp->VK->Prop:=fun x lo hi H Q=>∃ a xs,x=.ref a/\SqT K H a xs /\
 ¬ (HT.sIx xs.length 0 lo=0/\HT.sIx xs.length xs.length hi=xs.length)/\∀ p,H p=none->Q (.ref p) (upd H p (.tup (G8 xs lo hi)))
theorem Qgj:SlR X (QhR X.K):=by
 intro pins s σ H x v vl vu lo hi sl Q I rx hs pl pu h
 obtain ⟨a,xs,rfl,hx,hw,q⟩:=h
 cases rx
 obtain ⟨its,r,ht,hz⟩:=I.tuple hx
 have hlen:its.toArray.size=xs.length:=by rw [List.size_toArray];exact r.length.symm
 refine ⟨"tuple", _,PyProof.Rows.slot_tuple_getitem.lookup,ht.typeIs,?_⟩
 refine HT.getItem_tuple_cut ht hs pl pu (by rw [hlen];exact hw) ?_ (by rw [hlen];exact hz)
 rw [hlen]
 refine ⟨.ref s.heap.objs.size,_,I.laid (t':=s.toks) (o:=.tup (G8 xs lo hi)) (fun b ob q=>Heap.get?_push_of_some _ q) (Nat.le_refl _) ?_,rfl,q _ (I.hok.fresh (Nat.le_refl _))⟩
 exact ⟨Nat.le_trans (yy xs lo hi) hz,_,(r.drop (HT.sIx xs.length 0 lo)).take (HT.sIx xs.length xs.length hi - HT.sIx xs.length 0 lo),IsTup.new _ _⟩
def Qhd (K:PySem.W.Frag):R2:=fun x y H Q=>∃ a b xs ys,x=.ref a/\y=.ref b/\SqT K H a xs/\SqT K H b ys/\xs≠[]/\xs.length+ys.length<=sizeLine /\
 (ys=[]->Q (.ref a) H)/\(ys≠[]->∀ p,H p=none->Q (.ref p) (upd H p (.tup (xs++ys))))
theorem Vals.nil_iff {xs:List V} {us:List Value} (r:Vals xs us):us=[]↔xs=[]:=by
 cases r with
 | nil=>simp
 | cons _ _=>simp
theorem Qd7:OpR X (binaryOp .Add) (Qhd X.K):=by
 intro pins s σ H x y v u Q I rx ry h
 obtain ⟨a,b,xs,ys,rfl,rfl,ha,hb,hx,hz,q1,q2⟩:=h
 cases rx
 cases ry
 obtain ⟨its,r1,p1,_⟩:=I.tuple ha
 obtain ⟨its2,r2,p2,_⟩:=I.tuple hb
 refine HT.cat_tup p1 p2 (fun z=>hx (r1.nil_iff.mp z)) (fun z=>⟨.ref a,H,I,rfl,q1 (r2.nil_iff.mp z)⟩) (fun z=>?_) (by rw [<- r1.length,<- r2.length];exact hz)
 refine ⟨.ref s.heap.objs.size,_,I.laid (t':=s.toks) (o:=.tup (xs++ys)) (fun b ob q=>Heap.get?_push_of_some _ q) (Nat.le_refl _) ?_,rfl,q2 (fun w=>z (r2.nil_iff.mpr w)) _ (I.hok.fresh (Nat.le_refl _))⟩
 exact ⟨by rw [List.length_append];exact hz,_,r1.append r2,IsTup.new _ _⟩
end
end L2
namespace L2
open PySem PySem.Spec PyProof.Rows
def ixN (n:Nat) (i:Int):Option Nat:=if 0<=i then (if i < n then some i.toNat else none) else if -(n:Int)<=i then some (i+n).toNat else none
def atI {α:Type} (xs:List α) (i:Int):Option α:=(ixN xs.length i).bind fun j=>xs[j]?
theorem kP {n:Nat} {i:Int} {j:Nat} (h:ixN n i=some j):seqIndex? i n=some j/\j < n /\ -(n:Int)<=i/\i < n:=by
 unfold ixN at h
 by_cases h0:0<=i
 ·rw [if_pos h0] at h
  by_cases h1:i < n
  ·rw [if_pos h1] at h
   have e:i.toNat=j:=Option.some.inj h
   exact ⟨by rw [seqIndex_of h0 h1,e],by omega,by omega,h1⟩
  ·rw [if_neg h1] at h;cases h
 ·rw [if_neg h0] at h
  by_cases h1:-(n:Int)<=i
  ·rw [if_pos h1] at h
   have e:(i+n).toNat=j:=Option.some.inj h
   exact ⟨by rw [seqIndex_neg (by omega) h1,e],by omega,h1,by omega⟩
  ·rw [if_neg h1] at h;cases h
theorem kc {α:Type} {xs:List α} {i:Int} {v:α} (h:atI xs i=some v):∃ j,seqIndex? i xs.length=some j/\xs[j]?=some v/\j < xs.length /\ -(xs.length:Int)<=i/\i < xs.length:=by
  unfold atI at h
  cases e:ixN xs.length i with
  | none=>rw [e] at h;cases h
  | some j =>
    rw [e] at h
    obtain ⟨h1,h2,h3,h4⟩:=kP e
    exact ⟨j,h1,h,h2,h3,h4⟩
theorem zP {α:Type} {xs:List α} {j:Nat} {v:α} (h:xs[j]?=some v):atI xs (j:Int)=some v:=by
 have hj:j < xs.length:=(List.getElem?_eq_some_iff.mp h).1
 have e:ixN xs.length (j:Int)=some j:=by
  unfold ixN
  rw [if_pos (by omega),if_pos (by omega)];simp
 unfold atI;rw [e];exact h
def KN (b:Expr):Prop:=∀ o i,subscripted b false o i=operate [o,i] (getItem o i)
def IxR (X:Cx) (r:R2):Prop :=
  ∀ (value slice : Expr) (pins : List (Addr × Obj)) (s : Shared) (σ : St) (H : Hp) (x y : V) (v u : Value) (Q : VK), Inv X pins σ H s -> RelV x v -> RelV y u -> r x y H Q ->
    subscripted slice false v u=operate [v,u] (getItem v u)->wpAny (model X.prog X.w) X.A (subscriptTail value slice v u) (EP X pins σ Q) X.xe s
def MtR (X:Cx) (id:String) (r:V->List V->Hp->VK->Prop):Prop :=
  ∀ (pins : List (Addr × Obj)) (s : Shared) (σ : St) (H : Hp) (x : V) (xs : List V) (v : Value) (us : List Value) (Q : VK), Inv X pins σ H s -> RelV x v -> Vals xs us -> r x xs H Q ->
    wpAny (model X.prog X.w) X.A (call (.builtin id) (v::us)) (EP X pins σ Q) X.xe s
section
variable {X:Cx} {a b:Expr} {ta tb:TE} {pos:Pos}
theorem Qe8 {r:R2} (hr:IxR X r) (ha:PE X a ta) (hb:PE X b tb) (hs:KN b):PE X (.Subscript a b pos) (tOp r ta tb):=by
 intro pins s σ H Q I h
 exact Subscript_ (Qfk ha hb I h fun v u s2 x y H2 I2 rx ry q=>hr a b pins s2 σ H2 x y v u Q I2 rx ry q (hs _ _))
def QhO (K:PySem.W.Frag):R2:=fun x y H Q=>∃ p xs i v,x=.ref p/\y=.int i/\SqL K H p xs/\atI xs i=some v/\Q v H
def QhP (K:PySem.W.Frag):R2:=fun x y H Q=>∃ p xs i v,x=.ref p/\y=.int i/\SqT K H p xs/\atI xs i=some v/\Q v H
theorem kQ:IxR X (QhO X.K):=by
 intro value slice pins s σ H x y v u Q I rx ry h hs
 obtain ⟨p,xs,i,z,rfl,rfl,hq,he,q⟩:=h
 cases rx
 obtain ⟨t,rfl⟩:=ry
 obtain ⟨its,r,pl,hz⟩:=I.list hq
 obtain ⟨j,h1,h2,h3,h4,h5⟩:=kc he
 obtain ⟨w,ew,rw'⟩:=r.get h2
 have hl:=r.length
 have hn:=Gp
 have fin:EP X pins σ Q w s:=⟨z,H,I,rw',q⟩
 by_cases h0:0<=i
 ·have hj:i.toNat=j:=by
   rw [seqIndex_of h0 h5] at h1
   exact Option.some.inj h1
  exact item_listR pl.isList h0 (by omega) (by rw [hj];simpa using ew) fin hs
 ·have hj:(i+(its.toArray.size:Int)).toNat=j:=by
   rw [seqIndex_neg (by omega) h4] at h1
   rw [List.size_toArray,<- hl]
   exact Option.some.inj h1
  exact subscriptTail_builtinR (x:=w) pl.isList.typeIs slot_list_getitem.lookup
   (wpAny_getItem_list_neg (Q:=fun r s'=>r=w/\EP X pins σ Q r s') pl.isList (by omega) (by rw [List.size_toArray]<;>omega) (by omega) (by rw [hj];simpa using ew) ⟨rfl,fin⟩) hs
theorem Qfy:IxR X (QhP X.K):=by
 intro value slice pins s σ H x y v u Q I rx ry h hs
 obtain ⟨p,xs,i,z,rfl,rfl,hq,he,q⟩:=h
 cases rx
 obtain ⟨t,rfl⟩:=ry
 obtain ⟨its,r,pl,hz⟩:=I.tuple hq
 obtain ⟨j,h1,h2,h3,h4,h5⟩:=kc he
 obtain ⟨w,ew,rw'⟩:=r.get h2
 have hl:=r.length
 have hn:=Gp
 have fin:EP X pins σ Q w s:=⟨z,H,I,rw',q⟩
 exact subscriptTail_builtinR (x:=w) pl.typeIs slot_tuple_getitem.lookup
  (getItem_tuple (j:=j) (Q:=fun r s'=>r=w/\EP X pins σ Q r s') pl (by omega) (by omega) (by rw [List.size_toArray,<- hl];exact h1) (by simpa using ew) ⟨rfl,fin⟩) hs
theorem gg (its:List Value) (n j:Nat) (u:Value):Obj.mapSeq (·.setIfInBounds j u) { cls:=.type "list", data:=.seq its.toArray n }={ cls:=.type "list", data:=.seq (its.set j u).toArray n }:=by
 simp [Obj.mapSeq]
theorem Inv.lst {pins:List (Addr×Obj)} {σ:St} {H:Hp} {s:Shared} {p:Addr} {xs:List V} (I:Inv X pins σ H s) (h:H p=some (.lst xs)) :
  ∃ (its:List Value) (n:Nat),Vals xs its/\s.heap.get? p=some { cls:=.type "list", data:=.seq its.toArray n }/\xs.length<=sizeLine:=by
 obtain ⟨z,its,n,r,e⟩:=I.hok p _ h
 exact ⟨its,n,r,e,z⟩
theorem Inv.lstUpd {pins:List (Addr×Obj)} {σ:St} {H:Hp} {s:Shared} {p:Addr} {xs ys:List V} {its its':List Value} {n n':Nat} {f:Obj->Obj} (I:Inv X pins σ H s) (h:H p=some (.lst xs))
  (ho:s.heap.get? p=some { cls:=.type "list", data:=.seq its.toArray n }) (hf:f { cls:=.type "list", data:=.seq its.toArray n }={ cls:=.type "list", data:=.seq its'.toArray n' }) (r:Vals ys its') (hz:ys.length<=sizeLine) (t:Nat) :
  Inv X pins σ (upd H p (.lst ys)) { s with heap:=s.heap.update p f,toks:=t }:=by
 have e:(s.heap.update p f).get? p=some { cls:=.type "list", data:=.seq its'.toArray n' }:=by
  rw [Heap.get?_update_self f ho (by rw [hf]<;>rfl),hf]
 refine I.write (x:=p) (e:=p) (by rw [h];trivial) (.inl rfl) (fun b u hb q=>(Heap.get?_update_other _ _ (Ne.symm hb)).trans q) ⟨_,e⟩ ?_
 exact ⟨hz,its',n',r,e⟩
def Qhg:V->V->V->Hp->(Hp->Prop)->Prop:=fun o i v H Q=>∃ p xs k j,o=.ref p/\i=.int k/\H p=some (.lst xs)/\ixN xs.length k=some j/\Q (upd H p (.lst (xs.set j v)))
theorem Qc8:QdD X Qhg:=by
 intro pins s σ H o i v ov iv u Q I ro ri rv h
 obtain ⟨p,xs,k,j,rfl,rfl,hp,hj,q⟩:=h
 cases ro
 obtain ⟨t,rfl⟩:=ri
 obtain ⟨its,n,r,ho,hz⟩:=I.lst hp
 obtain ⟨h1,h2,h3,h4⟩:=kP hj
 have hl:=r.length
 have hn:=Gp
 have I':Inv X pins σ (upd H p (.lst (xs.set j v))) { s with heap:=s.heap.update p (Obj.mapSeq (·.setIfInBounds j u)) } :=
  I.lstUpd hp ho (gg its n j u) (r.set rv j) (by rw [List.length_set];exact hz) s.toks
 by_cases h0:0<=k
 ·have hk:k.toNat=j:=by
   rw [seqIndex_of h0 h4] at h1
   exact Option.some.inj h1
  exact PySem.W.ki_setAt ho h0 (by omega) (by rw [List.size_toArray,<- hl];exact h4) (by rw [hk];exact ⟨_,I',q⟩)
 ·have hk:(k+(its.toArray.size:Int)).toNat=j:=by
   rw [seqIndex_neg (by omega) h3] at h1
   rw [List.size_toArray,<- hl]
   exact Option.some.inj h1
  exact PySem.W.ki_setBack ho (by omega) (by rw [List.size_toArray,<- hl];exact h3) (by omega) (by rw [hk];exact ⟨_,I',q⟩)
theorem GJ (lo hi:Option Int) (n:Nat):(sliceBounds lo hi none n).1=((HT.sIx n 0 lo:Nat):Int)/\(sliceBounds lo hi none n).2.1=((HT.sIx n n hi:Nat):Int)/\(sliceBounds lo hi none n).2.2=1:=by
  refine ⟨?_,?_,rfl⟩
  . cases lo with
    | none=>simp [sliceBounds,HT.sIx]
    | some i =>
      simp only [sliceBounds,HT.sIx,Option.getD_none,show (1:Int) > 0 by decide,if_true]
      by_cases h:i < 0
      . simp only [h,if_true]<;>omega
      . simp only [h,if_false]<;>omega
  . cases hi with
    | none=>simp [sliceBounds,HT.sIx]
    | some i =>
      simp only [sliceBounds,HT.sIx,Option.getD_none,show (1:Int) > 0 by decide,if_true]
      by_cases h:i < 0
      . simp only [h,if_true]<;>omega
      . simp only [h,if_false]<;>omega
theorem UY (its:List Value) (lo hi:Option Int):slicePick its.toArray lo hi none=((its.drop (HT.sIx its.length 0 lo)).take (HT.sIx its.length its.length hi - HT.sIx its.length 0 lo)).toArray:=by
 obtain ⟨h1,h2,h3⟩:=GJ lo hi its.toArray.size
 unfold slicePick
 rw [h1,h2,h3]
 simp only [sliceRange_one,pick_run,List.size_toArray]<;>rfl
def QhQ (K:PySem.W.Frag):V->Option Int->Option Int->Hp->VK->Prop:=fun x lo hi H Q=>∃ a xs,x=.ref a/\SqL K H a xs/\∀ p,H p=none->Q (.ref p) (upd H p (.lst (G8 xs lo hi)))
theorem QeL:SlR X (QhQ X.K):=by
 intro pins s σ H x v vl vu lo hi sl Q I rx hs pl pu h
 obtain ⟨a,xs,rfl,hx,q⟩:=h
 cases rx
 obtain ⟨its,r,ht,hz⟩:=I.list hx
 have hlen:=r.length
 refine ⟨"list", _,slot_list_getitem.lookup,ht.isList.typeIs,?_⟩
 refine wpAny_getItem_list_slice ht.isList hs pl pu .none (by simp) ?_ (by rw [List.size_toArray]<;>omega)
 rw [UY,<- hlen]
 refine ⟨.ref s.heap.objs.size,_,I.laid (t':=s.toks) (o:=.lst (G8 xs lo hi)) (fun b ob q=>Heap.get?_push_of_some _ q) (Nat.le_refl _) ?_,rfl,q _ (I.hok.fresh (Nat.le_refl _))⟩
 exact ⟨Nat.le_trans (yy xs lo hi) hz,_,0,(r.drop (HT.sIx xs.length 0 lo)).take (HT.sIx xs.length xs.length hi - HT.sIx xs.length 0 lo),Heap.get?_push_size _ rfl⟩
theorem qA:CallR X (.builtin "len") (fun xs H Q=>∃ p ys,xs=[.ref p]/\(SqL X.K H p ys∨SqT X.K H p ys)/\Q (.int ys.length) H):=by
 intro pins s σ H xs us Q I r h
 obtain ⟨p,ys,rfl,hq,q⟩:=h
 obtain ⟨u,rfl,rx⟩:=yQ r
 cases rx
 have hn:=Gp
 rcases hq with hq | hq
 ·obtain ⟨its,r',pl,hz⟩:=I.list hq
  have hlen:=r'.length
  exact Calls.call_len_list pl.isList (by simp only [List.size_toArray]<;>omega) ⟨.int ys.length,H,I.tok _,⟨s.toks+1,by rw [List.size_toArray,hlen]⟩,q⟩
 ·obtain ⟨its,r',pl,hz⟩:=I.tuple hq
  have hlen:=r'.length
  exact len_tuple pl (by simp only [List.size_toArray]<;>omega) ⟨.int ys.length,H,I.tok _,⟨s.toks+1,by rw [List.size_toArray,hlen]⟩,q⟩
theorem call_list_of:CallR X (.type "list") (fun xs H Q=>∃ p ys,xs=[.ref p]/\(SqL X.K H p ys∨SqT X.K H p ys)/\∀ l,H l=none->Q (.ref l) (upd H l (.lst ys))):=by
 intro pins s σ H xs us Q I r h
 obtain ⟨p,ys,rfl,hq,q⟩:=h
 obtain ⟨u,rfl,rx⟩:=yQ r
 cases rx
 have fin:∀ (its:List Value),Vals ys its->ys.length<=sizeLine->∀ (h':Heap) (c':Nat),(∀ b o',s.heap.get? b=some o'->h'.get? b=some o') ->
   h'.get? s.heap.objs.size=some { cls:=.type "list", dict:=none,data:=.seq its.toArray c',slots:=#[] }->EP X pins σ Q (.ref s.heap.objs.size) { s with heap:=h' }:=fun its r' hz h' c' kp e =>
  ⟨.ref s.heap.objs.size,_,I.laid (t':=s.toks) kp (Nat.le_refl _) (show ObjOk X.prog X.w _ h' _ (.lst ys) from ⟨hz,its,c',r',e⟩),rfl,q _ (I.hok.fresh (Nat.le_refl _))⟩
 rcases hq with hq | hq
 ·obtain ⟨its,r',pl,hz⟩:=I.list hq
  have hlen:=r'.length
  obtain ⟨o,ho,hc,n,hd⟩:=pl.isList
  exact call_list_seq p (.inl rfl) ho hc hd (fun h' c' kp e=>fin its r' hz h' c' kp e) (by simp only [List.size_toArray]<;>omega)
 ·obtain ⟨its,r',pl,hz⟩:=I.tuple hq
  have hlen:=r'.length
  obtain ⟨o,ho,hc,n,hd⟩:=pl
  exact call_list_seq p (.inr rfl) ho hc hd (fun h' c' kp e=>fin its r' hz h' c' kp e) (by simp only [List.size_toArray]<;>omega)
theorem YM:CallR X (.type "tuple") (fun xs H Q=>∃ p ys,xs=[.ref p]/\((SqL X.K H p ys/\∀ l,H l=none->Q (.ref l) (upd H l (.tup ys)))∨(SqT X.K H p ys/\Q (.ref p) H))):=by
 intro pins s σ H xs us Q I r h
 obtain ⟨p,ys,rfl,h⟩:=h
 obtain ⟨u,rfl,rx⟩:=yQ r
 cases rx
 rcases h with ⟨hq,q⟩ | ⟨hq,q⟩
 ·obtain ⟨its,r',pl,hz⟩:=I.list hq
  have hlen:=r'.length
  refine call_tuple_list pl.isList (fun h' kp=>?_) (by simp only [List.size_toArray]<;>omega)
  have I1:Inv X pins σ H { s with heap:=h' }:=I.kept (t':=s.toks) kp
  have I2:Inv X pins σ (upd H h'.objs.size (.tup ys)) { s with heap:=h'.push { cls:=.type "tuple", data:=.seq its.toArray } } :=
   I1.laid (t':=s.toks) (fun b o e=>Heap.get?_push_of_some _ e) (Nat.le_refl _) (show ObjOk X.prog X.w _ _ _ (.tup ys) from ⟨hz,its,r',IsTup.new _ _⟩)
  exact ⟨.ref h'.objs.size,_,I2,rfl,q _ (I1.hok.fresh (Nat.le_refl _))⟩
 ·obtain ⟨its,r',pl,hz⟩:=I.tuple hq
  exact call_tuple_same pl ⟨.ref p,H,I,rfl,q⟩
def tyV (K:PySem.W.Frag) (T:String) (x:V) (H:Hp):Prop:=match x with
 | .str _=>T = "str"
 | .int _=>T = "int"
 | .ref p=>(T = "list" /\ ∃ xs,SqL K H p xs)∨(T = "tuple" /\ ∃ o,K.lookup p=some o/\o.cls=.type "tuple" /\ o.dict=none) ∨
   (T = "dict" /\ ((∃ kvs,H p=some (.dK kvs))∨∃ kvs,H p=some (.dT kvs)))∨(T = "set" /\ ∃ S n,H p=some (.set S n))
 | _=>False
theorem Qgr {pins:List (Addr×Obj)} {σ:St} {H:Hp} {s:Shared} {T:String} {x:V} {v:Value} (I:Inv X pins σ H s) (r:RelV x v) (ty:tyV X.K T x H) :
    s.TypeIs v T/\∀ a,v=.ref a->∃ ob,s.heap.get? a=some ob/\ob.dict=none:=by
  cases x with
  | str z =>
    obtain ⟨t,rfl⟩:=r
    cases (show T = "str" from ty)
    exact ⟨typeIs_str s z t,fun _ e=>nomatch e⟩
  | int i =>
    obtain ⟨t,rfl⟩:=r
    cases (show T = "int" from ty)
    exact ⟨typeIs_int s i t,fun _ e=>nomatch e⟩
  | ref p =>
    cases r
    rcases ty with ⟨rfl,xs,hq⟩ | ⟨rfl,o,hk,hc,hd⟩ | ⟨rfl,hk⟩ | ⟨rfl,S,n,hk⟩
    . obtain ⟨its,_,pl,_⟩:=I.list hq
      refine ⟨pl.isList.typeIs,fun a e=>?_⟩
      cases e
      obtain ⟨o,n,e,c,hd,_⟩:=pl
      exact ⟨o,e,hd⟩
    . refine ⟨⟨o,I.kIn p o hk,hc⟩,fun a e=>?_⟩
      cases e
      exact ⟨o,I.kIn _ o hk,hd⟩
    . have z:∃ o,s.heap.get? p=some o/\o.ExactDict:=by
        rcases hk with ⟨kvs,hk⟩ | ⟨kvs,hk⟩
        . obtain ⟨_,_,_,_,o,_,_,e,ex,_⟩:=I.hok p _ hk
          exact ⟨o,e,ex⟩
        . obtain ⟨_,_,_,_,o,_,_,e,ex,_⟩:=I.hok p _ hk
          exact ⟨o,e,ex⟩
      obtain ⟨o,e,ex⟩:=z
      refine ⟨⟨o,e,ex.1⟩,fun a e2=>?_⟩
      cases e2
      exact ⟨o,e,ex.2.1⟩
    . obtain ⟨o,_,_,_,e,ex,_⟩:=I.hok p _ hk
      refine ⟨⟨o,e,ex.1⟩,fun a e2=>?_⟩
      cases e2
      exact ⟨o,e,ex.2.1⟩
  | _=>exact False.elim ty
def tBM (K:PySem.W.Frag) (T:String) (r:V->List V->Hp->VK->Prop) (to:TE) (t:TA):TE:=fun σ H Q=>to σ H fun x H1=>tyV K T x H1/\t σ H1 fun xs H2=>r x xs H2 Q
variable {o e:Expr} {es:List Expr} {to:TE} {t:TA} {name:Str} {apos cpos:Pos} {T id:String} {r:V->List V->Hp->VK->Prop}
theorem Qg8 (pa:PlainAttrs T) (slot:Slot T name id) (hty:typeOf (.builtin id)=pure (.type "method_descriptor")) (hm:MtR X id r) (ho:PE X o to) (ha:PA X (e::es) t)
  (hbase:attributeBase o name X.env (eval o X.env)=eval o X.env:=by rfl)
  (hfew:((backTo cpos (starEach (e::es) X.env)).all (fun x=>!x.1)&&(backToKw cpos (keywordEach [] X.env)).all (fun x=>x.1.isSome)
   && decide ((e::es).length+([]:List Keyword).length+(if ([]:List Keyword).isEmpty then 0 else 1) < 30))=true:=by rfl)
  (hline:(apos.endLine==cpos.line)=true:=by rfl) (hs:starEach (e::es) X.env=(false,eval e X.env)::starEach es X.env:=by rfl) (hplain:(backTo cpos (starEach es X.env)).any (·.1)=false:=by rfl) :
  PE X (.Call (.Attribute o name apos) (e::es) [] cpos) (tBM X.K T r to t):=by
 intro pins s σ H Q I h
 refine wpAny_Call_method_late hbase hfew hline rfl (thn (ho pins s σ H _ I h) fun v s1 ⟨x,H1,I1,r1,ty,q1⟩=>?_)
 obtain ⟨h1,h2⟩:=Qgr I1 r1 ty
 refine ⟨T,id,pa,slot,hty,h1,h2,?_⟩
 have hA:=ha cpos pins s1 σ H1 _ I1 q1
 rw [hs] at hA ⊢
 refine Calls.callWith_builtin (by show (false||(backTo cpos (starEach es X.env)).any (·.1))=false;rw [hplain]<;>rfl) (Calls.evalArgs_plain ?_)
 exact thn hA fun us s2 ⟨vs,H2,I2,r2,q2⟩=>hm pins s2 σ H2 x vs v us Q I2 r1 r2 q2
/- xs.append(e),list.index on a module's tuple .. are MtR facts of 06m -/
end
end L2
namespace L2
open PySem PySem.Spec PyProof.Rows
def MtM (X:Cx) (id:String) (r:V->List V->Hp->VK->Prop):Prop :=
  ∀ (pins : List (Addr × Obj)) (s : Shared) (σ : St) (H : Hp) (x : V) (xs : List V) (v : Value) (us : List Value) (Q : VK), Inv X pins σ H s -> RelV x v -> Vals xs us -> r x xs H Q ->
    wpAny (model X.prog X.w) X.A (call (.builtin id) (v::us)) (EP X pins σ Q) X.xe s
theorem Vals.one:∀ {x:V} {us:List Value},Vals [x] us->∃ u,us=[u]/\RelV x u
 | _,_,.cons r .nil=>⟨_,rfl,r⟩
section
variable {X:Cx} {pins:List (Addr×Obj)} {σ:St} {H:Hp} {s:Shared} {l b:Addr} {xs ys zs:List V}
theorem Inv.lset {its its':List Value} {n:Nat} {f:Array Value->Array Value} {t':Nat} (I:Inv X pins σ H s) (hH:H l=some (.lst xs))
  (e:s.heap.get? l=some { cls:=.type "list", data:=.seq its.toArray n }) (hf:f its.toArray=its'.toArray) (hv:Vals ys its') (hz:ys.length<=sizeLine) :
  Inv X pins σ (upd H l (.lst ys)) { s with heap:=s.heap.update l (Obj.mapSeq f),toks:=t' }:=by
 have q:=PySem.IsL.update e f
 rw [hf] at q
 refine I.write (x:=l) (e:=l) (by rw [hH];exact trivial) (.inl rfl) (fun b' u hb hu=>(Heap.get?_update_other s.heap (Obj.mapSeq f) (Ne.symm hb)).trans hu) ⟨_,q⟩ ?_
 exact ⟨hz,its',_,hv,q⟩
theorem Inv.lnew {its:List Value} {t':Nat} (I:Inv X pins σ H s) (hv:Vals ys its) (hz:ys.length<=sizeLine) :
  Inv X pins σ (upd H s.heap.objs.size (.lst ys)) { s with heap:=s.heap.push { cls:=.type "list", data:=.seq its.toArray },toks:=t' } :=
 I.laid (fun _ _ q=>Heap.get?_push_of_some _ q) (Nat.le_refl _) ⟨hz,its,0,hv,Heap.get?_push_size _ rfl⟩
theorem Inv.fresh (I:Inv X pins σ H s):H s.heap.objs.size=none:=I.hok.fresh (Nat.le_refl _)
theorem Inv.lstM (I:Inv X pins σ H s) (hH:H l=some (.lst xs)):xs.length<=sizeLine/\∃ (its:List Value) (n:Nat),Vals xs its/\xs.length=its.length/\s.heap.get? l=some { cls:=.type "list", data:=.seq its.toArray n }:=by
 obtain ⟨z,its,n,r,e⟩:=I.hok l _ hH
 exact ⟨z,its,n,r,r.length,e⟩
theorem Qcs {n:Nat} (h:n<=sizeLine):Builtin.List.listTooLong n=false:=by
 unfold Builtin.List.listTooLong
 exact decide_eq_false (by omega)
end
section
variable {X:Cx}
def QeC:V->List V->Hp->VK->Prop:=fun x vs H Q=>∃ l xs y,x=.ref l/\vs=[y]/\H l=some (.lst xs)/\xs.length < sizeLine/\Q .non (upd H l (.lst (xs++[y])))
theorem Km:MtM X "list.append" QeC:=by
 intro pins s σ H x vs v us Q I rx rv h
 obtain ⟨l,xs,y,rfl,rfl,hH,hz,q⟩:=h
 cases rx
 obtain ⟨u,rfl,ru⟩:=rv.one
 obtain ⟨z,its,n,r,hl,e⟩:=I.lstM hH
 refine call_meets F.slot_list_append ⟨_,e,rfl⟩ F.entry_list_append (F.args_list_append_2 _ _) (PySem.list_append l its.toArray n u (by rw [List.size_toArray];omega)) ⟨e,?_⟩
 refine ⟨.non,_,I.lset (its':=its++[u]) hH e (by simp) (r.append (.cons ru .nil)) ?_,rfl,q⟩
 rw [List.length_append,List.length_singleton]
 omega
def QeD:V->List V->Hp->VK->Prop:=fun x vs H Q=>∃ l b xs zs,x=.ref l/\vs=[.ref b]/\H l=some (.lst xs)/\H b=some (.lst zs)/\xs.length+zs.length<=sizeLine/\Q .non (upd H l (.lst (xs++zs)))
theorem Qa5:MtM X "list.extend" QeD:=by
 intro pins s σ H x vs v us Q I rx rv h
 obtain ⟨l,b,xs,zs,rfl,rfl,hH,hB,hz,q⟩:=h
 cases rx
 obtain ⟨u,rfl,ru⟩:=rv.one
 cases ru
 obtain ⟨z,its,n,r,hl,e⟩:=I.lstM hH
 obtain ⟨z2,its2,n2,r2,hl2,e2⟩:=I.lstM hB
 have hsz:its.toArray.size+its2.toArray.size<=sizeLine:=by rw [List.size_toArray,List.size_toArray];omega
 have hlong:¬ (!its.toArray.isEmpty&&Builtin.List.listTooLong (its.toArray.size+its2.toArray.size))=true:=by
  rw [Qcs hsz,Bool.and_false]
  exact Bool.false_ne_true
 refine call_meets F.slot_list_extend ⟨_,e,rfl⟩ F.entry_list_extend (F.args_list_extend_2 _ _)
  (AutoSeq1.list_extend_list_list_0 l its.toArray n b its2.toArray n2 hlong (by rw [List.size_toArray];omega) (by omega)) ⟨e,e2,?_⟩
 refine ⟨.non,_,I.lset (its':=its++its2) hH e (by simp) (r.append r2) ?_,rfl,q⟩
 rw [List.length_append]
 omega
end
section
variable {prog:Program} {w:World} {A:Around} {E:Value->Shared->Prop} {s:Shared}
end
section
variable {X:Cx}
end
end L2
namespace Att
open PySem PySem.W PySem.Calls PyProof.Rows
theorem Vd {P:Params} {h:Heap}:∀ (ns:List Int) (vs:List Value),WellAll P h vs (ns.map WData.int)->IntsAre vs ns:=by
  intro ns
  induction ns with
  | nil =>
    intro vs w
    rw [List.map_nil] at w
    cases w
    exact .nil
  | cons n ns ih =>
    intro vs w
    rw [List.map_cons] at w
    cases w with
    | cons a b =>
      cases a
      exact .cons _ _ (ih _ b)
theorem Qbm {l:OpenLaw} {n:Nat} (hn:l.most=some n) {P:Params} {h:Heap} {args:List WData} {vals:List Value}
    (hpre:l.row.toRowW.claim.pre args=true) (hwl:WellAll P h vals args) :
    ∃ a vs ns,vals=[Value.ref a]/\args=[WData.list (ns.map WData.int)]/\h.get? a=some { cls:=.type "list", data:=.seq vs.toArray }/\IntsAre vs ns/\ns.length<=n:=by
  have hsh:WShape.hasAll [] args [.list .int]=true:=(pre_splitW hpre).1
  have hc:l.pre.holds [] { args:=args }=true:=(pre_splitW hpre).2
  obtain ⟨d,r,rfl,h1,h2⟩:=hasAllW_cons hsh
  obtain rfl:=hasAllW_nil h2
  obtain ⟨xs,rfl,h3⟩:=hasW_list h1
  obtain ⟨ns,rfl⟩:=items_int h3
  have hlen:ns.length<=n:=by
    unfold OpenLaw.pre at hc
    have h4:(WTm.not (.lt (.lit (.int (n:Int))) (.len (.arg 0)))).holds [] { args:=[.list (ns.map .int)] }=true:=by
      have h4:=(holds_andW hc).1
      rw [hn] at h4
      exact h4
    have h5:=condW_of h4 (w_not (w_lt w_lit (w_len_list (w_arg rfl))))
    rw [List.length_map] at h5
    refine Nat.le_of_not_lt fun q=>?_
    have q':(n:Int) < ((ns.length:Nat):Int):=by omega
    first
      | (rw [decide_eq_true q'] at h5;exact absurd h5 (by decide))
      | (simp at h5;omega)
  cases hwl with
  | cons w1 w2 =>
    cases w2
    cases w1 with
    | list ho hall=>exact ⟨_,_,ns,rfl,rfl,ho,Vd ns _ hall,hlen⟩
theorem Qbe (l:OpenLaw) (args:List WData):l.row.toRowW.claim.post args (.bool true) args=true :=
 postW_of (r:=l.row.toRowW) (X:=(true==true))
  (show WShape.has [] (.bool true) .bool=true by first | rfl | decide | simp [WShape.has,WShape.arms,WShape.armsAll])
  (show (WTm.eq .res (.lit (.bool true))).value [] { args:=args,res:=some (.bool true),after:=args }=some (.bool (true==true)) from w_eq_bool (w_res rfl) w_lit) rfl
theorem attach_call {l:OpenLaw} {n:Nat} {q:Program} {loose:List Str} {XP:(Str->Option Value)->Heap->Prop} {YP:World->Heap->Prop} {d:DefRec}
  (hn:l.most=some n) (hdf:d.params.defaults=[])
  (call:∀ (w:World) (s₀ s₁:Shared) (mg mb:Str->Option Value) (fa:Addr) (o:Obj) (pm cd doc:Value) (a:Addr) (vs:List Value) (ns:List Int),
   Ground q loose [] XP w s₀ mg mb s₁.heap->YP w s₁.heap ->
   s₁.heap.get? fa=some o->o.data=.func (docDef d.name d.params d.body d.scope pm cd doc)->s₁.heap.CodeRec cd d.name->mg d.name=some (.ref fa) ->
   s₁.heap.get? a=some { cls:=.type "list", data:=.seq vs.toArray }->IntsAre vs ns->ns.length<=n->s₁.gens = #[] ->
   codeAny (model l.prog w) callerA (.call (.ref fa) ⟨[.ref a],[]⟩) (fun r s'=>r=.ok (.ret (.bool true))/\OldK s₁.heap s'.heap/\s'.os=s₁.os/\AllBare s'.gens) s₁) :
  WalkO q loose XP YP l.row.toRowW d [] (fun f vs=>PySem.call f vs):=by
 intro w s₀ s₁ mg mb G Y fa o pm cd doc dV kV ho hd hcd hD hmg hg args vals as hpre hlay hrd hwl hlo
 obtain rfl:dV=.none:=Dflts.none hD hdf
 obtain rfl:kV=.none:=Dflts.noKw hD
 obtain ⟨a,vs,ns,rfl,rfl,hobj,hints,hlen⟩:=Qbm hn hpre hwl
 refine enter_call (codeAny_mono (call w s₀ s₁ mg mb fa o pm cd doc a vs ns G Y ho (fd_plain hd) hcd hmg hobj hints hlen hg) fun r s' hq=>?_)
 obtain ⟨rfl,h2,h3,h4⟩:=hq
 exact ⟨.inl ⟨.bool true,.bool true,[],rfl,fun _=>rfl,.bool true,Qbe l _,fun _=>⟨List.Pairwise.nil,fun _ hm=>(nomatch hm)⟩⟩,h2,h3,h4⟩
section
variable {prog:Program} {w:World} {A:Around} {E:Value->Shared->Prop} {s:Shared} {K:Frag}
def QhH (h:Heap) (L d:Addr):List (Addr×Obj):=(List.range h.objs.size).filterMap fun a=>if a=L∨a=d then none else (h.get? a).map fun o=>(a,o)
end
end Att
namespace L2
open PySem PySem.Spec PyProof.Rows
theorem qm:∀ {vs:List Value} {ns:List Int},IntsAre vs ns->Vals (ns.map V.int) vs
 | _,_,.nil=>.nil
 | _,_,.cons n t h=>.cons ⟨t,rfl⟩ (qm h)
def Qfi (H:Hp):Prop:=∀ b,H b=none∨∃ o xs,H b=some (.frz o (.lst xs))
theorem Qcd {P:Program} {w:World} {K:PySem.W.Frag} {mg mb:Str->Option Value} {CX:CXT} {k:Nat} {fa a:Addr} {fd:FuncData} {x:Str} {sp:Sp} {s₁:Shared} {vs:List Value} {ns:List Int}
    (KX:K.In s₁.heap) (hns:s₁.heap.Ns mainGlobals mg) (hb:s₁.heap.Ns builtinsNs mb) (hbb:∀ x:Str,x ≠ "__name__" -> mb x=bootBuiltins x) (hlim:s₁.heap.NoLimit) (hg:s₁.gens = #[])
    (ha:s₁.heap.get? a=some { cls:=.type "list", data:=.seq vs.toArray }) (hi:IntsAre vs ns) (hl:ns.length<=sizeLine) (hr:Room k callerA)
    (F:∀ base:Heap,K.In base->base.Ns mainGlobals mg->zh P w K mg base CX k fa fd [x] sp) (hbind:∀ (s:Shared) (u:Value),BindsTo s fd ⟨[u],[]⟩ [(x,u)])
    (hsp:∀ H:Hp,Qfi H->SqL K H a (ns.map V.int)->sp [.ref a] H (fun v _=>v=.bl true) fun _ _ _=>False)
    (hCX:∀ H e s',CX [] H s₁ (fun _ _ _=>False) e s'->False) :
    codeAny (model P w) callerA (.call (.ref fa) ⟨[.ref a],[]⟩) (fun r s'=>r=.ok (.ret (.bool true))/\OldK s₁.heap s'.heap/\s'.os=s₁.os/\AllBare s'.gens) s₁:=by
  have rv:=qm hi
  have lenV:=hi.length
  have core:∀ H:Hp,Qfi H->SqL K H a (ns.map V.int)->HOk P w H s₁.heap->(∀ b,H b≠none->b=a)->(H a≠none->K.lookup a=none) ->
      codeAny (model P w) callerA (.call (.ref fa) ⟨[.ref a],[]⟩) (fun r s'=>r=.ok (.ret (.bool true))/\OldK s₁.heap s'.heap/\s'.os=s₁.os/\AllBare s'.gens) s₁:=by
    intro H hO hS hok hA hK
    have base_of:∀ {b:Addr} {o:Obj},s₁.heap.get? b=some o->H b=none->(Gc s₁.heap H).get? b=some o:=fun e n=>Qb4 e n
    have noA:∀ {b:Addr} {o:Obj} {es:Array DictEntry} {ep:Nat},s₁.heap.get? b=some o->o.data=.dict es ep->H b=none:=fun {b o es ep} e d=>by
      cases q:H b with
      | none=>rfl
      | some u =>
        have e':b=a:=hA b (by rw [q];simp)
        subst e'
        rw [ha] at e;cases e
        have d':Data.seq vs.toArray _=Data.dict es ep:=d
        cases d'
    have nsK:∀ {b:Addr} {m:Str->Option Value},s₁.heap.Ns b m->(Gc s₁.heap H).Ns b m:=fun {b m} ⟨o,es,ep,e,d,r⟩=>⟨o,es,ep,base_of e (noA e d),d,r⟩
    have hKb:K.In (Gc s₁.heap H):=fun b o e=>base_of (KX b o e) (by
      cases q:H b with
      | none=>rfl
      | some u =>
        have e':b=a:=hA b (by rw [q];simp)
        subst e'
        rw [hK (by rw [q];simp)] at e;cases e)
    have hM:Mod K mg (Gc s₁.heap H):=⟨hKb,nsK hns,⟨mb,nsK hb,hbb⟩,let ⟨mc,h1,h2⟩:=hlim;⟨mc,nsK h1,h2⟩⟩
    have e0:Env0 P w K mg (Gc s₁.heap H) callerA [] s₁ H:=⟨rfl,hM,fun b o e=>Qd4 e,Nat.le_of_eq (QaX _ _),trivial,fun b hb=>absurd (show b∈([]:List Addr) from hb) (by simp),hok,.of_eq hg⟩
    refine codeAny_mono ((F _ hKb (nsK hns)).run callerA [] s₁ H ⟨[.ref a],[]⟩ [.ref a] [.ref a] _ _ hr e0 (hbind s₁ (.ref a)) (.cons rfl .nil) (hsp H hO hS)) fun r s' h=>?_
    cases r with
    | error e=>exact (hCX H e s' h).elim
    | ok fl =>
      cases fl with
      | next=>exact False.elim h
      | brk=>exact False.elim h
      | cont=>exact False.elim h
      | ret u =>
        obtain ⟨v,H',os,bare,un,hok',r',q⟩:=h
        have q':v=.bl true:=q
        subst q'
        obtain rfl:u=Value.bool true:=r'
        refine ⟨rfl,OldK.of_keep fun b o e=>?_,os,bare⟩
        cases q:H b with
        | none=>exact un.keep b o e q (by intro z;exact absurd (show b∈([]:List Addr) from z) (by simp)) (by simp)
        | some u =>
          rcases hO b with z | ⟨ob,xs,z⟩
          . rw [q] at z;cases z
          . have z2:=un.frzs b ob _ z
            obtain ⟨e1,_⟩:=hok b _ z
            obtain ⟨e2,_⟩:=hok' b _ z2
            rw [e] at e1;cases e1
            exact e2
  cases hk:K.lookup a with
  | some o =>
    have e:=KX a o hk
    rw [ha] at e
    cases e
    refine core (fun _=>none) (fun _=>.inl rfl) (.inr ⟨_,vs.toArray,_,hk,rfl,rfl,rfl,by rw [List.size_toArray,lenV];exact hl,by simpa using rv⟩) (fun b u z=>by have z':(none:Option HO)=some u:=z;cases z') (fun b z=>absurd rfl z) fun z=>absurd rfl z
  | none =>
    refine core (fun b=>if b=a then some (.frz { cls:=.type "list", data:=.seq vs.toArray } (.lst (ns.map V.int))) else none) (fun b=>?_) (.inl (.inr ⟨{ cls:=.type "list", data:=.seq vs.toArray },if_pos rfl⟩)) (fun b u z=>?_) (fun b z=>?_) fun _=>hk
    . by_cases hb:b=a
      . exact .inr ⟨_,_,if_pos hb⟩
      . exact .inl (if_neg hb)
    . by_cases hb:b=a
      . have z':=(if_pos hb).symm.trans z
        cases z'
        subst hb
        exact ⟨ha,by rw [List.length_map];exact hl,vs,_,rv,ha⟩
      . have z':=(if_neg hb).symm.trans z
        cases z'
    . by_cases hb:b=a
      . exact hb
      . exact absurd (if_neg hb) z
end L2
namespace L2
open PySem PySem.Spec PyProof.Rows
theorem Qav {l:PySem.W.OpenLaw} {n k:Nat} {q:Program} {loose:List Str} {XP:(Str->Option Value)->Heap->Prop} {YP:World->Heap->Prop} {d:DefRec} {K:Params->PySem.W.Frag} {CX:World->CXT} {sp:World->Sp} {x:Str}
    (hn:l.most=some n) (hn2:n<=sizeLine) (hdf:d.params.defaults=[]) (hr:Room k callerA)
    (hY:∀ (w:World) (h:Heap),YP w h->(K w.params).In h)
    (F:∀ (w:World) (mg:Str->Option Value) (fa:Addr) (h:Heap),(K w.params).In h->h.Ns mainGlobals mg->mg d.name=some (.ref fa) ->
      ∃ fd : FuncData, (∀ (s : Shared) (u : Value), BindsTo s fd ⟨[u], []⟩ [(x, u)]) /\
        ∀ base:Heap,(K w.params).In base->base.Ns mainGlobals mg->zh l.prog w (K w.params) mg base (CX w) k fa fd [x] (sp w))
    (hsp:∀ (w:World) (H:Hp) (a:Addr) (ns:List Int),ns.length<=n->Qfi H->SqL (K w.params) H a (ns.map V.int)->sp w [.ref a] H (fun v _=>v=.bl true) fun _ _ _=>False)
    (hCX:∀ (w:World) (H:Hp) (s:Shared) (e:Value) (s':Shared),CX w [] H s (fun _ _ _=>False) e s'->False) :
    PySem.W.WalkO q loose XP YP l.row.toRowW d [] (fun f vs=>PySem.call f vs):=by
  refine Att.attach_call hn hdf fun w s₀ s₁ mg mb fa o pm cd doc a vs ns G Y ho hd hcd hmg hobj hints hlen hg=>?_
  have KX:=hY w _ Y
  obtain ⟨fd,hb,hF⟩:=F w mg fa _ KX G.T.g hmg
  exact Qcd KX G.T.g G.T.b G.T.builtins G.T.nolimit hg hobj hints (Nat.le_trans hlen hn2) hr hF hb (fun H hO hS=>hsp w H a ns hlen hO hS) fun H e s'=>hCX w H s₁ e s'
end L2
/- THE LAST THEOREM (shape; LID, My.* are yours):
   My.Adr: a structure of the addresses that your layer names (classes,functions);My.Txt K t: a structure (Prop) of the equations over K;
   My.txt_mk:{K} {implicit addresses ..} (e1:nsIn K mainGlobals "law" = some (some (.ref f))) (e2:K.lookup f=some ⟨oc,od,.func (fnOf "law" "law" params body scope dV kV doc pm an cdv ct),sl⟩) (e3:codeIn K cdv "law" = true) ..:∃ t,My.Txt K t
set_option maxRecDepth 100000 in
set_option maxHeartbeats 0 in
theorem PySem.Challenge.cw_LID_holds : PySem.Challenge.rw_LID.Holds := by
 w_on;o_law;k_head;(case hw=>w_witness2)
 k_fill
 refine L2.Qav (l:=PySem.Challenge.rw_LID) (n:=63) (k:=40) (x := "script") (CX:=fun w=>..) (sp:=fun _=>My.sp_law) rfl (by decide) rfl ⟨rfl,by decide,by decide⟩ (fun w h Y=>PySem.W.kIn_of Y) ?F ?S ?C
 case F =>
  intro w mg fa h KX G hmg
  have T:∃ t,My.Txt (L2.KOf KX) t:=by
   dsimp only [L2.KOf]                          -- K must stand as «<heap const> w.params» for k_is
   refine' My.txt_mk ?e1 ?e2 ?e3 ..
   (case e1=>PySem.W.k_is)                    -- in the order: a name->its address->its object->its parts
   (case e2=>PySem.W.k_is)
   ..
  obtain ⟨t,T⟩:=T
  have e0:=hmg.symm.trans (PySem.W.mg_of KX G T.law)
  cases e0                                       -- fa is the law's own address
  exact ⟨_,fun s u=>.of_eq rfl,fun base kb nb=>My.law_fn T kb nb⟩     -- if «.of_eq rfl» comes too early: refine' ⟨_,?b,fun base kb nb=>My.law_fn T kb nb⟩;exact fun s u=>.of_eq rfl
 case S=>exact fun w H a ns hl hO hS=>..
 case C=>exact ..
(the tactic k_is has no namespace: write k_is) -/
namespace L2
open PySem PySem.Spec PyProof.Rows
def ZF (s:Stmt) (j:Nat):Stmt:=match s with
 | .ClassDef _ _ _ body _ _ _ _ _ _ _=>body.getD j (.Pass ⟨0,0,0,0⟩)
 | _=>.Pass ⟨0,0,0,0⟩
def JP (s:Stmt):Arguments:=match s with
 | .FunctionDef _ a _ _ _ _ _ _ _ _=>a
 | _=>{ posonlyargs:=[],args:=[],vararg:=none,kwonlyargs:=[],kw_defaults:=[],kwarg:=none,defaults:=[] }
def ZY (s:Stmt):List Stmt:=match s with
 | .FunctionDef _ _ b _ _ _ _ _ _ _=>b
 | _=>[]
def Qs (s:Stmt):Scope:=match s with
 | .FunctionDef _ _ _ _ _ _ sc _ _ _=>sc
 | _=>{ kind:=.function,names:=[],isGenerator:=false,isCoroutine:=false }
abbrev CX0:CXT:=fun _ _ _ _ _ _=>False
abbrev E0:XK:=fun _ _ _=>False
theorem QB {X:Cx}:YK CX0 X E0:=fun _ _ _ _ _ _ _ h=>h.elim
structure Fun (K:PySem.W.Frag) (x qual:Str) (st:Stmt) (f:Addr) (fd:FuncData):Prop where
 ex:∃ (oc:Value) (od:Option Addr) (kV doc pm:Value) (an:Option Addr) (cdv ct:Value) (osl:Array (Option Value)),
  fd=PySem.W.fnOf x qual (JP st) (ZY st) (Qs st) .none kV doc pm an cdv ct/\K.lookup f=some ⟨oc,od,.func fd,osl⟩/\PySem.W.codeIn K cdv qual=true
 kp:PySem.W.keepIn K (.ref f)=true
section
variable {P:Program} {w:World} {K:PySem.W.Frag} {mg:Str->Option Value} {base:Heap}
theorem Fun.ok {x qual:Str} {st:Stmt} {f:Addr} {fd:FuncData} {N ps:List Str} {k:Nat} {sp:Sp} (F:Fun K x qual st f fd) (S:Qy N ps (Qs st)) (len:∀ vs H Q E,sp vs H Q E->vs.length=ps.length)
  (hbody:∀ (cdv:Value) (A:Around) (outer:List Env) (s:Shared) (H:Hp) (vs:List V) (Q:VK) (E:XK),Room k (A.deeper (envOfC qual (Qs st) s.heap.objs.size f cdv))->sp vs H Q E ->
   ∃ t,PSs (y0 CX0 P w K mg base N qual (Qs st) f cdv A outer s H E).nox (ZY st) t/\t { nx:=fun _ H'=>Q .non H',rt:=Q } (start N vs) H):zh P w K mg base CX0 (k+1) f fd ps sp:=by
 obtain ⟨oc,od,kV,doc,pm,an,cdv,ct,osl,rfl,lk,hcd⟩:=F.ex
 refine QgP lk hcd S len fun A outer s H vs Q E hr hsp=>?_
 obtain ⟨t,h,q⟩:=hbody cdv A outer s H vs Q E hr hsp
 exact ⟨t,h.nox,q⟩
theorem Fun.binds {x qual:Str} {st:Stmt} {f:Addr} {fd:FuncData} {ps:List Str} (F:Fun K x qual st f fd)
  (h:∀ (kV doc pm:Value) (an:Option Addr) (cdv ct:Value) (us:List Value),us.length=ps.length->bindArgs (PySem.W.fnOf x qual (JP st) (ZY st) (Qs st) .none kV doc pm an cdv ct) ⟨us,[]⟩=pure (ps.zip us)):Binds K fd ps []:=by
 obtain ⟨oc,od,kV,doc,pm,an,cdv,ct,osl,rfl,lk,hcd⟩:=F.ex
 exact .all (h kV doc pm an cdv ct)
theorem K7 {x qual:Str} {st:Stmt} {f:Addr} {oc:Value} {od an:Option Addr} {osl:Array (Option Value)} {kV doc pm cdv ct:Value} (l:K.lookup f=some ⟨oc,od,.func (PySem.W.fnOf x qual (JP st) (ZY st) (Qs st) .none kV doc pm an cdv ct),osl⟩)
  (c:PySem.W.codeIn K cdv qual=true) (k:PySem.W.keepIn K (.ref f)=true):Fun K x qual st f (PySem.W.fnOf x qual (JP st) (ZY st) (Qs st) .none kV doc pm an cdv ct):=⟨⟨oc,od,kV,doc,pm,an,cdv,ct,osl,rfl,l,c⟩,k⟩
end
theorem Qt {A:Around} {k:Nat} (hr:Room k A):A.units+1 < cLine:=Nat.lt_of_le_of_lt (Nat.add_le_add_left (by decide:1<=64) _) hr.units
section
variable {X:Cx}
end
theorem uV {A B:Prop} (h:B):if false=true then A else B:=by
 rw [if_neg Bool.false_ne_true]
 exact h
theorem uW {A B:Prop} (h:A):if true=true then A else B:=by
 rw [if_pos rfl]
 exact h
end L2
set_option maxHeartbeats 4000000
namespace L2
open PySem PySem.Spec PyProof.Rows
section
variable {κ:Type} [DecidableEq κ]
def ze (kvs:List (κ×V)) (k:κ):Option V:=(kvs.find? fun kv=>decide (kv.1=k)).map (·.2)
def zc (kvs:List (κ×V)) (k:κ) (v:V):List (κ×V) :=
 if (kvs.any fun kv=>decide (kv.1=k))=true then kvs.map (fun kv=>if kv.1=k then (kv.1,v) else kv) else kvs++[(k,v)]
theorem Ux {p:κ×V} {r:List (κ×V)} {k:κ} (e:p.1=k):ze (p::r) k=some p.2:=by simp [ze,List.find?_cons,e]
theorem Uw {p:κ×V} {r:List (κ×V)} {k:κ} (e:¬ p.1=k):ze (p::r) k=ze r k:=by simp [ze,List.find?_cons,e]
theorem ua (k:κ):∀ kvs:List (κ×V),(kvs.any fun kv=>decide (kv.1=k))=(ze kvs k).isSome
  | []=>rfl
  | p::r=>by
    rw [List.any_cons]
    by_cases e:p.1=k
    . simp only [Ux e,decide_eq_true e,Bool.true_or,Option.isSome_some]
    . rw [Uw e,decide_eq_false e,Bool.false_or];exact ua k r
theorem zy (kvs:List (κ×V)) (k:κ) (v:V):(zc kvs k v).length<=kvs.length+1:=by
 unfold zc
 split
 ·rw [List.length_map];omega
 ·rw [List.length_append,List.length_cons,List.length_nil];omega
theorem RelO.isSome_eq {o:Option V} {u:Option Value} (r:RelO o u):o.isSome=u.isSome:=by
  cases o with
  | none=>cases u with
    | none=>rfl
    | some _=>exact (show False from r).elim
  | some _=>cases u with
    | none=>exact (show False from r).elim
    | some _=>rfl
theorem RelO.getD {o:Option V} {u:Option Value} {d:V} {d':Value} (r:RelO o u) (rd:RelV d d'):RelV (o.getD d) (u.getD d'):=by
  cases o with
  | none=>cases u with
    | none=>exact rd
    | some _=>exact (show False from r).elim
  | some _=>cases u with
    | none=>exact (show False from r).elim
    | some _=>exact r
theorem KV.val {kvs:List (κ×V)} {vs:List (κ×Value)} (r:KV kvs vs) (k:κ):RelO (ze kvs k) (valueAt vs k):=by
  unfold KV at r
  induction r with
  | nil=>exact True.intro
  | @cons p q ps qs h t ih =>
    obtain ⟨h1,h2⟩:=h
    by_cases e:p.1=k
    . have e':q.1=k:=h1.symm.trans e
      have b:valueAt (q::qs) k=some q.2:=by simp [valueAt,List.find?_cons,e']
      rw [Ux e,b];exact h2
    . have e':¬ q.1=k:=fun z=>e (h1.trans z)
      have b:valueAt (q::qs) k=valueAt qs k:=by simp [valueAt,List.find?_cons,e']
      rw [Uw e,b];exact ih
theorem KV.any {kvs:List (κ×V)} {vs:List (κ×Value)} (r:KV kvs vs) (k:κ):(kvs.any fun kv=>decide (kv.1=k))=vs.any fun kv=>decide (kv.1=k):=by
 unfold KV at r
 induction r with
 | nil=>rfl
 | cons h t ih=>rw [List.any_cons,List.any_cons,ih,h.1]
theorem KV.repl {kvs:List (κ×V)} {vs:List (κ×Value)} (r:KV kvs vs) (k:κ) {y:V} {u:Value} (ry:RelV y u) :
    KV (kvs.map fun kv=>if kv.1=k then (kv.1,y) else kv) (vs.map fun kv=>if kv.1=k then (kv.1,u) else kv):=by
  unfold KV at r ⊢
  induction r with
  | nil=>exact .nil
  | @cons p q ps qs h t ih =>
    rw [List.map_cons,List.map_cons]
    refine .cons ?_ ih
    obtain ⟨h1,h2⟩:=h
    by_cases e:p.1=k
    . rw [if_pos e,if_pos (h1.symm.trans e)];exact ⟨h1,ry⟩
    . rw [if_neg e,if_neg (fun z=>e (h1.trans z))];exact ⟨h1,h2⟩
theorem KV.put {kvs:List (κ×V)} {vs:List (κ×Value)} (r:KV kvs vs) (k:κ) {y:V} {u:Value} (ry:RelV y u):KV (zc kvs k y) (stored vs k u):=by
 unfold zc stored
 rw [r.any k]
 by_cases e:(vs.any fun kv=>decide (kv.1=k))=true
 ·rw [if_pos e,if_pos e];exact r.repl k ry
 ·rw [if_neg e,if_neg e];exact Paired.snoc r ⟨rfl,ry⟩
theorem KV.length {kvs:List (κ×V)} {vs:List (κ×Value)} (r:KV kvs vs):kvs.length=vs.length:=Paired.length r
end
theorem VQ {P:Program} {w:World} {k:Key} {u:Value} (r:RelV (kV k) u):(ZO P w).is k u=true:=by
 cases k with
 | inl i=>obtain ⟨t,e⟩:=(show ∃ t,u=Value.int i t from r);subst e;exact vC P w i t
 | inr x=>obtain ⟨t,e⟩:=(show ∃ t,u=Value.str x t from r);subst e;exact vD P w x t
theorem Ki {P:Program} {w:World}:∀ {ks:List Key} {us:List Value},Vals (ks.map kV) us->ItemsAre (ZO P w) ks us
  | [],_,r=>by rw [List.map_nil] at r;cases r;exact .nil
  | k::ks,_,r=>by
    rw [List.map_cons] at r
    cases r with
    | cons h t=>exact .cons (VQ h) (Ki t)
abbrev KT (H:Hp):List (List Key×V)->List (List Key×Addr×Value)->Prop:=Paired fun p q=>p.1=q.1/\H q.2.1=some (.tup (p.1.map kV))/\RelV p.2 q.2.2
theorem KT.val {H:Hp} {kvs:List (List Key×V)} {xs:List (List Key×Addr×Value)} (r:KT H kvs xs) (k:List Key):RelO (ze kvs k) ((atKey xs k).map (·.2)):=by
  induction r with
  | nil=>exact True.intro
  | @cons p q ps qs h t ih =>
    obtain ⟨h1,_,h2⟩:=h
    by_cases e:p.1=k
    . have e':q.1=k:=h1.symm.trans e
      have b:atKey (q::qs) k=some q.2:=by simp [atKey,List.find?_cons,e']
      rw [Ux e,b];exact h2
    . have e':¬ q.1=k:=fun z=>e (h1.trans z)
      have b:atKey (q::qs) k=atKey qs k:=by simp [atKey,List.find?_cons,e']
      rw [Uw e,b];exact ih
theorem KT.repl {H:Hp} {kvs:List (List Key×V)} {xs:List (List Key×Addr×Value)} (r:KT H kvs xs) (k:List Key) {y:V} {u:Value} (ry:RelV y u) :
    KT H (kvs.map fun kv=>if kv.1=k then (kv.1,y) else kv) (xs.map (putAt k u)):=by
  induction r with
  | nil=>exact .nil
  | @cons p q ps qs h t ih =>
    rw [List.map_cons,List.map_cons]
    refine .cons ?_ ih
    obtain ⟨h1,h2,h3⟩:=h
    unfold putAt
    by_cases e:p.1=k
    . rw [if_pos e,if_pos (h1.symm.trans e)];exact ⟨h1,h2,ry⟩
    . rw [if_neg e,if_neg (fun z=>e (h1.trans z))];exact ⟨h1,h2,h3⟩
theorem KT.put {H:Hp} {kvs:List (List Key×V)} {xs:List (List Key×Addr×Value)} (r:KT H kvs xs) (k:List Key) {b:Addr} {y:V} {u:Value} (hb:H b=some (.tup (k.map kV))) (ry:RelV y u) :
  KT H (zc kvs k y) (storedH xs k b u):=by
 have e:(kvs.any fun kv=>decide (kv.1=k))=(atKey xs k).isSome:=by
  rw [ua,(r.val k).isSome_eq,Option.isSome_map]
 unfold zc storedH
 rw [e]
 by_cases q:(atKey xs k).isSome=true
 ·rw [if_pos q,if_pos q];exact r.repl k ry
 ·rw [if_neg q,if_neg q];exact Paired.snoc r ⟨rfl,hb,ry⟩
theorem KT.keeps {H H':Hp} {kvs:List (List Key×V)} {xs:List (List Key×Addr×Value)} (r:KT H kvs xs) (ht:∀ b ys,H b=some (.tup ys)->H' b=some (.tup ys)):KT H' kvs xs :=
 Paired.mapP r fun _ _ z=>⟨z.1,ht _ _ z.2.1,z.2.2⟩
section
variable {P:Program} {w:World} {H:Hp} {h:Heap} {a:Addr}
theorem Qfb {u:HO} (ok:HOk P w H h) (e:Rd H a u):ObjOk P w H h a u:=e.ok ok
theorem Ka {kvs:List (Key×V)} (ok:HOk P w H h) (e:Rd H a (.dK kvs)):kvs.length<=sizeLine/\(a==sysModules)=false/\∃ vs,KV kvs vs/\h.DictOf (ZO P w) a vs :=
 show ObjOk P w H h a (.dK kvs) from Qfb ok e
theorem kz {kvs:List (Key×V)} (ok:HOk P w H h) (e:H a=some (.dK kvs)):kvs.length<=sizeLine/\(a==sysModules)=false/\∃ vs,KV kvs vs/\h.DictOf (ZO P w) a vs:=Ka ok (.inl e)
theorem VS {ks:List Key} (ok:HOk P w H h) (e:H a=some (.tup (ks.map kV))):(tupleKind (ZO P w)).is h ks a:=by
 obtain ⟨_,its,r,o,h1,h2,n,h3⟩:=(show ObjOk P w H h a (.tup (ks.map kV)) from ok a _ e)
 exact ⟨o,its.toArray,n,h1,h2,h3,by simpa using Ki r⟩
theorem vf {kvs:List (List Key×V)} (ok:HOk P w H h) (e:Rd H a (.dT kvs)):kvs.length<=sizeLine/\(a==sysModules)=false /\
    ∃ xs,KT H kvs xs/\h.DictOfH (tupleKind (ZO P w)) a xs:=by
  obtain ⟨z,y,xs,r,o,es,ep,h1,h2,h3,h4,h5⟩:=(show ObjOk P w H h a (.dT kvs) from Qfb ok e)
  refine ⟨z,y,xs,r,o,es,ep,h1,h2,h3,h4,fun x hx=>?_,h5⟩
  have all:∀ {l:List (List Key×V)} {m:List (List Key×Addr×Value)},KT H l m->∀ x∈m,(tupleKind (ZO P w)).is h x.1 x.2.1:=by
    intro l m q
    induction q with
    | nil=>intro x hx;exact nomatch hx
    | @cons p q ps qs hq t ih =>
      intro x hx
      rcases List.mem_cons.mp hx with e | hx
      . subst e
        exact VS ok (by rw [<- hq.1];exact hq.2.1)
      . exact ih x hx
  exact all r x hx
theorem Xj {kvs:List (List Key×V)} (ok:HOk P w H h) (e:H a=some (.dT kvs)):kvs.length<=sizeLine/\(a==sysModules)=false /\
  ∃ xs,KT H kvs xs/\h.DictOfH (tupleKind (ZO P w)) a xs:=vf ok (.inl e)
end
def DGet (H:Hp) (a:Addr) (y:V) (r:Option V):Prop :=
 (∃ kvs k,Rd H a (.dK kvs)/\y=kV k/\r=ze kvs k)∨∃ kvs k b,Rd H a (.dT kvs)/\y=.ref b/\H b=some (.tup (k.map kV))/\r=ze kvs k
def DPut (H:Hp) (a:Addr) (y v:V) (H':Hp):Prop :=
 (∃ kvs k,H a=some (.dK kvs)/\y=kV k/\kvs.length < sizeLine/\H'=upd H a (.dK (zc kvs k v))) ∨
 ∃ kvs k b,H a=some (.dT kvs)/\y=.ref b/\H b=some (.tup (k.map kV))/\kvs.length < sizeLine/\H'=upd H a (.dT (zc kvs k v))
theorem DGet.k {H:Hp} {a:Addr} {kvs:List (Key×V)} {k:Key} (e:H a=some (.dK kvs)):DGet H a (kV k) (ze kvs k):=.inl ⟨kvs,k,.inl e,rfl,rfl⟩
theorem DPut.k {H:Hp} {a:Addr} {kvs:List (Key×V)} {k:Key} {v:V} (e:H a=some (.dK kvs)) (hl:kvs.length < sizeLine):DPut H a (kV k) v (upd H a (.dK (zc kvs k v))):=.inl ⟨kvs,k,e,rfl,hl,rfl⟩
section
variable {X:Cx} {pins:List (Addr×Obj)} {σ:St} {H:Hp} {s:Shared} {a:Addr} {y v:V} {u r:Value} {o:Option V} {A:Around} {E:Value->Shared->Prop}
theorem Inv.big (I:Inv X pins σ H s):sysModules < s.heap.objs.size:=by
 have h:mainGlobals < s.heap.objs.size:=(I.mod.glob.keeps I.bk).lt
 exact Nat.lt_trans (by decide) h
theorem QaQ {Q:Value->Shared->Prop} (hu:A.units+1 < cLine) (I:Inv X pins σ H s) (g:DGet H a y (some v)) (ry:RelV y u) (h:∀ w' s',Inv X pins σ H s'->RelV v w'->Q w' s') :
  wpAny (model X.prog X.w) A (getItem (.ref a) u) Q E s:=by
 rcases g with ⟨kvs,k,e,ey,l⟩ | ⟨kvs,k,b,e,ey,eb,l⟩
 ·subst ey
  obtain ⟨z,hd,vs,rel,dd⟩:=Ka I.hok e
  obtain ⟨w',hw,rw'⟩:=RelO.some_of (v:=v) (o:=valueAt vs k) (by rw [l];exact rel.val k)
  exact wpAny_getItem_of (VQ ry) dd.mapOf hw (h w' _ (I.tok _) rw')
 ·subst ey
  cases (show u=Value.ref b from ry)
  obtain ⟨z,hd,xs,rel,dd⟩:=vf I.hok e
  obtain ⟨w',hw,rw'⟩:=RelO.some_of (v:=v) (o:=(atKey xs k).map (·.2)) (by rw [l];exact rel.val k)
  obtain ⟨p,hp,hp2⟩:=Option.map_eq_some_iff.mp hw
  refine wpAny_getItem_heap (tupleKind_room_in1 hu) (VS I.hok eb) dd hp ?_
  rw [hp2]
  exact h w' _ (I.tok _) rw'
theorem KY {h':Heap} {t':Nat} {ob:HO} (I:Inv X pins σ H s) (mu:Mut (H a)) (hs:Heap.SameBut a s.heap h') (he:∃ q,h'.get? a=some q) (new:ObjOk X.prog X.w (upd H a ob) h' a ob) :
  Inv X pins σ (upd H a ob) { s with heap:=h',toks:=t' } :=
 I.write (x:=a) (e:=a) mu (.inl rfl) (fun b q hb z=>(hs.2 b hb).trans z) he new
theorem uP {P:Program} {w:World} {H':Hp} {h':Heap} {kvs:List (Key×V)} {vs:List (Key×Value)} (z:kvs.length<=sizeLine) (hd:(a==sysModules)=false) (rel:KV kvs vs) (dd:h'.DictOf (ZO P w) a vs) :
  ObjOk P w H' h' a (.dK kvs):=⟨z,hd,vs,rel,dd⟩
theorem QaR {H':Hp} {Q:Unit->Shared->Prop} (hu:A.units+1 < cLine) (I:Inv X pins σ H s) (g:DPut H a y v H') (ry:RelV y u) (rv:RelV v r) (h:∀ s',Inv X pins σ H' s'->Q () s') :
  wpAny (model X.prog X.w) A (setItem (.ref a) u r) Q E s:=by
 rcases g with ⟨kvs,k,e,ey,l,eH⟩ | ⟨kvs,k,b,e,ey,eb,l,eH⟩
 ·subst ey eH
  obtain ⟨z,hd,vs,rel,dd⟩:=kz I.hok e
  have hz:vs.length<=sizeLine:=by rw [<- rel.length];exact z
  have hl:(zc kvs k v).length<=sizeLine:=by have:=zy kvs k v;omega
  refine wpAny_setItem_pairs (hsz:=hz) (VQ ry) dd fun h' dd' hs=>h _ ?_
  have he:∃ q,h'.get? a=some q:=let ⟨q,_,_,hq,_⟩:=dd';⟨q,hq⟩
  exact KY I (by rw [e];exact True.intro) hs he (uP hl hd (rel.put k rv) dd')
 ·subst ey eH
  cases (show u=Value.ref b from ry)
  obtain ⟨z,hd,xs,rel,dd⟩:=Xj I.hok e
  have hz:xs.length<=sizeLine:=by rw [<- Paired.length rel];exact z
  have hl:(zc kvs k v).length<=sizeLine:=by have:=zy kvs k v;omega
  refine wpAny_setItem_heap (hsz:=hz) (tupleKind_room_in1 hu) (VS I.hok eb) dd fun h' dd' hs=>h _ ?_
  obtain ⟨q,es,ep,hq,h2,h3,h4,_,h5⟩:=dd'
  refine KY I (by rw [e];exact True.intro) hs ⟨q,hq⟩ ⟨hl,hd,_,(rel.put k eb rv).keeps fun c ys ec=>?_,q,es,ep,hq,h2,h3,h4,h5⟩
  rw [QX (QgX ec e (fun z=>nomatch z))]
  exact ec
end
section
variable {X:Cx} {pins:List (Addr×Obj)} {σ:St} {H:Hp} {s:Shared} {a:Addr} {kvs:List (Key×V)} {k:Key} {u:Value} {A:Around} {E:Value->Shared->Prop}
theorem QgK {Q:Value->Shared->Prop} (I:Inv X pins σ H s) (e:Rd H a (.dK kvs)) (h:∀ t s',Inv X pins σ H s'->Q (.int kvs.length t) s'):wpAny (model X.prog X.w) A (call (.builtin "len") [.ref a]) Q E s:=by
 obtain ⟨z,hd,vs,rel,dd⟩:=Ka I.hok e
 refine call_len_dict hd dd (by rw [<- rel.length];rw [sizeLine_eq] at z;omega) ?_
 rw [<- rel.length]
 exact h _ _ (I.tok _)
end
theorem vb {X:Cx} {pins:List (Addr×Obj)} {σ:St} {H:Hp} {s:Shared} {a:Addr} {y:V} {o:Option V} (I:Inv X pins σ H s) (g:DGet H a y o):s.TypeIs (.ref a) "dict" := by
 rcases g with ⟨kvs,k,e,_,_⟩ | ⟨kvs,k,b,e,_,_,_⟩
 ·obtain ⟨_,_,vs,_,dd⟩:=Ka I.hok e
  exact dd.typeIs
 ·obtain ⟨_,_,xs,_,dd⟩:=vf I.hok e
  exact dd.typeIs
section
variable {X:Cx} {o i e value:Expr} {pos pos' tpos:Pos} {td ty tv:TE}
end
theorem vc {P:Program} {w:World} {H:Hp} (h:Heap) (hb:sysModules < h.objs.size):ObjOk P w H (h.push { cls:=.type "dict", data:=.dict #[] }) h.objs.size (.dK []) :=
 ⟨Nat.zero_le _,beq_eq_false_iff_ne.mpr (Ne.symm (Nat.ne_of_lt hb)),[],.nil,Heap.DictOf.new h⟩
section
variable {X:Cx} {pos:Pos}
end
def GM:List (TE×TE)->St->Hp->(List (V×V)->Hp->Prop)->Prop
 | [],_,H,Q=>Q [] H
 | (tk,tv)::r,σ,H,Q=>tk σ H fun x H1=>tv σ H1 fun y H2=>GM r σ H2 fun ps H3=>Q ((x,y)::ps) H3
abbrev VV:List (V×V)->List (Value×Value)->Prop:=Paired fun p q=>RelV p.1 q.1/\RelV p.2 q.2
def PPs (X:Cx) (pos:Pos) (keys:List (Option Expr)) (values:List Expr) (trs:List (TE×TE)):Prop :=
  ∀ (pins : List (Addr × Obj)) (s : Shared) (σ : St) (H : Hp) (Q : List (V × V) -> Hp -> Prop), Inv X pins σ H s -> GM trs σ H Q ->
    wpAny (model X.prog X.w) X.A (evalPairs (pairTrees keys values X.env pos)) (fun vs s'=>∃ ps H',Inv X pins σ H' s'/\VV ps vs/\Q ps H') X.xe s
theorem Qer {X:Cx} {pos:Pos}:PPs X pos [] [] []:=fun pins s σ H Q I h=>pairTrees_nil_walk ⟨[],H,I,.nil,h⟩
theorem QcM {X:Cx} {pos:Pos} {k v:Expr} {ks:List (Option Expr)} {vs:List Expr} {tk tv:TE} {trs:List (TE×TE)} (hk:PE X k tk) (hv:PE X v tv) (hr:PPs X pos ks vs trs) :
  PPs X pos (some k::ks) (v::vs) ((tk,tv)::trs):=fun pins s σ H Q I h =>
 pairTrees_cons_walk (thn (hk pins s σ H _ I h) fun u s1 ⟨x,H1,I1,rx,q1⟩=>thn (hv pins s1 σ H1 _ I1 q1) fun w2 s2 ⟨y,H2,I2,ry,q2⟩ =>
  thn (hr pins s2 σ H2 _ I2 q2) fun ws s3 ⟨ps,H3,I3,rel,q3⟩=>⟨(x,y)::ps,H3,I3,.cons ⟨rx,ry⟩ rel,q3⟩)
def J1 (kvs more:List (Key×V)):List (Key×V):=more.foldl (fun acc kv=>zc acc kv.1 kv.2) kvs
theorem KV.merge:∀ {more:List (Key×V)} {rs:List (Key×Value)} {kvs:List (Key×V)} {vs:List (Key×Value)},KV more rs->KV kvs vs->KV (J1 kvs more) (merged vs rs):=by
  intro more rs kvs vs r
  unfold KV at r
  induction r generalizing kvs vs with
  | nil=>intro q;exact q
  | @cons p q ps qs h t ih =>
    intro r0
    have e:KV (zc kvs p.1 p.2) (stored vs q.1 q.2):=by
      have:=r0.put p.1 h.2
      rw [<- h.1];exact this
    exact ih e
theorem YR:∀ (more kvs:List (Key×V)),(J1 kvs more).length<=kvs.length+more.length
  | [],kvs=>by show kvs.length<=kvs.length+0;omega
  | p::r,kvs=>by
    have h1:=YR r (zc kvs p.1 p.2)
    have h2:=zy kvs p.1 p.2
    show (J1 (zc kvs p.1 p.2) r).length<=_
    rw [List.length_cons];omega
theorem Vz {P:Program} {w:World}:∀ {kvs:List (Key×V)} {ws:List (Value×Value)},VV (kvs.map fun kv=>(kV kv.1,kv.2)) ws->∃ rs,Carries (ZO P w) ws rs/\KV kvs rs
  | [],_,r=>by rw [List.map_nil] at r;cases r;exact ⟨[],True.intro,.nil⟩
  | p::kvs,_,r=>by
    rw [List.map_cons] at r
    cases r with
    | @cons a b as bs h t =>
      obtain ⟨rs,c,q⟩:=Vz (P:=P) (w:=w) t
      obtain ⟨b1,b2⟩:=b
      exact ⟨(p.1,b2)::rs,⟨VQ h.1,rfl,c⟩,.cons ⟨rfl,h.2⟩ q⟩
section
variable {X:Cx} {pins:List (Addr×Obj)} {σ:St} {H:Hp} {s:Shared} {a:Addr} {y d:V} {u r:Value} {o:Option V} {A:Around} {E:Value->Shared->Prop}
theorem Qfn {Q:Value->Shared->Prop} (hu:A.units+1 < cLine) (I:Inv X pins σ H s) (g:DGet H a y o) (ry:RelV y u) (h:∀ w' s',Inv X pins σ H s'->RelV (o.getD .non) w'->Q w' s') :
  wpAny (model X.prog X.w) A (call (.builtin "dict.get") [.ref a,u]) Q E s:=by
 rcases g with ⟨kvs,k,e,ey,l⟩ | ⟨kvs,k,b,e,ey,eb,l⟩
 ·subst ey
  obtain ⟨z,hd,vs,rel,dd⟩:=Ka I.hok e
  refine call_meetsIn PySem.F.slot_dict_get dd.typeIs PySem.F.entry_dict_get (PySem.F.args_dict_get_2 _ _) (meets_dict_get (ZO X.prog X.w) a (VQ ry) hd) ⟨_,dd.mapOf,h _ _ (I.tok _) ?_⟩
  rw [l]
  exact (rel.val k).getD rfl
 ·subst ey
  cases (show u=Value.ref b from ry)
  obtain ⟨z,hd,xs,rel,dd⟩:=vf I.hok e
  refine call_meetsIn PySem.F.slot_dict_get dd.typeIs PySem.F.entry_dict_get (PySem.F.args_dict_get_2 _ _) (meetsH_dict_get (tupleKind (ZO X.prog X.w)) a b hd) ⟨tupleKind_room_in1 hu,k,xs,VS I.hok eb,dd,h _ _ (I.tok _) ?_⟩
  rw [l]
  exact (rel.val k).getD rfl
theorem Qfo {Q:Value->Shared->Prop} (hu:A.units+1 < cLine) (I:Inv X pins σ H s) (g:DGet H a y o) (ry:RelV y u) (rd:RelV d r) (h:∀ w' s',Inv X pins σ H s'->RelV (o.getD d) w'->Q w' s') :
  wpAny (model X.prog X.w) A (call (.builtin "dict.get") [.ref a,u,r]) Q E s:=by
 rcases g with ⟨kvs,k,e,ey,l⟩ | ⟨kvs,k,b,e,ey,eb,l⟩
 ·subst ey
  obtain ⟨z,hd,vs,rel,dd⟩:=Ka I.hok e
  refine call_meetsIn PySem.F.slot_dict_get dd.typeIs PySem.F.entry_dict_get (PySem.F.args_dict_get_3 _ _ _) (meets_dict_get_default (ZO X.prog X.w) a (VQ ry) hd r) ⟨_,dd.mapOf,h _ _ (I.tok _) ?_⟩
  rw [l]
  exact (rel.val k).getD rd
 ·subst ey
  cases (show u=Value.ref b from ry)
  obtain ⟨z,hd,xs,rel,dd⟩:=vf I.hok e
  refine call_meetsIn PySem.F.slot_dict_get dd.typeIs PySem.F.entry_dict_get (PySem.F.args_dict_get_3 _ _ _) (meetsH_dict_get_default (tupleKind (ZO X.prog X.w)) a b hd r) ⟨tupleKind_room_in1 hu,k,xs,VS I.hok eb,dd,h _ _ (I.tok _) ?_⟩
  rw [l]
  exact (rel.val k).getD rd
end
section
variable {X:Cx} {o e f:Expr} {apos cpos:Pos} {td ty tx:TE}
end
section
variable {X:Cx} {pins:List (Addr×Obj)} {σ:St} {H:Hp} {s:Shared} {a:Addr} {kvs:List (Key×V)} {A:Around} {E:Value->Shared->Prop}
end
section
variable {X:Cx} {pins:List (Addr×Obj)} {σ:St} {H:Hp} {s:Shared} {a:Addr} {y:V} {u:Value} {A:Around} {E:Value->Shared->Prop}
end
section
variable {X:Cx}
theorem QaM:CallR X (.builtin "len") (fun xs H Q=>∃ a kvs,xs=[V.ref a]/\H a=some (.dK kvs)/\Q (.int kvs.length) H):=by
 intro pins s σ H xs us Q I r h
 obtain ⟨a,kvs,rfl,ha,q⟩:=h
 obtain ⟨u,rfl,ru⟩:=yQ r
 cases ru
 exact QgK I (.inl ha) fun t s' I'=>⟨.int kvs.length,H,I',⟨t,rfl⟩,q⟩
end
section
variable {κ:Type} [DecidableEq κ]
end
end L2
namespace D
open PySem PySem.Spec PyProof.Rows L2
abbrev St:=L2.St
inductive DV where
 | non | bl (b:Bool) | int (i:Int) | str (x:Str) | tup (xs:List DV) | lst (xs:List DV) | ref (i:Nat)
inductive OV where
 | lst (xs:List DV)
 | dic (kvs:List (Key×DV))
 | ins (c:Str) (fs:List (Str×DV))
abbrev Hs:=List OV
abbrev M:=StateT Hs Option
mutual
def RepV (K:PySem.W.Frag) (ρ:List Addr) (B:Addr->Prop) (H:Hp):DV->V->Prop
 | .non,v=>v=.non
 | .bl b,v=>v=.bl b
 | .int i,v=>v=.int i
 | .str x,v=>v=.str x
 | .tup ds,v=>∃ a xs,v=.ref a/\¬ B a/\SqT K H a xs/\RepL K ρ B H ds xs
 | .lst ds,v=>∃ a xs,v=.ref a/\¬ B a/\SqL K H a xs/\RepL K ρ B H ds xs
 | .ref i,v=>∃ a,v=.ref a/\ρ[i]?=some a
def RepL (K:PySem.W.Frag) (ρ:List Addr) (B:Addr->Prop) (H:Hp):List DV->List V->Prop
 | [],xs=>xs=[]
 | d::ds,xs=>∃ x r,xs=x::r/\RepV K ρ B H d x/\RepL K ρ B H ds r
end
def ORep (K:PySem.W.Frag) (ρ:List Addr) (B:Addr->Prop) (H:Hp) (a:Addr):OV->Prop
 | .lst ds=>∃ xs,H a=some (.lst xs)/\RepL K ρ B H ds xs
 | .dic kvs=>∃ xs:List (Key×V),H a=some (.dK xs)/\xs.map (·.1)=kvs.map (·.1)/\RepL K ρ B H (kvs.map (·.2)) (xs.map (·.2))
 | .ins c fs=>∃ (C dx:Addr) (xs:List (Str×V)),PySem.W.nsIn K mainGlobals c=some (some (.ref C))/\H a=some (.ins C dx xs)/\xs.map (·.1)=fs.map (·.1)/\RepL K ρ B H (fs.map (·.2)) (xs.map (·.2))
structure Gr (K:PySem.W.Frag) (ρ:List Addr) (B:Addr->Prop) (H:Hp) (ρ':List Addr) (B':Addr->Prop) (H':Hp):Prop where
 pre:ρ <+: ρ'
 ban:∀ a,B a->B' a
 new:∀ a,B' a->B a∨(H a=none/\K.lookup a=none)
 rnew:∀ a∈ρ',a∈ρ∨H a=none
 keep:∀ a o,a∉ρ->H a=some o->H' a=some o
 trk:∀ a,H' a=none->H a=none
structure WOk (K:PySem.W.Frag) (ρ:List Addr) (B:Addr->Prop) (hp:Hs) (H:Hp):Prop where
 len:ρ.length=hp.length
 nd:ρ.Nodup
 obj:∀ (i:Nat) (a:Addr) (o:OV),ρ[i]?=some a->hp[i]?=some o->ORep K ρ B H a o
 rb:∀ a∈ρ,B a
 bt:∀ a,B a->H a≠none
 bk:∀ a,B a->K.lookup a=none
section
variable {K:PySem.W.Frag} {ρ ρ' ρ'':List Addr} {B B' B'':Addr->Prop} {H H' H'':Hp}
theorem Gr.refl:Gr K ρ B H ρ B H:=⟨List.prefix_rfl,fun _ h=>h,fun _ h=>.inl h,fun _ h=>.inl h,fun _ _ _ h=>h,fun _ h=>h⟩
theorem Gr.trans (a:Gr K ρ B H ρ' B' H') (b:Gr K ρ' B' H' ρ'' B'' H''):Gr K ρ B H ρ'' B'' H'' where
 pre:=a.pre.trans b.pre
 ban:=fun x h=>b.ban x (a.ban x h)
 new:=fun x h=>(b.new x h).elim (a.new x) fun z=>.inr ⟨a.trk x z.1,z.2⟩
 rnew:=fun x h=>(b.rnew x h).elim (a.rnew x) fun z=>.inr (a.trk x z)
 keep:=fun x o hn h=>b.keep x o (fun z=>(a.rnew x z).elim hn (fun z=>by rw [h] at z;cases z)) (a.keep x o hn h)
 trk:=fun x h=>a.trk x (b.trk x h)
structure Gs (K:PySem.W.Frag) (ρ:List Addr) (B:Addr->Prop) (H:Hp) (ρ':List Addr) (B':Addr->Prop) (H':Hp):Prop where
 pre:ρ <+: ρ'
 new:∀ a,B' a->B a∨(H a=none/\K.lookup a=none)
 keep:∀ a o,¬ B a->H a=some o->H' a=some o
 trk:∀ a,H' a=none->H a=none
theorem Gr.gs (rb:∀ a∈ρ,B a) (g:Gr K ρ B H ρ' B' H'):Gs K ρ B H ρ' B' H':=⟨g.pre,g.new,fun a o nb h=>g.keep a o (fun z=>nb (rb a z)) h,g.trk⟩
theorem Gs.refl:Gs K ρ B H ρ B H:=⟨List.prefix_rfl,fun _ h=>.inl h,fun _ _ _ h=>h,fun _ h=>h⟩
theorem Gs.trans (a:Gs K ρ B H ρ' B' H') (b:Gs K ρ' B' H' ρ'' B'' H''):Gs K ρ B H ρ'' B'' H'' where
 pre:=a.pre.trans b.pre
 new:=fun x h=>(b.new x h).elim (a.new x) fun z=>.inr ⟨a.trk x z.1,z.2⟩
 keep:=fun x o nb h=>b.keep x o (fun z=>(a.new x z).elim nb fun q=>by rw [h] at q;cases q.1) (a.keep x o nb h)
 trk:=fun x h=>a.trk x (b.trk x h)
theorem SqT.trk {a:Addr} {xs:List V} (h:SqT K H a xs):H a≠none∨∃ o,K.lookup a=some o:=by
 rcases h with (h | ⟨o,h⟩) | ⟨o,_,_,h,_⟩
 ·exact .inl (by rw [h];simp)
 ·exact .inl (by rw [h];simp)
 ·exact .inr ⟨o,h⟩
theorem SqL.trk {a:Addr} {xs:List V} (h:SqL K H a xs):H a≠none∨∃ o,K.lookup a=some o:=by
 rcases h with (h | ⟨o,h⟩) | ⟨o,_,_,h,_⟩
 ·exact .inl (by rw [h];simp)
 ·exact .inl (by rw [h];simp)
 ·exact .inr ⟨o,h⟩
theorem Gs.ok {a:Addr} (g:Gs K ρ B H ρ' B' H') (hb:¬ B a) (t:H a≠none∨∃ o,K.lookup a=some o):¬ B' a:=fun z =>
 (g.new a z).elim hb fun ⟨n,k⟩=>t.elim (fun q=>q n) fun ⟨o,q⟩=>by rw [k] at q;cases q
theorem Gs.sqT {a:Addr} {xs:List V} (g:Gs K ρ B H ρ' B' H') (hr:¬ B a) (h:SqT K H a xs):SqT K H' a xs:=by
 rcases h with (h | ⟨o,h⟩) | h
 ·exact .inl (.inl (g.keep _ _ hr h))
 ·exact .inl (.inr ⟨o,g.keep _ _ hr h⟩)
 ·exact .inr h
theorem Gs.sqL {a:Addr} {xs:List V} (g:Gs K ρ B H ρ' B' H') (hr:¬ B a) (h:SqL K H a xs):SqL K H' a xs:=by
 rcases h with (h | ⟨o,h⟩) | h
 ·exact .inl (.inl (g.keep _ _ hr h))
 ·exact .inl (.inr ⟨o,g.keep _ _ hr h⟩)
 ·exact .inr h
theorem Qac {i:Nat} {a:Addr} (p:ρ <+: ρ') (h:ρ[i]?=some a):ρ'[i]?=some a:=by
 obtain ⟨t,rfl⟩:=p
 rw [List.getElem?_append_left (List.getElem?_eq_some_iff.mp h).1];exact h
mutual
theorem RepV.gs (g:Gs K ρ B H ρ' B' H'):∀ (d:DV) (v:V),RepV K ρ B H d v->RepV K ρ' B' H' d v
  | .non,_,h=>by unfold RepV at h ⊢;exact h
  | .bl _,_,h=>by unfold RepV at h ⊢;exact h
  | .int _,_,h=>by unfold RepV at h ⊢;exact h
  | .str _,_,h=>by unfold RepV at h ⊢;exact h
  | .ref _,_,h=>by
    unfold RepV at h ⊢
    obtain ⟨a,e,h⟩:=h
    exact ⟨a,e,Qac g.pre h⟩
  | .tup ds,_,h=>by
    unfold RepV at h ⊢
    obtain ⟨a,xs,e,nb,sq,rl⟩:=h
    exact ⟨a,xs,e,g.ok nb (SqT.trk sq),g.sqT nb sq,RepL.gs g ds xs rl⟩
  | .lst ds,_,h=>by
    unfold RepV at h ⊢
    obtain ⟨a,xs,e,nb,sq,rl⟩:=h
    exact ⟨a,xs,e,g.ok nb (SqL.trk sq),g.sqL nb sq,RepL.gs g ds xs rl⟩
theorem RepL.gs (g:Gs K ρ B H ρ' B' H'):∀ (ds:List DV) (xs:List V),RepL K ρ B H ds xs->RepL K ρ' B' H' ds xs
  | [],_,h=>by unfold RepL at h ⊢;exact h
  | d::ds,_,h=>by
    unfold RepL at h ⊢
    obtain ⟨x,r,e,h1,h2⟩:=h
    exact ⟨x,r,e,RepV.gs g d x h1,RepL.gs g ds r h2⟩
end
theorem RepV.grow (rb:∀ a∈ρ,B a) (g:Gr K ρ B H ρ' B' H') (d:DV) (v:V) (h:RepV K ρ B H d v):RepV K ρ' B' H' d v:=RepV.gs (g.gs rb) d v h
theorem RepL.grow (rb:∀ a∈ρ,B a) (g:Gr K ρ B H ρ' B' H') (ds:List DV) (xs:List V) (h:RepL K ρ B H ds xs):RepL K ρ' B' H' ds xs:=RepL.gs (g.gs rb) ds xs h
theorem RepL.length:∀ {ds:List DV} {xs:List V},RepL K ρ B H ds xs->ds.length=xs.length
  | [],_,h=>by unfold RepL at h;subst h;rfl
  | d::ds,_,h=>by
    unfold RepL at h
    obtain ⟨x,r,rfl,_,h2⟩:=h
    simp [RepL.length h2]
theorem RepL.get:∀ {ds:List DV} {xs:List V} {i:Nat} {d:DV},RepL K ρ B H ds xs->ds[i]?=some d->∃ x,xs[i]?=some x/\RepV K ρ B H d x
  | [],_,_,_,_,e=>by simp at e
  | d::ds,_,0,_,h,e=>by
    unfold RepL at h
    obtain ⟨x,r,rfl,h1,_⟩:=h
    simp at e;subst e
    exact ⟨x,rfl,h1⟩
  | d::ds,_,i+1,_,h,e=>by
    unfold RepL at h
    obtain ⟨x,r,rfl,_,h2⟩:=h
    obtain ⟨y,h3,h4⟩:=RepL.get h2 (by simpa using e)
    exact ⟨y,by simpa using h3,h4⟩
theorem RepL.nil:RepL K ρ B H [] []:=by unfold RepL;rfl
theorem RepL.cons {d:DV} {x:V} {ds:List DV} {xs:List V} (h:RepV K ρ B H d x) (t:RepL K ρ B H ds xs):RepL K ρ B H (d::ds) (x::xs):=by
 unfold RepL;exact ⟨x,xs,rfl,h,t⟩
theorem RepL.append:∀ {ds es:List DV} {xs ys:List V},RepL K ρ B H ds xs->RepL K ρ B H es ys->RepL K ρ B H (ds++es) (xs++ys)
  | [],_,_,_,h,t=>by unfold RepL at h;subst h;exact t
  | d::ds,_,_,_,h,t=>by
    unfold RepL at h
    obtain ⟨x,r,rfl,h1,h2⟩:=h
    exact RepL.cons h1 (RepL.append h2 t)
theorem RepL.one {d:DV} {x:V} (h:RepV K ρ B H d x):RepL K ρ B H [d] [x]:=RepL.cons h RepL.nil
theorem RepL.take:∀ (n:Nat) {ds:List DV} {xs:List V},RepL K ρ B H ds xs->RepL K ρ B H (ds.take n) (xs.take n)
  | 0,_,_,_=>by simp;exact RepL.nil
  | _+1,[],_,h=>by unfold RepL at h;subst h;simp;exact RepL.nil
  | n+1,d::ds,_,h=>by
    unfold RepL at h
    obtain ⟨x,r,rfl,h1,h2⟩:=h
    exact RepL.cons h1 (RepL.take n h2)
theorem RepL.drop:∀ (n:Nat) {ds:List DV} {xs:List V},RepL K ρ B H ds xs->RepL K ρ B H (ds.drop n) (xs.drop n)
  | 0,_,_,h=>h
  | _+1,[],_,h=>by unfold RepL at h;subst h;simp;exact RepL.nil
  | n+1,d::ds,_,h=>by
    unfold RepL at h
    obtain ⟨x,r,rfl,h1,h2⟩:=h
    exact RepL.drop n h2
theorem Gr.laid {p:Addr} {o:HO} (h:H p=none):Gr K ρ B H ρ B (upd H p o) where
 pre:=List.prefix_rfl
 ban:=fun _ h=>h
 new:=fun _ h=>.inl h
 rnew:=fun _ h=>.inl h
 keep:=fun a u _ q=>by rw [QX (Zm q h)];exact q
 trk:=fun a q=>by
  by_cases e:a=p
  ·subst e;rw [Za] at q;cases q
  ·rw [QX e] at q;exact q
theorem ORep.gs {a:Addr} {o:OV} (g:Gs K ρ B H ρ' B' H') (hk:H' a=H a) (h:ORep K ρ B H a o):ORep K ρ' B' H' a o:=by
  cases o with
  | lst ds =>
    obtain ⟨xs,e,rl⟩:=h
    exact ⟨xs,hk.trans e,RepL.gs g _ _ rl⟩
  | dic kvs =>
    obtain ⟨xs,e,ek,rl⟩:=h
    exact ⟨xs,hk.trans e,ek,RepL.gs g _ _ rl⟩
  | ins c fs =>
    obtain ⟨C,dx,xs,nc,e,ek,rl⟩:=h
    exact ⟨C,dx,xs,nc,hk.trans e,ek,RepL.gs g _ _ rl⟩
theorem WOk.laid {hp:Hs} {p:Addr} {o:HO} (W:WOk K ρ B hp H) (h:H p=none):WOk K ρ B hp (upd H p o) where
 len:=W.len
 nd:=W.nd
 obj:=fun i a u e q=>ORep.gs ((Gr.laid h).gs W.rb) (by
  have hb:=W.bt a (W.rb a (List.mem_of_getElem? e))
  exact QX (fun z=>hb (z▸h))) (W.obj i a u e q)
 rb:=W.rb
 bt:=fun a z q=>W.bt a z ((Gr.laid (K:=K) (ρ:=ρ) (B:=B) h).trk a q)
 bk:=W.bk
end
inductive Sl where
 | un | val (d:DV) | acc (ds:List DV)
abbrev En:=List Sl
structure Ent where
 ρ:List Addr
 B:Addr->Prop
 H:Hp
structure SOk (K:PySem.W.Frag) (Z:Ent) (env:En) (σ:St) (ρ:List Addr) (B:Addr->Prop) (hp:Hs) (H:Hp):Prop where
 gr:Gr K Z.ρ Z.B Z.H ρ B H
 zb:∀ a,Z.B a->Z.H a≠none
 wo:WOk K ρ B hp H
 slot:∀ (i:Nat) (d:DV),env[i]?=some (.val d)->∃ v,σ[i]?=some (some v)/\RepV K ρ B H d v
 accs:∀ (i:Nat) (ds:List DV),env[i]?=some (.acc ds)->∃ a xs,σ[i]?=some (some (.ref a))/\H a=some (.lst xs)/\Z.H a=none/\B a/\a∉ρ/\RepL K ρ B H ds xs
 adis:∀ (i j:Nat) (ds es:List DV) (a:Addr),env[i]?=some (.acc ds)->env[j]?=some (.acc es)->σ[i]?=some (some (.ref a))->σ[j]?=some (some (.ref a))->i=j
 len:σ.length=env.length
theorem SOk.grow {K:PySem.W.Frag} {Z:Ent} {env:En} {σ:St} {ρ ρ':List Addr} {B B':Addr->Prop} {hp hp':Hs} {H H':Hp} (S:SOk K Z env σ ρ B hp H) (g:Gr K ρ B H ρ' B' H') (W:WOk K ρ' B' hp' H'):SOk K Z env σ ρ' B' hp' H' where
 gr:=S.gr.trans g
 zb:=S.zb
 wo:=W
 slot:=fun i d e=>let ⟨v,h1,h2⟩:=S.slot i d e;⟨v,h1,RepV.grow S.wo.rb g d v h2⟩
 accs:=fun i ds e=>by
  obtain ⟨a,xs,h1,h2,h3,h4,h5,h6⟩:=S.accs i ds e
  refine ⟨a,xs,h1,g.keep a _ h5 h2,h3,g.ban a h4,fun z=>?_,RepL.grow S.wo.rb g ds xs h6⟩
  rcases g.rnew a z with q | q
  ·exact h5 q
  ·rw [h2] at q;cases q
 adis:=S.adis
 len:=S.len
abbrev DEx:=En->M DV
abbrev DTx:=En->M Bool
abbrev DAx:=En->M (List DV)
inductive Fl where
 | nx | rt (d:DV) | bk | ct
abbrev DSx:=En->M (Fl×En)
def Fol (K:PySem.W.Frag) (ρ:List Addr) (B:Addr->Prop) (H:Hp) (d:DV) (hp':Hs) (Q:VK):Prop :=
 ∀ v ρ' B' H',Gr K ρ B H ρ' B' H'->WOk K ρ' B' hp' H'->RepV K ρ' B' H' d v->Q v H'
def QgA (K:PySem.W.Frag) (ρ:List Addr) (B:Addr->Prop) (H:Hp) (hp':Hs) (Q:Hp->Prop):Prop :=
 ∀ ρ' B' H',Gr K ρ B H ρ' B' H'->WOk K ρ' B' hp' H'->Q H'
def Qhy (K:PySem.W.Frag) (ρ:List Addr) (B:Addr->Prop) (H:Hp) (ds:List DV) (hp':Hs) (Q:List V->Hp->Prop):Prop :=
 ∀ vs ρ' B' H',Gr K ρ B H ρ' B' H'->WOk K ρ' B' hp' H'->RepL K ρ' B' H' ds vs->Q vs H'
def tD (K:PySem.W.Frag) (f:DEx):TE:=fun σ H Q=>∃ Z env ρ B hp d hp',SOk K Z env σ ρ B hp H/\f env hp=some (d,hp')/\Fol K ρ B H d hp' Q
def tDT (K:PySem.W.Frag) (f:DTx):TT:=fun σ H Q=>∃ Z env ρ B hp d hp',SOk K Z env σ ρ B hp H/\f env hp=some (d,hp')/\QgA K ρ B H hp' (Q d)
def tDA (K:PySem.W.Frag) (f:DAx):TA:=fun σ H Q=>∃ Z env ρ B hp ds hp',SOk K Z env σ ρ B hp H/\f env hp=some (ds,hp')/\Qhy K ρ B H ds hp' Q
def DE (X:Cx) (e:Expr) (f:DEx):Prop:=PE X e (tD X.K f)
def DT (X:Cx) (e:Expr) (f:DTx):Prop:=PT X e (tDT X.K f)
def DW (X:Cx) (e:Expr) (f:DTx):Prop:=PW X e (tDT X.K f)
def DA (X:Cx) (es:List Expr) (f:DAx):Prop:=PA X es (tDA X.K f)
def FolS (K:PySem.W.Frag) (Z:Ent) (ρ:List Addr) (B:Addr->Prop) (H:Hp) (fl:Fl) (env':En) (hp':Hs) (D:KK):Prop :=
  ∀ σ' ρ' B' H', Gs K ρ B H ρ' B' H' -> SOk K Z env' σ' ρ' B' hp' H' -> match fl with
    | .nx=>D.nx σ' H'
    | .bk=>D.bk σ' H'
    | .ct=>D.ct σ' H'
    | .rt d=>∀ v,RepV K ρ' B' H' d v->D.rt v H'
def tDS (K:PySem.W.Frag) (f:DSx):TS:=fun D σ H=>∃ Z env ρ B hp fl env' hp',SOk K Z env σ ρ B hp H/\f env hp=some ((fl,env'),hp')/\FolS K Z ρ B H fl env' hp' D
def DS (X:Cx) (st:Stmt) (f:DSx):Prop:=PS X st (tDS X.K f)
def DSs (X:Cx) (st:List Stmt) (f:DSx):Prop:=PSs X st (tDS X.K f)
section
variable {X:Cx}
theorem _root_.L2.PE.imp {e:Expr} {t t':TE} (h:PE X e t) (i:∀ σ H Q,t' σ H Q->t σ H Q):PE X e t':=fun pins s σ H Q I q=>h pins s σ H Q I (i σ H Q q)
theorem _root_.L2.PT.imp {e:Expr} {t t':TT} (h:PT X e t) (i:∀ σ H Q,t' σ H Q->t σ H Q):PT X e t':=fun pins s σ H Q I q=>h pins s σ H Q I (i σ H Q q)
theorem _root_.L2.PW.imp {e:Expr} {t t':TT} (h:PW X e t) (i:∀ σ H Q,t' σ H Q->t σ H Q):PW X e t':=fun wh pins s σ H Q I q=>h wh pins s σ H Q I (i σ H Q q)
theorem _root_.L2.PA.imp {es:List Expr} {t t':TA} (h:PA X es t) (i:∀ σ H Q,t' σ H Q->t σ H Q):PA X es t':=fun pos pins s σ H Q I q=>h pos pins s σ H Q I (i σ H Q q)
theorem _root_.L2.PS.imp {st:Stmt} {t t':TS} (h:PS X st t) (i:∀ Dn σ H,t' Dn σ H->t Dn σ H):PS X st t':=fun pins s σ H Dn I q=>h pins s σ H Dn I (i Dn σ H q)
theorem _root_.L2.PSs.imp {st:List Stmt} {t t':TS} (h:PSs X st t) (i:∀ Dn σ H,t' Dn σ H->t Dn σ H):PSs X st t':=fun pins s σ H Dn I q=>h pins s σ H Dn I (i Dn σ H q)
def gX (K:PySem.W.Frag) (H:Hp):Prop:=∀ a o,H a=some o->K.lookup a=none
theorem Inv.kfree {pins:List (Addr×Obj)} {σ:St} {H:Hp} {s:Shared} (I:Inv X pins σ H s):gX X.K H:=fun a o e=>by
  cases q:X.K.lookup a with
  | none=>rfl
  | some ob =>
    have:=(I.bs a ob (I.ok.mod.kin a ob q)).2
    rw [e] at this;cases this
theorem _root_.L2.PE.kf {e:Expr} {t:TE} (h:PE X e t):PE X e (fun σ H Q=>t σ H fun v H'=>gX X.K H'->Q v H'):=fun pins s σ H Q I q =>
 thn (h pins s σ H _ I q) fun u s' ⟨v,H',I',r,z⟩=>⟨v,H',I',r,z (Inv.kfree I')⟩
theorem Qj {α β:Type} {f:M α} {g:α->M β} {hp hp':Hs} {y:β} (h:(f >>= g) hp=some (y,hp')):∃ x hp1,f hp=some (x,hp1)/\g x hp1=some (y,hp'):=by
 change (f hp).bind (fun p=>g p.1 p.2)=some (y,hp') at h
 cases q:f hp with
 | none=>rw [q] at h;cases h
 | some p=>rw [q] at h;exact ⟨p.1,p.2,rfl,h⟩
theorem Qo {α:Type} {x y:α} {hp hp':Hs} (h:(pure x:M α) hp=some (y,hp')):x=y/\hp=hp':=by
 change some (x,hp)=some (y,hp') at h
 cases h;exact ⟨rfl,rfl⟩
theorem tD.run {K:PySem.W.Frag} {f:DEx} {Z:Ent} {env:En} {σ:St} {ρ:List Addr} {B:Addr->Prop} {hp hp1:Hs} {H:Hp} {d:DV} {Q:VK} (S:SOk K Z env σ ρ B hp H) (e:f env hp=some (d,hp1))
  (k:∀ v ρ' B' H',Gr K ρ B H ρ' B' H'->SOk K Z env σ ρ' B' hp1 H'->RepV K ρ' B' H' d v->Q v H'):tD K f σ H Q :=
 ⟨Z,env,ρ,B,hp,d,hp1,S,e,fun v ρ' B' H' g W r=>k v ρ' B' H' g (S.grow g W) r⟩
def Qb (i:Nat):DEx:=fun env=>match env[i]? with
 | some (.val d)=>pure d
 | _=>failure
def eC (d:DV):DEx:=fun _=>pure d
theorem QaT {i:Nat} {env:En} {hp hp':Hs} {d:DV} (h:Qb i env hp=some (d,hp')):env[i]?=some (.val d)/\hp=hp':=by
  unfold Qb at h
  cases q:env[i]? with
  | none=>rw [q] at h;cases h
  | some z =>
    rw [q] at h
    cases z with
    | val x=>obtain ⟨rfl,rfl⟩:=Qo h;exact ⟨rfl,rfl⟩
    | un=>cases h
    | acc _=>cases h
theorem Qa (i:Nat) {x:Str} {pos:Pos} (hN:X.N[i]?=some x:=by rfl) (hv:Vis X.env.scope x:=by first | exact Or.inl rfl | exact Or.inr (Or.inl rfl) | exact Or.inr (Or.inr rfl)) (hd:(x==("__debug__" : Str))=false:=by decide)
  (hcd:(x==("__classdict__" : Str))=false:=by decide):DE X (.Name x pos) (Qb i) :=
 (Qf1 hN hv hd hcd).imp fun σ H Q ⟨Z,env,ρ,B,hp,d,hp',S,e,k⟩=>by
  obtain ⟨e1,rfl⟩:=QaT e
  obtain ⟨v,h1,h2⟩:=S.slot i d e1
  exact ⟨v,h1,k v ρ B H Gr.refl S.wo h2⟩
theorem zi {e:Expr} {d:DV} {v:V} (h:PE X e (tC v)) (r:∀ K ρ B H,RepV K ρ B H d v):DE X e (eC d) :=
 h.imp fun σ H Q ⟨Z,env,ρ,B,hp,d',hp',S,e,k⟩=>by
  obtain ⟨rfl,rfl⟩:=Qo e
  exact k v ρ B H Gr.refl S.wo (r _ _ _ _)
theorem Ql {i:Int} {j pos}:DE X (.Constant (.int i) j pos) (eC (.int i)):=zi QfV fun _ _ _ _=>by unfold RepV;rfl
theorem JN {b:Bool} {j pos}:DE X (.Constant (.bool b) j pos) (eC (.bl b)):=zi Qg7 fun _ _ _ _=>by unfold RepV;rfl
theorem Zu {j pos}:DE X (.Constant .none j pos) (eC .non):=zi QfW fun _ _ _ _=>by unfold RepV;rfl
theorem Qv {x:Str} {j pos}:DE X (.Constant (.str x) j pos) (eC (.str x)):=zi QfZ fun _ _ _ _=>by unfold RepV;rfl
theorem Zg {x:Str} {i:Int} {t:Tok} {pos:Pos} (hg:Gl X x) (hm:X.mg x=some (.int i t)) (hd:(x==("__debug__" : Str))=false:=by decide):DE X (.Name x pos) (eC (.int i)) :=
 zi (Qab (v:=.int i) hg hm ⟨t,rfl⟩ hd) fun _ _ _ _=>by unfold RepV;rfl
def tP2 (K:PySem.W.Frag) (g:DV->DV->M DV):R2:=fun x y H Q=>∃ ρ B hp dx dy d hp',WOk K ρ B hp H/\RepV K ρ B H dx x/\RepV K ρ B H dy y/\g dx dy hp=some (d,hp')/\Fol K ρ B H d hp' Q
def P2 (X:Cx) (f:Value->Value->Sem Value) (g:DV->DV->M DV):Prop:=OpR X f (tP2 X.K g)
def Qf (g:DV->DV->M DV) (a b:DEx):DEx:=fun env=>do let x <- a env;let y <- b env;g x y
variable {a b c:Expr} {fa fb fc:DEx} {pos:Pos}
theorem zo {K:PySem.W.Frag} {g:DV->DV->M DV} {σ:St} {H:Hp} {Q:VK} (h:tD K (Qf g fa fb) σ H Q):tOp (tP2 K g) (tD K fa) (tD K fb) σ H Q:=by
 obtain ⟨Z,env,ρ,B,hp,d,hp',S,e,k⟩:=h
 obtain ⟨x,hp1,e1,e2⟩:=Qj e
 obtain ⟨y,hp2,e3,e4⟩:=Qj e2
 refine tD.run S e1 fun v ρ1 B1 H1 g1 S1 r1=>tD.run S1 e3 fun u ρ2 B2 H2 g2 S2 r2=>?_
 exact ⟨ρ2,B2,hp2,x,y,d,hp',S2.wo,RepV.grow S1.wo.rb g2 _ _ r1,r2,e4,fun w ρ' B' H' g W r=>k w ρ' B' H' (g1.trans (g2.trans g)) W r⟩
theorem QC {op:Operator} {g:DV->DV->M DV} (ho:P2 X (binaryOp op) g) (ha:DE X a fa) (hb:DE X b fb):DE X (.BinOp a op b pos) (Qf g fa fb) :=
 (Qg9 ho ha hb).imp fun _ _ _ h=>zo h
theorem qB {op:CmpOp} {g:DV->DV->M DV} (ho:P2 X (compareOp op) g) (ha:DE X a fa) (hb:DE X b fb) (hm:behindInMarks op b=false):DE X (.Compare a [op] [b] pos) (Qf g fa fb) :=
 (Qeh ho ha hb hm).imp fun _ _ _ h=>zo h
def asB:DV->M Bool
 | .bl b=>pure b
 | _=>failure
def eB (f:DEx):DTx:=fun env=>do asB (<- f env)
theorem YZ {d:DV} {c:Bool} {hp hp':Hs} (h:asB d hp=some (c,hp')):d=.bl c/\hp=hp':=by
 cases d with
 | bl b=>obtain ⟨rfl,rfl⟩:=Qo h;exact ⟨rfl,rfl⟩
 | _=>cases h
theorem RepV.blI {K:PySem.W.Frag} {ρ:List Addr} {B:Addr->Prop} {H:Hp} {b:Bool} {v:V} (h:RepV K ρ B H (.bl b) v):v=.bl b:=by unfold RepV at h;exact h
theorem RepV.intI {K:PySem.W.Frag} {ρ:List Addr} {B:Addr->Prop} {H:Hp} {b:Int} {v:V} (h:RepV K ρ B H (.int b) v):v=.int b:=by unfold RepV at h;exact h
theorem RepV.strI {K:PySem.W.Frag} {ρ:List Addr} {B:Addr->Prop} {H:Hp} {b:Str} {v:V} (h:RepV K ρ B H (.str b) v):v=.str b:=by unfold RepV at h;exact h
theorem RepV.nonI {K:PySem.W.Frag} {ρ:List Addr} {B:Addr->Prop} {H:Hp} {v:V} (h:RepV K ρ B H .non v):v=.non:=by unfold RepV at h;exact h
theorem RepV.tupI {K:PySem.W.Frag} {ρ:List Addr} {B:Addr->Prop} {H:Hp} {ds:List DV} {v:V} (h:RepV K ρ B H (.tup ds) v):∃ a xs,v=.ref a/\¬ B a/\SqT K H a xs/\RepL K ρ B H ds xs:=by unfold RepV at h;exact h
theorem RepV.lstI {K:PySem.W.Frag} {ρ:List Addr} {B:Addr->Prop} {H:Hp} {ds:List DV} {v:V} (h:RepV K ρ B H (.lst ds) v):∃ a xs,v=.ref a/\¬ B a/\SqL K H a xs/\RepL K ρ B H ds xs:=by unfold RepV at h;exact h
theorem RepV.refI {K:PySem.W.Frag} {ρ:List Addr} {B:Addr->Prop} {H:Hp} {i:Nat} {v:V} (h:RepV K ρ B H (.ref i) v):∃ a,v=.ref a/\ρ[i]?=some a:=by unfold RepV at h;exact h
section
variable {K:PySem.W.Frag} {ρ:List Addr} {B:Addr->Prop} {H:Hp}
theorem XZ {b:Bool}:RepV K ρ B H (.bl b) (.bl b):=by unfold RepV;rfl
theorem JH {b:Int}:RepV K ρ B H (.int b) (.int b):=by unfold RepV;rfl
theorem zX:RepV K ρ B H .non .non:=by unfold RepV;rfl
theorem zY {a:Addr} {ds:List DV} {xs:List V} (h1:¬ B a) (h2:SqT K H a xs) (h3:RepL K ρ B H ds xs):RepV K ρ B H (.tup ds) (.ref a):=by unfold RepV;exact ⟨a,xs,rfl,h1,h2,h3⟩
theorem Gz {a:Addr} {ds:List DV} {xs:List V} (h1:¬ B a) (h2:SqL K H a xs) (h3:RepL K ρ B H ds xs):RepV K ρ B H (.lst ds) (.ref a):=by unfold RepV;exact ⟨a,xs,rfl,h1,h2,h3⟩
end
theorem Xj {e:Expr} {f:DEx} (h:DE X e f) (he:∀ whole,isTrue e X.env whole=(do let v <- whole;standAt e.pos;holding [v] (truthy v)):=by intro _;rfl):DT X e (eB f) :=
 (Qge h he).imp fun σ H Q ⟨Z,env,ρ,B,hp,d,hp',S,e,k⟩=>by
  obtain ⟨x,hp1,e1,e2⟩:=Qj e
  obtain ⟨rfl,rfl⟩:=YZ e2
  exact tD.run S e1 fun v ρ1 B1 H1 g1 S1 r1=>⟨d,r1.blI,k ρ1 B1 H1 g1 S1.wo⟩
theorem Q1 {op:CmpOp} {g:DV->DV->M DV} (ho:P2 X (compareOp op) g) (ha:DE X a fa) (hb:DE X b fb) (hm:behindInMarks op b=false):DT X (.Compare a [op] [b] pos) (eB (Qf g fa fb)) :=
 (Qex ho ha hb hm).imp fun σ H Q ⟨Z,env,ρ,B,hp,d,hp',S,e,k⟩=>by
  obtain ⟨x,hp1,e1,e2⟩:=Qj e
  obtain ⟨rfl,rfl⟩:=YZ e2
  exact zo (tD.run S e1 fun v ρ1 B1 H1 g1 S1 r1=>⟨d,r1.blI,k ρ1 B1 H1 g1 S1.wo⟩)
def Xf (f g:DTx):DTx:=fun env=>do if <- f env then g env else pure false
def eOr (f g:DTx):DTx:=fun env=>do if <- f env then pure true else g env
def JY (f:DTx):DTx:=fun env=>do let b <- f env;pure (!b)
def J3 (f g:DEx):DEx:=fun env=>do if <- asB (<- f env) then g env else pure (.bl false)
def xc (f g:DEx):DEx:=fun env=>do if <- asB (<- f env) then pure (.bl true) else g env
def X2 (f:DEx):DEx:=fun env=>do let b <- asB (<- f env);pure (.bl (!b))
def eIf (c:DTx) (f g:DEx):DEx:=fun env=>do if <- c env then f env else g env
theorem tDT.run {K:PySem.W.Frag} {f:DTx} {Z:Ent} {env:En} {σ:St} {ρ:List Addr} {B:Addr->Prop} {hp hp1:Hs} {H:Hp} {d:Bool} {Q:Bool->Hp->Prop} (S:SOk K Z env σ ρ B hp H) (e:f env hp=some (d,hp1))
  (k:∀ ρ' B' H',Gr K ρ B H ρ' B' H'->SOk K Z env σ ρ' B' hp1 H'->Q d H'):tDT K f σ H Q :=
 ⟨Z,env,ρ,B,hp,d,hp1,S,e,fun ρ' B' H' g W=>k ρ' B' H' g (S.grow g W)⟩
variable {ca cb:DTx} {rest:List Expr}
theorem Vj (h:DT X a ca):DW X (.BoolOp .And [a] pos) ca:=QeB h
theorem x9 (h:DT X a ca):DW X (.BoolOp .Or [a] pos) ca:=Qgh h
theorem K2 (ha:DT X a ca) (hb:DW X (.BoolOp .And (b::rest) pos) cb):DW X (.BoolOp .And (a::b::rest) pos) (Xf ca cb) :=
  (Qgg ha hb).imp fun σ H Q ⟨Z,env,ρ,B,hp,d,hp',S,e,k⟩=>by
    obtain ⟨x,hp1,e1,e2⟩:=Qj e
    refine tDT.run S e1 fun ρ1 B1 H1 g1 S1=>?_
    cases x with
    | true=>exact uW (tDT.run S1 e2 fun ρ2 B2 H2 g2 S2=>k ρ2 B2 H2 (g1.trans g2) S2.wo)
    | false =>
      obtain ⟨rfl,rfl⟩:=Qo e2
      exact uV (k ρ1 B1 H1 g1 S1.wo)
theorem VH (ha:DT X a ca) (hb:DW X (.BoolOp .Or (b::rest) pos) cb):DW X (.BoolOp .Or (a::b::rest) pos) (eOr ca cb) :=
  (Qhc ha hb).imp fun σ H Q ⟨Z,env,ρ,B,hp,d,hp',S,e,k⟩=>by
    obtain ⟨x,hp1,e1,e2⟩:=Qj e
    refine tDT.run S e1 fun ρ1 B1 H1 g1 S1=>?_
    cases x with
    | false=>exact uV (tDT.run S1 e2 fun ρ2 B2 H2 g2 S2=>k ρ2 B2 H2 (g1.trans g2) S2.wo)
    | true =>
      obtain ⟨rfl,rfl⟩:=Qo e2
      exact uW (k ρ1 B1 H1 g1 S1.wo)
theorem DW.pt {e:Expr} {f:DTx} (h:DW X e f):DT X e f:=h _
theorem YN (h:DT X a ca):DT X (.UnaryOp .Not a pos) (JY ca) :=
 (Qgd h).imp fun σ H Q ⟨Z,env,ρ,B,hp,d,hp',S,e,k⟩=>by
  obtain ⟨x,hp1,e1,e2⟩:=Qj e
  obtain ⟨rfl,rfl⟩:=Qo e2
  exact tDT.run S e1 fun ρ1 B1 H1 g1 S1=>k ρ1 B1 H1 g1 S1.wo
theorem uM {op:BoolOp} (h:DE X a fa):DE X (.BoolOp op [a] pos) fa:=QfY h
theorem KZ (ha:DE X a fa) (hb:DE X (.BoolOp .And (b::rest) pos) fb):DE X (.BoolOp .And (a::b::rest) pos) (J3 fa fb) :=
  (QfT ha hb).imp fun σ H Q ⟨Z,env,ρ,B,hp,d,hp',S,e,k⟩=>by
    obtain ⟨x,hp1,e1,e2⟩:=Qj e
    obtain ⟨c,hp2,e3,e4⟩:=Qj e2
    obtain ⟨rfl,rfl⟩:=YZ e3
    refine tD.run S e1 fun v ρ1 B1 H1 g1 S1 r1=>⟨c,r1.blI,?_⟩
    cases c with
    | true=>exact uW (tD.run S1 e4 fun v ρ2 B2 H2 g2 S2 r2=>k v ρ2 B2 H2 (g1.trans g2) S2.wo r2)
    | false =>
      obtain ⟨rfl,rfl⟩:=Qo e4
      exact uV (k _ ρ1 B1 H1 g1 S1.wo XZ)
theorem Qfp (ha:DE X a fa):DE X (.UnaryOp .Not a pos) (X2 fa) :=
 (QfX ha).imp fun σ H Q ⟨Z,env,ρ,B,hp,d,hp',S,e,k⟩=>by
  obtain ⟨x,hp1,e1,e2⟩:=Qj e
  obtain ⟨c,hp2,e3,e4⟩:=Qj e2
  obtain ⟨rfl,rfl⟩:=YZ e3
  obtain ⟨rfl,rfl⟩:=Qo e4
  exact tD.run S e1 fun v ρ1 B1 H1 g1 S1 r1=>⟨c,r1.blI,k _ ρ1 B1 H1 g1 S1.wo XZ⟩
theorem Qe3 (hc:DT X c ca) (ha:DE X a fa) (hb:DE X b fb):DE X (.IfExp c a b pos) (eIf ca fa fb) :=
 (QcD hc ha hb).imp fun σ H Q ⟨Z,env,ρ,B,hp,d,hp',S,e,k⟩=>by
  obtain ⟨x,hp1,e1,e2⟩:=Qj e
  refine tDT.run S e1 fun ρ1 B1 H1 g1 S1=>?_
  cases x with
  | true=>exact uW (tD.run S1 e2 fun v ρ2 B2 H2 g2 S2 r2=>k v ρ2 B2 H2 (g1.trans g2) S2.wo r2)
  | false=>exact uV (tD.run S1 e2 fun v ρ2 B2 H2 g2 S2 r2=>k v ρ2 B2 H2 (g1.trans g2) S2.wo r2)
def Qm:DAx:=fun _=>pure []
def Qc (f:DEx) (g:DAx):DAx:=fun env=>do let x <- f env;let xs <- g env;pure (x::xs)
theorem tDA.run {K:PySem.W.Frag} {f:DAx} {Z:Ent} {env:En} {σ:St} {ρ:List Addr} {B:Addr->Prop} {hp hp1:Hs} {H:Hp} {ds:List DV} {Q:List V->Hp->Prop} (S:SOk K Z env σ ρ B hp H) (e:f env hp=some (ds,hp1))
  (k:∀ vs ρ' B' H',Gr K ρ B H ρ' B' H'->SOk K Z env σ ρ' B' hp1 H'->RepL K ρ' B' H' ds vs->Q vs H'):tDA K f σ H Q :=
 ⟨Z,env,ρ,B,hp,ds,hp1,S,e,fun vs ρ' B' H' g W r=>k vs ρ' B' H' g (S.grow g W) r⟩
theorem Qn:DA X [] Qm:=pa_nil.imp fun σ H Q ⟨Z,env,ρ,B,hp,ds,hp',S,e,k⟩=>by
 obtain ⟨rfl,rfl⟩:=Qo e
 exact k [] ρ B H Gr.refl S.wo RepL.nil
theorem Qd {e:Expr} {es:List Expr} {f:DEx} {g:DAx} (ha:DE X e f) (hr:DA X es g) (hs:starEach (e::es) X.env=(false,eval e X.env)::starEach es X.env:=by rfl):DA X (e::es) (Qc f g) :=
 (X9 ha hr hs).imp fun σ H Q ⟨Z,env,ρ,B,hp,ds,hp',S,e,k⟩=>by
  obtain ⟨x,hp1,e1,e2⟩:=Qj e
  obtain ⟨xs,hp2,e3,e4⟩:=Qj e2
  obtain ⟨rfl,rfl⟩:=Qo e4
  exact tD.run S e1 fun v ρ1 B1 H1 g1 S1 r1=>tDA.run S1 e3 fun vs ρ2 B2 H2 g2 S2 r2=>k _ ρ2 B2 H2 (g1.trans g2) S2.wo (RepL.cons (RepV.grow S1.wo.rb g2 _ _ r1) r2)
def lim:Nat:=100000
theorem Go:lim<=sizeLine:=by decide
def QE (c:Bool):M Unit:=if c then pure () else failure
theorem QL {c:Bool} {hp hp':Hs} {u:Unit} (h:QE c hp=some (u,hp')):c=true/\hp=hp':=by
 cases c with
 | true=>obtain ⟨_,rfl⟩:=Qo (show (pure ():M Unit) hp=some (u,hp') from h);exact ⟨rfl,rfl⟩
 | false=>cases h
def qY (ds:List DV):Bool:=decide (ds.length<=lim)
theorem zM {ds:List DV} (h:qY ds=true):ds.length<=sizeLine:=Nat.le_trans (of_decide_eq_true h) Go
def Q3 (f:DAx):DEx:=fun env=>do let xs <- f env;QE (qY xs);pure (.tup xs)
def Y7 (f:DAx):DEx:=fun env=>do let xs <- f env;QE (qY xs);pure (.lst xs)
theorem xg {K:PySem.W.Frag} {ρ:List Addr} {B:Addr->Prop} {H:Hp} {hp:Hs} {ds:List DV} {xs:List V} {Q:VK} (W:WOk K ρ B hp H) (r:RepL K ρ B H ds xs) (k:Fol K ρ B H (.tup ds) hp Q):∀ p,H p=none->Q (.ref p) (upd H p (.tup xs)):=fun p hp' =>
 k _ ρ B _ (Gr.laid hp') (W.laid hp') (zY (fun z=>W.bt p z hp') (SqT.of Za) (RepL.grow W.rb (Gr.laid hp') _ _ r))
theorem Vm {K:PySem.W.Frag} {ρ:List Addr} {B:Addr->Prop} {H:Hp} {hp:Hs} {ds:List DV} {xs:List V} {Q:VK} (W:WOk K ρ B hp H) (r:RepL K ρ B H ds xs) (k:Fol K ρ B H (.lst ds) hp Q):∀ p,H p=none->Q (.ref p) (upd H p (.lst xs)):=fun p hp' =>
 k _ ρ B _ (Gr.laid hp') (W.laid hp') (Gz (fun z=>W.bt p z hp') (SqL.of Za) (RepL.grow W.rb (Gr.laid hp') _ _ r))
theorem Fol.after {K:PySem.W.Frag} {ρ ρ1:List Addr} {B B1:Addr->Prop} {H H1:Hp} {hp':Hs} {d:DV} {Q:VK} (g:Gr K ρ B H ρ1 B1 H1) (k:Fol K ρ B H d hp' Q):Fol K ρ1 B1 H1 d hp' Q:=fun v ρ' B' H' g' W r=>k v ρ' B' H' (g.trans g') W r
theorem Q2 {es:List Expr} {f:DAx} {x1} (h:DA X es f):DE X (.Tuple es x1 pos) (Q3 f) :=
 (Qf0 h).imp fun σ H Q ⟨Z,env,ρ,B,hp,d,hp',S,e,k⟩=>by
  obtain ⟨xs,hp1,e1,e2⟩:=Qj e
  obtain ⟨_,hp2,e3,e4⟩:=Qj e2
  obtain ⟨hs,rfl⟩:=QL e3
  obtain ⟨rfl,rfl⟩:=Qo e4
  exact tDA.run S e1 fun vs ρ1 B1 H1 g1 S1 r1=>⟨by rw [<- r1.length];exact zM hs,xg S1.wo r1 (k.after g1)⟩
theorem uL {es:List Expr} {f:DAx} (h:DA X es f):DE X (.List es pos) (Y7 f) :=
 (QcE h).imp fun σ H Q ⟨Z,env,ρ,B,hp,d,hp',S,e,k⟩=>by
  obtain ⟨xs,hp1,e1,e2⟩:=Qj e
  obtain ⟨_,hp2,e3,e4⟩:=Qj e2
  obtain ⟨hs,rfl⟩:=QL e3
  obtain ⟨rfl,rfl⟩:=Qo e4
  exact tDA.run S e1 fun vs ρ1 B1 H1 g1 S1 r1=>⟨by rw [<- r1.length];exact zM hs,Vm S1.wo r1 (k.after g1)⟩
end
end D
namespace L2
open PySem PySem.Spec PyProof.Rows
def XV (X:Cx) (scope:Scope) (cl:List (Str×Addr)) (C:Addr) (N:List Str) (s₀:Shared) (H₀:Hp) (ex:List Addr):Cx where
 prog:=X.prog
 w:=X.w
 K:=X.K
 mg:=X.mg
 base:=X.base
 A:=X.A
 N:=N
 s₀:=s₀
 H₀:=H₀
 env:=compEnvC scope cl C X.env
 outer:=X.stack
 stack:=X.stack
 ex:=ex
 fn:=fun _=>false
 calm:=X.calm
 pn:=[]
 xe:=fun _ _=>False
def AllP {α:Type} (P:α->Prop):List α->Prop
 | []=>True
 | x::r=>P x/\AllP P r
theorem AllP.mem {α:Type} {P:α->Prop}:∀ {l:List α} {x:α},AllP P l->x∈l->P x
 | [],_,_,h=>nomatch h
 | y::r,x,⟨h1,h2⟩,h=>(List.mem_cons.mp h).elim (fun e=>e▸h1) fun e=>AllP.mem h2 e
def Caps (X:Cx) (scope:Scope) (cl:List (Str×Addr)):List Str->List Nat->Prop
  | [],[]=>True
  | y :: ys, i :: is => X.N[i]? = some y /\ (X.env.kindOf y = some .cell ∨ X.env.kindOf y = some .free) /\ (∃ c, cl.lookup y = some c) /\
      (relabel scope X.env).names.lookup y≠some .local/\Caps X scope cl ys is
  | _,_=>False
theorem Caps.get {X:Cx} {scope:Scope} {cl:List (Str×Addr)}:∀ {ys:List Str} {is:List Nat} {j:Nat} {y:Str},Caps X scope cl ys is->ys[j]?=some y ->
    ∃ i,is[j]?=some i/\X.N[i]?=some y/\(X.env.kindOf y=some .cell∨X.env.kindOf y=some .free)/\(∃ c,cl.lookup y=some c)/\(relabel scope X.env).names.lookup y≠some .local
  | [],_,_,_,_,h=>by simp at h
  | y::ys,[],_,_,h,_=>by simp [Caps] at h
  | y::ys,i::is,0,z,⟨h1,h2,h3,h4,_⟩,h=>by simp at h;subst h;exact ⟨i,rfl,h1,h2,h3,h4⟩
  | y::ys,i::is,j+1,z,⟨_,_,_,_,h5⟩,h=>by
    obtain ⟨k,a,b⟩:=Caps.get h5 (by simpa using h)
    exact ⟨k,by simpa using a,b⟩
theorem Caps.length {X:Cx} {scope:Scope} {cl:List (Str×Addr)}:∀ {ys:List Str} {is:List Nat},Caps X scope cl ys is->ys.length=is.length
 | [],[],_=>rfl
 | [],_::_,h=>by simp [Caps] at h
 | _::_,[],h=>by simp [Caps] at h
 | _::ys,_::is,⟨_,_,_,_,h⟩=>by simp [Caps.length h]
structure GS (X:Cx) (x:Str) (scope:Scope) (cl:List (Str×Addr)) (caps:List Str) (idx:List Nat):Prop where
 clos:closureFor scope X.env=pure cl
 cell:∀ y∈scope.names,y.2≠.cell
 kind:scope.kind=.function
 names:∀ y∈scope.names,y.2=.local->scope.names.lookup y.1=some .local
 hx:scope.names.lookup x=some .local
 cls:AllP (fun p:Str×Addr=>X.env.cells.lookup p.1=some p.2) cl
 has:((relabel scope X.env).names.all fun p=>!(p.2==.cell||p.2==.free)||(cl.lookup p.1).isSome)=true
 cps:Caps X scope cl caps idx
 nd:(x::caps).Nodup
def cσ (idx:List Nat) (σ:St) (o:Option V):St:=o::idx.map fun i=>(σ[i]?).join
def PTs (X:Cx) (ifs:List Expr) (t:TT):Prop :=
  ∀ (pins : List (Addr × Obj)) (s : Shared) (σ : St) (H : Hp) (Q : Bool -> Hp -> Prop), Inv X pins σ H s -> t σ H Q ->
    wpAny (model X.prog X.w) X.A (forIn ifs true fun c r=>if r=true then do let ok <- isTrue c X.env (eval c X.env);pure (ForInStep.yield ok) else pure (ForInStep.yield r)) (TP X pins σ Q) X.xe s
theorem Qey {X:Cx}:PTs X [] (fun _ H Q=>Q true H):=fun pins s σ H Q I h=>wpAny_tests_nil ⟨H,I,h⟩
theorem Qez {X:Cx} {c:Expr} {t:TT} (h:PT X c t):PTs X [c] t:=fun pins s σ H Q I q=>wpAny_tests_one (h pins s σ H Q I q)
section
variable {prog:Program} {w:World} {A:Around} {R:Result->Shared->Prop} {s:Shared}
theorem KW {elt target iter:Expr} {ifs:List Expr} {scope:Scope} {pos:Pos} {it acc:Value} {env:Env} (I:Nat->Shared->Prop)
    (turn:∀ n s,I n s->wpAny (model prog w) A (pyNext it) (fun r s₁=>match r with
      | none=>R (.ok .next) s₁
      | some v=>wpAny (model prog w) A (letOwnedTupleGo target it v) (fun _ s₁'=>wpAny (model prog w) A (assign target env v) (fun _ s₂ =>
          wpAny (model prog w) A (forIn ifs true fun c r=>if r=true then do let ok <- isTrue c env (eval c env);pure (ForInStep.yield ok) else pure (ForInStep.yield r)) (fun ok s₃ =>
            if ok=true then wpAny (model prog w) A (eval elt env) (fun x s₄ =>
              wpAny (model prog w) A (call (.builtin "list.append") [acc,x]) (fun _ s₅=>∃ m,m < n/\I m s₅) (fun _ _=>False) s₄) (fun _ _=>False) s₃
            else ∃ m,m < n/\I m s₃) (fun _ _=>False) s₂) (fun _ _=>False) s₁') (fun _ _=>False) s₁) (fun _ _=>False) s)
    (n:Nat) (h:I n s) :
    codeAny (model prog w) A (.compLoop (.ListComp elt [⟨target,iter,ifs,0⟩] scope pos) 0 it acc env) R s:=by
  refine codeAny_loop rfl I (fun n s hI=>?_) n h
  show wpAny _ A ((compTurn (.ListComp elt [⟨target,iter,ifs,0⟩] scope pos) 0 it acc env).onRaise (fun x=>do noteFrame x env;theTreesLotGoes x)) _ _ s
  refine wpAny_noted ?_
  rw [compTurn_list]
  refine wpAny_bind (wpAny_standAt (wpAny_bind (wpAny_mono (turn n s hI) (fun r s₁ h₁=>?_) fun _ _ h'=>h'.elim)))
  cases r with
  | none=>exact wpAny_pure h₁
  | some v =>
    refine wpAny_bind (wpAny_mono h₁ (fun _ s₁' h₁'=>?_) fun _ _ h'=>h'.elim)
    refine wpAny_bind (wpAny_mono h₁' (fun _ s₂ h₂=>wpAny_bind (wpAny_mono h₂ (fun ok s₃ h₃=>?_) fun _ _ h'=>h'.elim)) fun _ _ h'=>h'.elim)
    cases ok with
    | false=>exact wpAny_pure ⟨rfl,h₃⟩
    | true =>
      exact wpAny_bind (wpAny_bind (wpAny_mono h₃ (fun x s₄ h₄=>wpAny_bind (wpAny_mono h₄ (fun _ s₅ h₅=>wpAny_pure (wpAny_pure ⟨rfl,h₅⟩)) fun _ _ h'=>h'.elim)) fun _ _ h'=>h'.elim))
end
def Qat (K:PySem.W.Frag) (wi:TI) (tt:TT) (te:TE) (idx:List Nat):TE:=fun σ H Q=>wi σ H fun J H1=>∀ D,H1 D=none->K.lookup D=none->∃ W:Nat->Nat->List V->Hp->Prop,(∃ m,W 0 m [] (upd H1 D (.lst []))) /\
  ∀ i m ys H, W i m ys H -> H D = some (.lst ys) /\ ((J.stop i H /\ Q (.ref D) H) ∨ (J.go i H /\ ∀ x H', J.yld i H x H' -> tt (cσ idx σ (some x)) H' fun b H2 =>
    if b=true then te (cσ idx σ (some x)) H2 fun y H3=>H3 D=some (.lst ys)/\ys.length < sizeLine/\∃ m',m' < m/\W (i+1) m' (ys++[y]) (upd H3 D (.lst (ys++[y])))
    else ∃ m',m' < m/\W (i+1) m' ys H2))
section
variable {X:Cx} {elt iter:Expr} {x:Str} {px:Pos} {ifs:List Expr} {scope:Scope} {cl:List (Str×Addr)} {pos:Pos} {caps:List Str} {idx:List Nat} {wi:TI} {tt:TT} {te:TE}
theorem G4 {E:Value->Shared->Prop} {use:Option (Value->Sem Unit)} {QQ:Value->Shared->Prop} {newpos:Pos} (S:GS X x scope cl caps idx) (hc:X.calm=true) (hi:PI X (.Name x px) iter wi)
    (ht:∀ C s₀ H₀ ex,PTs (XV X scope cl C (x::caps) s₀ H₀ ex) ifs tt) (he:∀ C s₀ H₀ ex,PE (XV X scope cl C (x::caps) s₀ H₀ ex) elt te)
    {pins:List (Addr×Obj)} {s:Shared} {σ:St} {H:Hp} {Q:VK} (I:Inv X pins σ H s) (h:Qat X.K wi tt te idx σ H Q)
    (hE:X.xe=E)
    (hend:∀ (D C:Addr) (H':Hp) (s':Shared) (m:Str->Option Value),Inv X pins σ H' s'->Q (.ref D) H'->s'.heap.Ns C m->H' C=none->C≠X.env.locals->X.s₀.heap.objs.size<=C->(∀ x c,X.env.cells.lookup x=some c->c≠C)->(∀ p∈X.pn++pins,p.1≠C) ->
      compPost (model X.prog X.w) X.A E use QQ (.ref D) C (.ok .next) s')
    (hs:∀ x,foldedSetIterable iter X.env x=pure x:=by intro _;rfl) :
    wpAny (model X.prog X.w) X.A (comprehension (.ListComp elt [⟨.Name x px,iter,ifs,0⟩] scope pos) scope X.env newpos (newList []) false (eval iter X.env) use) QQ E s:=by
  subst hE
  refine wpAny_comprehension_free (use:=use) rfl hs S.clos S.kind S.names (thn (hi pins s σ H _ I h) fun xv s1 h1=>thn h1 fun itv s2 h2=>?_)
  obtain ⟨it,fp,tn,J,H2,rfl,I2,T,st2,f2,hQ⟩:=h2
  refine wpAny_newObj_type (wpAny_newFunctionEnv S.cell (by intro y hy;simp at hy) (fun h₁ hns₁ hsb₁=>?_) S.kind)
  dsimp only at hns₁ hsb₁ ⊢
  generalize hH2:s2.heap.push { cls:=.type "list", dict:=none,data:=.seq ([]:List Value).toArray }=hp3 at hns₁ hsb₁ ⊢
  have hC:hp3.objs.size=s2.heap.objs.size+1:=by rw [<- hH2,Heap.size_push]
  have keep3:∀ b o,s2.heap.get? b=some o->hp3.get? b=some o:=fun b o e=>hH2▸Heap.get?_push_of_some _ e
  have hDf:H2 s2.heap.objs.size=none:=I2.hok.fresh (Nat.le_refl _)
  have I3:Inv X pins σ (upd H2 s2.heap.objs.size (.lst [])) { s2 with heap:=hp3 } :=
    I2.laid (t':=s2.toks) keep3 (Nat.le_refl _) ⟨Nat.zero_le _,[],_,.nil,hH2▸Heap.get?_push_size _ rfl⟩
  have hDk:X.K.lookup s2.heap.objs.size=none:=by
    cases q:X.K.lookup s2.heap.objs.size with
    | none=>rfl
    | some o=>exact absurd (Heap.lt_size (I2.kIn _ o q)) (Nat.lt_irrefl _)
  obtain ⟨W,⟨m0,w0⟩,turn⟩:=hQ _ hDf hDk
  generalize hDd:s2.heap.objs.size=D at *
  generalize hCc:hp3.objs.size=C at *
  have ltC:∀ b o,hp3.get? b=some o->b≠C:=fun b o e=>by rw [<- hCc];exact Nat.ne_of_lt (Heap.lt_size e)
  have keep4:∀ b o,hp3.get? b=some o->h₁.get? b=some o:=fun b o e=>hsb₁.extBut b o (ltC b o e) (Heap.get?_push_of_some _ e)
  have s3sz:({ s2 with heap:=hp3 }:Shared).heap.objs.size=C:=hCc
  have clE:∀ y c,cl.lookup y=some c->X.env.cells.lookup y=some c:=fun y c e=>S.cls.mem (PySem.mem_of_lookup e)
  have fpLt:∀ b∈fp,∃ o,s2.heap.get? b=some o:=fun b hb=>let ⟨o,e,_⟩:=T.obj _ _ st2 b hb;⟨o,e⟩
  have fpC:∀ b∈fp,b≠C:=fun b hb=>let ⟨o,e⟩:=fpLt b hb;ltC b o (keep3 b o e)
  have fpD:∀ b∈fp,b≠D:=fun b hb=>let ⟨o,e⟩:=fpLt b hb;by rw [<- hDd];exact Nat.ne_of_lt (Heap.lt_size e)
  have fr3:∀ b∈fp,(upd H2 D (.lst [])) b=none:=fun b hb=>by rw [QX (fpD b hb)];exact (f2 b hb).1
  have cellLt:∀ y c,X.env.cells.lookup y=some c->c≠C:=fun y c e=>let ⟨v,o,ho,_⟩:=I3.cell y c e;ltC c o ho
  have fpStk:∀ b∈fp,b∉frs X.stack:=fun b hb z=>(List.mem_cons.mp (I2.stkSub b z)).elim (f2 b hb).2.1 (f2 b hb).2.2.1
  let X':=XV X scope cl C (x::caps) { s2 with heap:=hp3 } (upd H2 D (.lst [])) fp
  have ok':X'.Ok:=by
    refine ⟨I3.ok.mod,by show (relabel scope X.env).kind=_;exact S.kind,I3.ok.glob,I3.ok.blt,by show hp3.objs.size<=C;rw [hCc];exact Nat.le_refl _,fun y z c h1 h2=>I3.ok.inj y z c (clE y c h1) (clE z c h2),fun y hy=>?_,
      fun y c z=>(by cases z),I3.ok.hd,I3.ok.frames,.inl rfl,fun b hb=>⟨fpC b hb,fun y c e=>(f2 b hb).2.2.2.2.1 y c (clE y c e)⟩,I3.bs,Nat.le_trans I3.ok.bsz I3.sz,
      fun b o e hb=>?_,fun b hb=>fpStk b hb,I3.stack,I3.stkFree⟩
    . have hy':(relabel scope X.env).names.lookup y=some .cell∨(relabel scope X.env).names.lookup y=some .free:=hy
      have q:=S.has
      rw [List.all_eq_true] at q
      have:(cl.lookup y).isSome=true:=by
        rcases hy' with z | z
        . have q:=q _ (PySem.mem_of_lookup z);simpa using q
        . have q:=q _ (PySem.mem_of_lookup z);simpa using q
      exact Option.isSome_iff_exists.mp this
    . have:=(f2 b hb).2.2.2.1
      have e3:=(I2.ok.bs b o e).1
      rcases this with z | z
      . exact I2.ok.noex b o e z
      . exact absurd (Nat.lt_of_lt_of_le (Heap.lt_size e3) z) (Nat.lt_irrefl _)
  have capsLen:=S.cps.length
  have I4:Inv X' [] (cσ idx σ none) (upd H2 D (.lst [])) { s2 with heap:=h₁,toks:=s2.toks+([]:List (Str×Value)).length }:=by
    refine ⟨ok',rfl,I3.bare,Un.kept keep4,⟨_,hns₁,fun i y v e1 e2 e3=>?_⟩,fun y c e=>?_,?_,fun y c e=>I3.freeC y c (clE y c e),fun p hp=>absurd (show p∈([]:List (Addr×Obj)) from hp) (by simp),I3.hok.kept keep4,?_⟩
    . cases i with
      | zero=>exact absurd e2 (by simp [cσ])
      | succ j =>
        obtain ⟨k,h1,h2,h3,⟨c,h4⟩,h5⟩:=S.cps.get (show caps[j]?=some y by have e1':(x::caps)[j+1]?=some y:=e1;simpa using e1')
        have e2':(σ[k]?).join=some v:=by simpa [cσ,h1] using e2
        have e2'':σ[k]?=some (some v):=by
          cases q:σ[k]? with
          | none=>rw [q] at e2';cases e2'
          | some z=>rw [q] at e2';exact congrArg some e2'
        obtain ⟨mL,hnL,hl⟩:=I3.loc
        have vis:Vis X.env.scope y:=by rcases h3 with z | z;exact .inr (.inl z);exact .inr (.inr z)
        obtain ⟨u,r,l⟩:=hl k y v h2 e2'' vis
        refine ⟨u,r,.inr ⟨?_,c,h4,?_⟩⟩
        . have e3':(relabel scope X.env).names.lookup y=some .local∨(relabel scope X.env).names.lookup y=some .cell∨(relabel scope X.env).names.lookup y=some .free:=e3
          rcases e3' with z | z | z
          . exact absurd z h5
          . exact .inl z
          . exact .inr z
        . rcases l with ⟨z,_⟩ | ⟨_,c',e,z⟩
          . rcases h3 with q | q <;> · rw [q] at z;cases z
          . rw [clE y c h4] at e;cases e
            obtain ⟨o,ho,hd⟩:=z
            exact ⟨o,keep4 _ _ ho,hd⟩
    . obtain ⟨v,o,ho,hd⟩:=I3.cell y c (clE y c e)
      exact ⟨v,o,keep4 _ _ ho,hd⟩
    . exact I3.hok.fresh (by show hp3.objs.size<=C;rw [hCc];exact Nat.le_refl _)
    . simp [cσ,X',XV,capsLen]
  have st4:tn 0 h₁:=T.keep _ _ _ st2 fun b _ o e=>keep4 b o (keep3 b o e)
  have fpX:∀ {H':Hp} {pins':List (Addr×Obj)},(∀ b∈fp,H' b=none)->(pins'=[])->∀ b∈fp,yW X' pins' H' b:=fun hn e b hb=>by
    subst e
    exact ⟨hn b hb,fpC b hb,fpStk b hb,.inl hb,fun y c e=>(f2 b hb).2.2.2.2.1 y c (clE y c e),fun p hp=>absurd (show p∈([]:List (Addr×Obj)) from hp) (by simp)⟩
  have loop:∀ s₃:Shared,s₃={ s2 with heap:=h₁,toks:=s2.toks+([]:List (Str×Value)).length } ->
      codeAny (model X.prog X.w) X.A (.compLoop (.ListComp elt [⟨.Name x px,iter,ifs,0⟩] scope pos) 0 (.ref it) (.ref D) (compEnvC scope cl C X.env)) (compPost (model X.prog X.w) X.A X.xe use QQ (.ref D) C) s₃:=by
    rintro s₃ rfl
    refine KW (fun n s'=>∃ i o H' ys,Inv X' [] (cσ idx σ o) H' s'/\tn i s'.heap/\(∀ b∈fp,H' b=none)/\W i n ys H') ?_ m0 ⟨0,none,_,[],I4,st4,fr3,w0⟩
    rintro n s5 ⟨i,o,H5,ys,I5,st5,fr5,w5⟩
    obtain ⟨hD,tw⟩:=turn i n ys H5 w5
    rcases tw with ⟨stop,q⟩ | ⟨go,step⟩
    . refine thn (T.done X' rfl rfl rfl hc i [] s5 _ H5 _ I5 (fpX fr5 rfl) st5 stop) fun r s6 ⟨hr,I6⟩=>?_
      subst hr
      obtain ⟨m6,hn6,_⟩:=I6.loc
      have I7:Inv X pins σ H5 s6:=I3.call' (s':=s6) (ch:=fp) I6.os I6.base I6.hok I6.bare fun b hb=>⟨(f2 b hb).2.2.2.1,(f2 b hb).2.1,(f2 b hb).2.2.2.2.1,(f2 b hb).2.2.2.2.2⟩
      refine hend D C H5 s6 m6 I7 q hn6 I6.free ?_ ?_ cellLt fun p hp=>?_
      . rw [<- hCc];exact Nat.ne_of_gt I3.lt
      . rw [<- hCc];exact I3.sz
      . exact ltC p.1 p.2 (I3.pin p hp).1
    . refine thn (T.item X' rfl rfl rfl hc i [] s5 _ H5 _ I5 (fpX fr5 rfl) st5 go) fun r s6 ⟨u,hr,h6⟩=>?_
      subst hr
      refine thn h6 fun _ s7 ⟨y,H7,I7,r7,y7,st7,fr7⟩=>?_
      have I7':=I7.pinned (fpX fr7 rfl) (T.obj _ _ st7)
      refine thn (Gy (X:=X') (i:=0) S.nd rfl (.inl (lookup_relabel_local S.hx)) (.inr (lookup_relabel_local S.hx)) _ s7 _ H7 y u (fun σ' H'=>σ'=cσ idx σ (some y)/\H'=H7) I7' r7 ⟨rfl,rfl⟩) fun _ s8 ⟨σ8,H8,I8,e8,e8'⟩=>?_
      subst e8
      subst e8'
      have again:∀ {H9:Hp} {s9:Shared} {ys':List V},Inv X' ([]++V3 fp s7.heap) (cσ idx σ (some y)) H9 s9->(∃ m',m' < n/\W (i+1) m' ys' H9) ->
          ∃ m,m < n/\∃ i o H' ys,Inv X' [] (cσ idx σ o) H' s9/\tn i s9.heap/\(∀ b∈fp,H' b=none)/\W i m ys H':=fun {H9 s9 ys'} I9 ⟨m',hm,w9⟩=>by
        refine ⟨m',hm,i+1,some y,H9,ys',I9.unpinned,T.keep _ _ _ st7 fun b hb o e=>(I9.pin (b,o) (List.mem_append_right _ (List.mem_append_right _ (qI hb e)))).1,fun b hb=>?_,w9⟩
        obtain ⟨o,e,d⟩:=T.obj _ _ st7 b hb
        exact (I9.pin (b,o) (List.mem_append_right _ (List.mem_append_right _ (qI hb e)))).2.1
      refine thn (ht _ _ _ _ _ s8 _ H8 _ I8 (step y H8 y7)) fun ok s9 ⟨H9,I9,q9⟩=>?_
      cases ok with
      | false=>exact again I9 (by rw [if_neg Bool.false_ne_true] at q9;exact q9)
      | true =>
        rw [if_pos rfl] at q9 ⊢
        refine thn (he _ _ _ _ _ s9 _ H9 _ I9 q9) fun v s10 ⟨z,H10,I10,r10,hD10,hlen,m',hm,w10⟩=>?_
        refine thn (Km (X:=X') _ s10 _ H10 (.ref D) [z] (.ref D) [v] (fun _ H'=>H'=upd H10 D (.lst (ys++[z]))) I10 rfl (.cons r10 .nil) ⟨D,ys,z,rfl,rfl,hD10,hlen,rfl⟩) fun _ s11 ⟨_,H11,I11,_,e11⟩=>?_
        subst e11
        exact again I11 ⟨m',hm,w10⟩
  exact codeAny_compStart_list (loop _ rfl) (T.self X.A 0 _ _ _ st4 (loop _ rfl))
end
end L2
namespace L2
open PySem PySem.Spec PyProof.Rows
section
variable {X:Cx} {elt iter:Expr} {x:Str} {px:Pos} {ifs:List Expr} {scope:Scope} {cl:List (Str×Addr)} {pos:Pos} {caps:List Str} {idx:List Nat} {wi:TI} {tt:TT} {te:TE}
theorem Qei (S:GS X x scope cl caps idx) (hc:X.calm=true) (hi:PI X (.Name x px) iter wi)
  (ht:∀ C s₀ H₀ ex,PTs (XV X scope cl C (x::caps) s₀ H₀ ex) ifs tt) (he:∀ C s₀ H₀ ex,PE (XV X scope cl C (x::caps) s₀ H₀ ex) elt te)
  (hs:∀ x,foldedSetIterable iter X.env x=pure x:=by intro _;rfl):PE X (.ListComp elt [⟨.Name x px,iter,ifs,0⟩] scope pos) (Qat X.K wi tt te idx):=by
 intro pins s σ H Q I h
 rw [eval_ListComp]
 refine G4 (use:=none) S hc hi ht he I h rfl (fun D C H' s' m I' q hn hC h1 h2 h3 h4=>?_) hs
 show ∃ m,s'.heap.Ns C m/\∀ h',Heap.SameBut C s'.heap h'->EP X pins σ Q (.ref D) { s' with heap:=h' }
 exact ⟨m,hn,fun h' hs=>⟨.ref D,H',I'.turned (t':=s'.toks) (fun b o hb e=>hs.extBut b o hb e) hC (Ne.symm (Ne.symm h1)) (.inr h2) h3 h4,rfl,q⟩⟩
theorem Qeu {i:Nat} {y:Str} {py spos:Pos} (S:GS X x scope cl caps idx) (hc:X.calm=true) (hi:PI X (.Name x px) iter wi)
  (ht:∀ C s₀ H₀ ex,PTs (XV X scope cl C (x::caps) s₀ H₀ ex) ifs tt) (he:∀ C s₀ H₀ ex,PE (XV X scope cl C (x::caps) s₀ H₀ ex) elt te)
  (hN:X.N.Nodup) (hy:X.N[i]?=some y) (hx:Loc X.env.scope y) (hsw:swapsWith (.ListComp elt [⟨.Name x px,iter,ifs,0⟩] scope pos) (some (.Name y py)) spos.line X.env=pure true)
  (hf:X.fn y=true∨X.env.scope.names.lookup y=some .local:=by first | exact .inl rfl | exact .inr rfl | assumption)
  (hs:∀ x,foldedSetIterable iter X.env x=pure x:=by intro _;rfl):PS X (.Assign [.Name y py] (.ListComp elt [⟨.Name x px,iter,ifs,0⟩] scope pos) spos) (QeR (Qat X.K wi tt te idx) (kK i)):=by
 intro pins s σ H D I h
 rw [exec_Assign_Name_used _ _ _ _ hsw]
 refine wpAny_bind (wpAny_standAt (wpAny_bind ?_))
 show wpAny _ X.A (do let _ <- comprehension (.ListComp elt [⟨.Name x px,iter,ifs,0⟩] scope pos) scope X.env _ (newList []) false (eval iter X.env) (some (assign (.Name y py) X.env))) _ _ s
 refine wpAny_bind (wpAny_mono (G4 (use:=some (assign (.Name y py) X.env)) (QQ:=fun _ s'=>SP X pins D .next s') S hc hi ht he I h rfl (fun Da C H' s' m I' q hn hC h1 h2 h3 h4=>?_) hs) (fun _ s' hq=>wpAny_pure (wpAny_pure hq)) fun _ _ e=>e)
 show wpAny _ X.A (assign (.Name y py) X.env (.ref Da)) (fun _ s''=>∃ m,s''.heap.Ns C m/\∀ h',Heap.SameBut C s''.heap h'->SP X pins D .next { s'' with heap:=h' }) _ s'
 refine wpAny_assign_Name (KC I' hN hy hx (v:=.ref Da) rfl (fun s'' I'' ⟨a,hs,ha⟩=>?_) hf)
 refine ⟨m,hn.sameBut hs ?_,fun h' hs'=>⟨_,H',I''.turned (t':=s''.toks) (fun b o hb e=>hs'.extBut b o hb e) hC h1 (.inr h2) h3 h4,q⟩⟩
 rcases ha with rfl | ha
 ·exact h1
 ·exact Ne.symm (h3 _ _ ha)
end
end L2
namespace D
open PySem PySem.Spec PyProof.Rows L2
section
variable {K:PySem.W.Frag} {Z:Ent} {env:En} {σ:St} {ρ ρ':List Addr} {B B':Addr->Prop} {hp hp':Hs} {H H':Hp}
theorem SOk.set {i:Nat} {d:DV} {v:V} (S:SOk K Z env σ ρ B hp H) (r:RepV K ρ B H d v):SOk K Z (env.set i (.val d)) (σ.set i (some v)) ρ B hp H where
 gr:=S.gr
 zb:=S.zb
 wo:=S.wo
 slot:=fun j e h=>by
  by_cases hj:j=i
  ·subst hj
   have hl:j < env.length:=by have:=(List.getElem?_eq_some_iff.mp h).1;simpa using this
   rw [List.getElem?_set_self hl] at h;cases h
   exact ⟨v,List.getElem?_set_self (by rw [S.len];exact hl),r⟩
  ·rw [List.getElem?_set_ne (Ne.symm hj)] at h ⊢
   exact S.slot j e h
 accs:=fun j ds h=>by
  by_cases hj:j=i
  ·subst hj
   have hl:j < env.length:=by have:=(List.getElem?_eq_some_iff.mp h).1;simpa using this
   rw [List.getElem?_set_self hl] at h;cases h
  ·rw [List.getElem?_set_ne (Ne.symm hj)] at h ⊢
   exact S.accs j ds h
 adis:=fun j k ds es a h1 h2 h3 h4=>by
  have nj:∀ {j:Nat} {ds:List DV},(env.set i (.val d))[j]?=some (.acc ds)->j≠i:=fun {j ds} h e=>by
   subst e
   have hl:j < env.length:=by have:=(List.getElem?_eq_some_iff.mp h).1;simpa using this
   rw [List.getElem?_set_self hl] at h;cases h
  have hj:=nj h1
  have hk:=nj h2
  rw [List.getElem?_set_ne (Ne.symm hj)] at h1 h3
  rw [List.getElem?_set_ne (Ne.symm hk)] at h2 h4
  exact S.adis j k ds es a h1 h2 h3 h4
 len:=by simp [S.len]
end
section
variable {X:Cx} {e a b c:Expr} {f fa fb:DEx} {ca cb:DTx} {pos:Pos} {st:Stmt} {sts rest:List Stmt} {s s':DSx}
theorem FolS.after {K:PySem.W.Frag} {Z:Ent} {ρ ρ1:List Addr} {B B1:Addr->Prop} {H H1:Hp} {fl:Fl} {env':En} {hp':Hs} {D:KK} (g:Gs K ρ B H ρ1 B1 H1) (k:FolS K Z ρ B H fl env' hp' D):FolS K Z ρ1 B1 H1 fl env' hp' D :=
 fun σ' ρ' B' H' g' S=>k σ' ρ' B' H' (g.trans g') S
def Q5:DSx:=fun env=>pure (.nx,env)
def Qq (f g:DSx):DSx:=fun env=>do
 let r <- f env
 match r.1 with
 | .nx=>g r.2
 | _=>pure r
def sIf (c:DTx) (f g:DSx):DSx:=fun env=>do if <- c env then f env else g env
def QJ (f:DEx):DSx:=fun env=>do let d <- f env;pure (.rt d,env)
def YD:DSx:=fun env=>pure (.rt .non,env)
def Jk (f:DEx):DSx:=fun env=>do let _ <- f env;pure (.nx,env)
def QA (i:Nat) (f:DEx):DSx:=fun env=>do let d <- f env;pure (.nx,env.set i (.val d))
theorem QK:DSs X [] Q5:=pss_nil.imp fun D σ H ⟨Z,env,ρ,B,hp,fl,env',hp',S,e,k⟩=>by
 obtain ⟨e1,rfl⟩:=Qo e
 cases e1
 exact k σ ρ B H Gs.refl S
theorem Qc2 {K:PySem.W.Frag} {D:KK} {σ:St} {H:Hp} (h:tDS K (Qq s s') D σ H):Qht (tDS K s) (tDS K s') D σ H:=by
 obtain ⟨Z,env,ρ,B,hp,fl,env',hp',S,e,k⟩:=h
 obtain ⟨⟨f1,env1⟩,hp1,e1,e2⟩:=Qj e
 refine ⟨Z,env,ρ,B,hp,f1,env1,hp1,S,e1,fun σ' ρ' B' H' g S'=>?_⟩
 cases f1 with
 | nx=>exact ⟨Z,env1,ρ',B',hp1,fl,env',hp',S',e2,k.after g⟩
 | rt d=>obtain ⟨z,rfl⟩:=Qo e2;cases z;exact k σ' ρ' B' H' g S'
 | bk=>obtain ⟨z,rfl⟩:=Qo e2;cases z;exact k σ' ρ' B' H' g S'
 | ct=>obtain ⟨z,rfl⟩:=Qo e2;cases z;exact k σ' ρ' B' H' g S'
theorem Qg (h1:DS X st s) (h2:DSs X rest s'):DSs X (st::rest) (Qq s s'):=(QcR h1 h2).imp fun _ _ _ h=>Qc2 h
theorem Qr (h1:DS X st s):DSs X [st] s:=Qew h1
theorem Zh {x y:List Stmt} (hc:DT X c ca) (h1:DSs X x s) (h2:DSs X y s'):DS X (.If c x y pos) (sIf ca s s') :=
 (Qhb hc h1 h2).imp fun D σ H ⟨Z,env,ρ,B,hp,fl,env',hp',S,e,k⟩=>by
  obtain ⟨x,hp1,e1,e2⟩:=Qj e
  refine tDT.run S e1 fun ρ1 B1 H1 g1 S1=>?_
  cases x with
  | true=>exact uW ⟨Z,env,ρ1,B1,hp1,fl,env',hp',S1,e2,k.after (g1.gs S.wo.rb)⟩
  | false=>exact uV ⟨Z,env,ρ1,B1,hp1,fl,env',hp',S1,e2,k.after (g1.gs S.wo.rb)⟩
theorem Qw (h:DE X e f):DS X (.Return (some e) pos) (QJ f) :=
 (Qgb h).imp fun D σ H ⟨Z,env,ρ,B,hp,fl,env',hp',S,e,k⟩=>by
  obtain ⟨d,hp1,e1,e2⟩:=Qj e
  obtain ⟨z,rfl⟩:=Qo e2;cases z
  exact tD.run S e1 fun v ρ1 B1 H1 g1 S1 r1=>k σ ρ1 B1 H1 (g1.gs S.wo.rb) S1 v r1
theorem JW (h:DE X e f) (hs:swapsWith e none pos.line X.env=pure false:=by rfl):DS X (.Expr e pos) (Jk f) :=
 (Qev h hs).imp fun D σ H ⟨Z,env,ρ,B,hp,fl,env',hp',S,e,k⟩=>by
  obtain ⟨d,hp1,e1,e2⟩:=Qj e
  obtain ⟨z,rfl⟩:=Qo e2;cases z
  exact tD.run S e1 fun v ρ1 B1 H1 g1 S1 r1=>k σ ρ1 B1 H1 (g1.gs S.wo.rb) S1
theorem vN {K:PySem.W.Frag} {D:KK} {σ:St} {H:Hp} {i:Nat} {t:TE} (ht:∀ σ H Q,tD K f σ H Q->t σ H Q) (h:tDS K (QA i f) D σ H):QeR t (kK i) D σ H:=by
 obtain ⟨Z,env,ρ,B,hp,fl,env',hp',S,e,k⟩:=h
 obtain ⟨d,hp1,e1,e2⟩:=Qj e
 obtain ⟨z,rfl⟩:=Qo e2;cases z
 exact ht _ _ _ (tD.run S e1 fun v ρ1 B1 H1 g1 S1 r1=>k _ ρ1 B1 H1 (g1.gs S.wo.rb) (S1.set r1))
theorem QH (i:Nat) {x:Str} {pos':Pos} (hN:X.N.Nodup) (he:DE X e f) (hi:X.N[i]?=some x:=by rfl) (hx:Loc X.env.scope x:=by first | exact Or.inl rfl | exact Or.inr rfl) (hs:swapsWith e (some (.Name x pos')) pos.line X.env=pure false:=by rfl)
  (hf:X.fn x=true∨X.env.scope.names.lookup x=some .local:=by first | exact .inl rfl | exact .inr rfl | assumption):DS X (.Assign [.Name x pos'] e pos) (QA i f) :=
 (Qgc hN hi hx he hs hf).imp fun _ _ _ h=>vN (fun _ _ _ q=>q) h
abbrev DGx:=DV->En->M En
def tDG (K:PySem.W.Frag) (g:DGx):TG:=fun v σ H Q=>∃ Z env ρ B hp d env' hp',SOk K Z env σ ρ B hp H/\RepV K ρ B H d v/\g d env hp=some (env',hp')/\∀ σ' ρ' B' H',Gs K ρ B H ρ' B' H'->SOk K Z env' σ' ρ' B' hp' H'->Q σ' H'
def gN (i:Nat):DGx:=fun d env=>pure (env.set i (.val d))
theorem j2 (i:Nat) {x:Str} (hN:X.N.Nodup) (hi:X.N[i]?=some x:=by rfl) (hx:Loc X.env.scope x:=by first | exact Or.inl rfl | exact Or.inr rfl) (hf:X.fn x=true∨X.env.scope.names.lookup x=some .local:=by first | exact .inl rfl | exact .inr rfl | assumption):PG X (.Name x pos) (tDG X.K (gN i)):=by
 intro pins s σ H v u Q I r h
 refine Gy hN hi hx hf pins s σ H v u Q I r ?_
 obtain ⟨Z,env,ρ,B,hp,d,env',hp',S,rd,e,k⟩:=h
 obtain ⟨rfl,rfl⟩:=Qo e
 exact k _ ρ B H Gs.refl (S.set rd)
def QaC (K:PySem.W.Frag) (ρ:List Addr) (B:Addr->Prop) (H:Hp) (ds:List DV) (J:It):Prop :=
 ∀ ρ1 B1 H1,Gs K ρ B H ρ1 B1 H1->(∀ b∈ρ1,B1 b)->(∀ a,B1 a->H1 a≠none)->(∀ (i:Nat) (d:DV),ds[i]?=some d->J.go i H1/\∀ x H',J.yld i H1 x H'->RepV K ρ1 B1 H' d x/\(H'=H1∨∃ p o,H1 p=none/\H'=upd H1 p o))/\J.stop ds.length H1
abbrev DIx:=En->M (List DV)
def tDI (K:PySem.W.Frag) (f:DIx):TI:=fun σ H R=>∃ Z env ρ B hp ds hp',SOk K Z env σ ρ B hp H/\f env hp=some (ds,hp')/\∀ J ρ' B' H',Gr K ρ B H ρ' B' H'->WOk K ρ' B' hp' H'->QaC K ρ' B' H' ds J->R J H'
def DI (X:Cx) (tg iter:Expr) (f:DIx):Prop:=PI X tg iter (tDI X.K f)
def xQ:DV->M (List DV)
 | .tup ds=>pure ds
 | _=>failure
def iTp (f:DEx):DIx:=fun env=>do xQ (<- f env)
theorem Xe {d:DV} {ds:List DV} {hp hp':Hs} (h:xQ d hp=some (ds,hp')):d=.tup ds/\hp=hp':=by
 cases d with
 | tup xs=>obtain ⟨rfl,rfl⟩:=Qo h;exact ⟨rfl,rfl⟩
 | _=>cases h
theorem QdZ {K:PySem.W.Frag} {ρ:List Addr} {B:Addr->Prop} {H:Hp} {ds:List DV} {a:Addr} {xs:List V} (nb:¬ B a) (sq:SqL K H a xs) (rl:RepL K ρ B H ds xs):QaC K ρ B H ds (Itl K a):=fun ρ1 B1 H1 g _ _=>by
 have sq1:=g.sqL nb sq
 have rl1:=RepL.gs g _ _ rl
 refine ⟨fun i d e=>?_,xs,sq1,by rw [rl1.length];exact Nat.le_refl _⟩
 obtain ⟨x,hx,r⟩:=rl1.get e
 refine ⟨⟨xs,x,sq1,hx⟩,fun y H' ⟨e',q⟩=>?_⟩
 subst e'
 have:=q xs sq1
 rw [hx] at this;cases this
 exact ⟨r,.inl rfl⟩
theorem Qfx {K:PySem.W.Frag} {ρ:List Addr} {B:Addr->Prop} {H:Hp} {ds:List DV} {a:Addr} {xs:List V} (nb:¬ B a) (sq:SqT K H a xs) (rl:RepL K ρ B H ds xs):QaC K ρ B H ds (Itt K a):=fun ρ1 B1 H1 g _ _=>by
 have sq1:=g.sqT nb sq
 have rl1:=RepL.gs g _ _ rl
 refine ⟨fun i d e=>?_,xs,sq1,by rw [rl1.length];exact Nat.le_refl _⟩
 obtain ⟨x,hx,r⟩:=rl1.get e
 refine ⟨⟨xs,x,sq1,hx⟩,fun y H' ⟨e',q⟩=>?_⟩
 subst e'
 have:=q xs sq1
 rw [hx] at this;cases this
 exact ⟨r,.inl rfl⟩
def Ze (lo:Int) (n:Nat):List DV:=(List.range n).map fun (i:Nat)=>.int (lo+(i:Int))
theorem Qb7 {K:PySem.W.Frag} {ρ:List Addr} {B:Addr->Prop} {H:Hp} {lo:Int} {n:Nat}:QaC K ρ B H (Ze lo n) (Itr lo n):=fun ρ1 B1 H1 g _ _=>by
 refine ⟨fun i d e=>?_,by show n<=_;simp [Ze]⟩
 have hi:i < n:=by have:=(List.getElem?_eq_some_iff.mp e).1;simpa [Ze] using this
 refine ⟨hi,fun y H' ⟨e',q⟩=>?_⟩
 subst e' q
 have:d=.int (lo+i):=by simp [Ze,hi] at e;exact e.symm
 subst this
 exact ⟨JH,.inl rfl⟩
variable {tg iter:Expr}
theorem _root_.L2.PI.imp {wi wi':TI} (h:PI X tg iter wi) (i:∀ σ H R,wi' σ H R->wi σ H R):PI X tg iter wi':=fun pins s σ H R I q=>h pins s σ H R I (i σ H R q)
theorem uN (h:DE X iter f):DI X tg iter (iTp f):=(Qf5 h).imp fun σ H R ⟨Z,env,ρ,B,hp,ds,hp',S,e,k⟩=>by
 obtain ⟨d,hp1,e1,e2⟩:=Qj e
 obtain ⟨rfl,rfl⟩:=Xe e2
 refine tD.run S e1 fun v ρ1 B1 H1 g1 S1 r1=>?_
 obtain ⟨a,xs,rfl,nb,sq,rl⟩:=r1.tupI
 exact ⟨a,rfl,⟨xs,sq⟩,k _ ρ1 B1 H1 g1 S1.wo (Qfx nb sq rl)⟩
def Ys (j:Int):Bool:=decide (-(2 ^ 62)<=j/\j < 2 ^ 62)
def Qbh:List DV->M (List DV)
 | [.int j]=>do QE (Ys j);pure (Ze 0 j.toNat)
 | _=>failure
def QcY:List DV->M (List DV)
 | [.int i,.int j]=>do QE (Ys i&&Ys j);pure (Ze i (j - i).toNat)
 | _=>failure
def Vc (f:DAx):DIx:=fun env=>do Qbh (<- f env)
theorem Qbi {ds out:List DV} {hp hp':Hs} (h:Qbh ds hp=some (out,hp')):∃ j:Int,ds=[.int j]/\Ys j=true/\out=Ze 0 j.toNat/\hp=hp':=by
 unfold Qbh at h
 split at h
 ·obtain ⟨u,hp1,e1,e2⟩:=Qj h
  obtain ⟨h1,rfl⟩:=QL e1
  obtain ⟨rfl,rfl⟩:=Qo e2
  exact ⟨_,rfl,h1,rfl,rfl⟩
 ·cases h
theorem Qbj {ds out:List DV} {hp hp':Hs} (h:QcY ds hp=some (out,hp')):∃ i j:Int,ds=[.int i,.int j]/\Ys i=true/\Ys j=true/\out=Ze i (j - i).toNat/\hp=hp':=by
 unfold QcY at h
 split at h
 ·obtain ⟨u,hp1,e1,e2⟩:=Qj h
  obtain ⟨h1,rfl⟩:=QL e1
  obtain ⟨rfl,rfl⟩:=Qo e2
  rw [Bool.and_eq_true] at h1
  exact ⟨_,_,rfl,h1.1,h1.2,rfl,rfl⟩
 ·cases h
theorem RepL.ints1 {K:PySem.W.Frag} {ρ:List Addr} {B:Addr->Prop} {H:Hp} {j:Int} {vs:List V} (h:RepL K ρ B H [.int j] vs):vs=[.int j]:=by
 unfold RepL at h
 obtain ⟨x,r,rfl,h1,h2⟩:=h
 unfold RepL at h2
 rw [h1.intI,h2]
theorem RepL.ints2 {K:PySem.W.Frag} {ρ:List Addr} {B:Addr->Prop} {H:Hp} {i j:Int} {vs:List V} (h:RepL K ρ B H [.int i,.int j] vs):vs=[.int i,.int j]:=by
 unfold RepL at h
 obtain ⟨x,r,rfl,h1,h2⟩:=h
 rw [h1.intI,h2.ints1]
theorem XB {x:Expr} {p:Pos} {f:DAx} (hg:Gl X "range") (hm:X.mg "range" = none) (ha:DA X [x] f) (hs:starEach [x] X.env=[(false,eval x X.env)]:=by rfl):DI X tg (.Call (.Name "range" p) [x] [] pos) (Vc f) :=
 (Qbd hg hm ha hs).imp fun σ H R ⟨Z,env,ρ,B,hp,ds,hp',S,e,k⟩=>by
  obtain ⟨d,hp1,e1,e2⟩:=Qj e
  obtain ⟨j,rfl,h1,rfl,rfl⟩:=Qbi e2
  refine tDA.run S e1 fun vs ρ1 B1 H1 g1 S1 r1=>?_
  have h1':=of_decide_eq_true h1
  exact ⟨j,r1.ints1,h1'.1,h1'.2,k _ ρ1 B1 H1 g1 S1.wo Qb7⟩
def xh (b:DV->DSx):List DV->DSx
  | [],env=>pure (.nx,env)
  | d::ds,env=>do
    let r <- b d env
    match r.1 with
    | .nx=>xh b ds r.2
    | .ct=>xh b ds r.2
    | .bk=>pure (.nx,r.2)
    | .rt x=>pure (.rt x,r.2)
def vM (f:DIx) (g:DGx) (body:DSx):DSx:=fun env=>do let ds <- f env;xh (fun d env=>do let env' <- g d env;body env') ds env
theorem gQ {K:PySem.W.Frag} {ρ:List Addr} {B:Addr->Prop} {H:Hp} {p:Addr} {o:HO} (rb:∀ a∈ρ,B a) (h:H p=none):Gs K ρ B H ρ B (upd H p o):=(Gr.laid h).gs rb
theorem VG {body:List Stmt} {fi:DIx} {g:DGx} {sb:DSx} (hp:PassesOwn (model X.prog X.w) X.A X.env X.xe) (hc:X.calm=true) (hi:DI X tg iter fi) (hg:PG X tg (tDG X.K g)) (hb:DSs X body sb)
  (hs:∀ x,foldedSetIterable iter X.env x=pure x:=by intro _;rfl):DS X (.For tg iter body [] pos) (vM fi g sb) :=
 (QcP hp hc hi hg hb hs).imp fun D σ H ⟨Z,env,ρ,B,hp,fl,env',hp',S,e,k⟩=>by
  obtain ⟨ds,hp1,e1,e2⟩:=Qj e
  refine ⟨Z,env,ρ,B,hp,ds,hp1,S,e1,fun J ρ1 B1 H1 g1 W1 it=>?_⟩
  have k1:=k.after (g1.gs S.wo.rb)
  refine ⟨fun i m σ H=>m=ds.length - i/\i<=ds.length/\∃ env ρ B hp,SOk X.K Z env σ ρ B hp H/\Gs X.K ρ1 B1 H1 ρ B H/\xh (fun d env=>do let env' <- g d env;sb env') (ds.drop i) env hp=some ((fl,env'),hp'),
   ⟨ds.length,rfl,Nat.zero_le _,env,ρ1,B1,hp1,S.grow g1 W1,Gs.refl,by simpa using e2⟩,?_⟩
  rintro i m σ H ⟨rfl,hi,env2,ρ2,B2,hp2,S2,g2,e3⟩
  obtain ⟨itg,its⟩:=it ρ2 B2 H g2 S2.wo.rb S2.wo.bt
  by_cases hlt:i < ds.length
  ·have hd:ds[i]?=some ds[i]:=List.getElem?_eq_getElem hlt
   obtain ⟨go,yl⟩:=itg i _ hd
   rw [List.drop_eq_getElem_cons hlt] at e3
   obtain ⟨⟨f1,env4⟩,hp4,e4,e5⟩:=Qj e3
   obtain ⟨env3,hp3,e6,e7⟩:=Qj e4
   refine .inr ⟨go,fun σ' H'=>∃ env ρ B hp,SOk X.K Z env σ' ρ B hp H'/\Gs X.K ρ1 B1 H1 ρ B H'/\xh (fun d env=>do let env' <- g d env;sb env') (ds.drop (i+1)) env hp=some ((fl,env'),hp'),
    fun σ' H' q=>⟨ds.length - (i+1),by omega,rfl,hlt,q⟩,fun x H' y=>?_⟩
   obtain ⟨rx,hx⟩:=yl x H' y
   have S3:SOk X.K Z env2 σ ρ2 B2 hp2 H'/\Gs X.K ρ2 B2 H ρ2 B2 H':=by
    rcases hx with rfl | ⟨p,o,hn,rfl⟩
    ·exact ⟨S2,Gs.refl⟩
    ·exact ⟨S2.grow (Gr.laid hn) (S2.wo.laid hn),gQ S2.wo.rb hn⟩
   refine ⟨Z,env2,ρ2,B2,hp2,ds[i],env3,hp3,S3.1,rx,e6,fun σ5 ρ5 B5 H5 g5 S5=>⟨Z,env3,ρ5,B5,hp3,f1,env4,hp4,S5,e7,fun σ6 ρ6 B6 H6 g6 S6=>?_⟩⟩
   have G6:=g2.trans (S3.2.trans (g5.trans g6))
   cases f1 with
   | nx=>exact ⟨env4,ρ6,B6,hp4,S6,G6,e5⟩
   | ct=>exact ⟨env4,ρ6,B6,hp4,S6,G6,e5⟩
   | bk=>obtain ⟨z,rfl⟩:=Qo e5;cases z;exact k1 σ6 ρ6 B6 H6 G6 S6
   | rt d=>obtain ⟨z,rfl⟩:=Qo e5;cases z;exact k1 σ6 ρ6 B6 H6 G6 S6
  ·have e:i=ds.length:=by omega
   subst e
   rw [List.drop_length] at e3
   obtain ⟨z,rfl⟩:=Qo e3;cases z
   exact .inl ⟨its,k1 σ ρ2 B2 H g2 S2⟩
end
end D
namespace D
open PySem PySem.Spec PyProof.Rows L2
section
variable {K:PySem.W.Frag} {Z:Ent} {env:En} {σ:St} {ρ ρ':List Addr} {B B':Addr->Prop} {hp hp':Hs} {H H':Hp}
def jZ (B:Addr->Prop) (p:Addr):Addr->Prop:=fun a=>B a∨a=p
theorem Gr.banned {p:Addr} {o:HO} (h:H p=none) (kf:K.lookup p=none):Gr K ρ B H ρ (jZ B p) (upd H p o) where
 pre:=List.prefix_rfl
 ban:=fun _ h=>.inl h
 new:=fun a z=>z.elim .inl fun e=>.inr (e▸⟨h,kf⟩)
 rnew:=fun _ h=>.inl h
 keep:=fun a u _ q=>by rw [QX (Zm q h)];exact q
 trk:=(Gr.laid (K:=K) (ρ:=ρ) (B:=B) h).trk
theorem WOk.banned {p:Addr} {o:HO} (W:WOk K ρ B hp H) (h:H p=none) (kf:K.lookup p=none):WOk K ρ (jZ B p) hp (upd H p o) where
 len:=W.len
 nd:=W.nd
 obj:=fun i a u e q=>ORep.gs ((Gr.banned h kf).gs W.rb) (QX (fun z=>W.bt a (W.rb a (List.mem_of_getElem? e)) (z▸h))) (W.obj i a u e q)
 rb:=fun a h=>.inl (W.rb a h)
 bt:=fun a z q=>by
  have q':=(Gr.laid (K:=K) (ρ:=ρ) (B:=B) h).trk a q
  rcases z with z | rfl
  ·exact W.bt a z q'
  ·rw [Za] at q;cases q
 bk:=fun a z=>z.elim (W.bk a) fun e=>e▸kf
end
section
variable {X:Cx} {e a b c:Expr} {f fa fb:DEx} {ca cb:DTx} {pos:Pos} {st:Stmt} {sts rest:List Stmt} {s s':DSx}
def xB (i:Nat):DSx:=fun env=>pure (.nx,env.set i (.acc []))
def jB (i:Nat) (env:En):En:=match env[i]? with
 | some (.acc ds)=>env.set i (.val (.lst ds))
 | _=>env
def xD (i:Nat) (f:DSx):DSx:=fun env=>f (jB i env)
def xC (i:Nat) (f:DEx):DSx:=fun env=>do
 let d <- f env
 match env[i]? with
 | some (.acc ds)=>if ds.length < lim then pure (.nx,env.set i (.acc (ds++[d]))) else failure
 | _=>failure
def km (g:DV->M Bool) (f:DV->M DV):List DV->M (List DV)
  | []=>pure []
  | d::ds=>do
    if <- g d then
      let y <- f d
      let ys <- km g f ds
      pure (y::ys)
    else km g f ds
def G1:Sl->Sl
 | .val d=>.val d
 | _=>.un
def cE (idx:List Nat) (env:En) (d:DV):En:=.val d::idx.map fun i=>G1 ((env[i]?).getD .un)
def jf:DTx:=fun _=>pure true
variable {elt iter:Expr} {x:Str} {px:Pos} {ifs:List Expr} {scope:Scope} {cl:List (Str×Addr)} {caps:List Str} {idx:List Nat} {src:DIx} {te:DTx}
theorem cσ_ok {K:PySem.W.Frag} {Z:Ent} {env:En} {σ:St} {ρ ρ1:List Addr} {B B1:Addr->Prop} {hp hp1:Hs} {H H1:Hp} {d:DV} {v:V} (S:SOk K Z env σ ρ B hp H) (g:Gs K ρ B H ρ1 B1 H1) (W:WOk K ρ1 B1 hp1 H1) (r:RepV K ρ1 B1 H1 d v) :
    SOk K ⟨ρ1,B1,H1⟩ (cE idx env d) (cσ idx σ (some v)) ρ1 B1 hp1 H1:=by
  refine ⟨Gr.refl,W.bt,W,fun i e h=>?_,fun i es h=>?_,fun i j es es' a h=>?_,by simp [cE,cσ]⟩
  . cases i with
    | zero =>
      have:d=e:=by simpa [cE] using h
      subst this
      exact ⟨v,by simp [cσ],r⟩
    | succ i =>
      cases q:idx[i]? with
      | none=>simp [cE,q] at h
      | some k =>
        have h':G1 ((env[k]?).getD .un)=.val e:=by simpa [cE,q] using h
        cases z:env[k]? with
        | none=>rw [z] at h';cases h'
        | some sl =>
          rw [z] at h'
          cases sl with
          | un=>cases h'
          | acc _=>cases h'
          | val e' =>
            have:e'=e:=by simpa [G1] using h'
            subst this
            obtain ⟨u,h1,h2⟩:=S.slot k e' z
            exact ⟨u,by simp [cσ,q,h1],RepV.gs g _ _ h2⟩
  . exfalso
    cases i with
    | zero=>simp [cE] at h
    | succ i =>
      cases q:idx[i]? with
      | none=>simp [cE,q] at h
      | some k =>
        have h':G1 ((env[k]?).getD .un)=.acc es:=by simpa [cE,q] using h
        cases z:(env[k]?).getD .un with
        | un=>rw [z] at h';cases h'
        | acc _=>rw [z] at h';cases h'
        | val _=>rw [z] at h';cases h'
  . exfalso
    cases i with
    | zero=>simp [cE] at h
    | succ i =>
      cases q:idx[i]? with
      | none=>simp [cE,q] at h
      | some k =>
        have h':G1 ((env[k]?).getD .un)=.acc es:=by simpa [cE,q] using h
        cases z:(env[k]?).getD .un with
        | un=>rw [z] at h';cases h'
        | acc _=>rw [z] at h';cases h'
        | val _=>rw [z] at h';cases h'
def DTs (X:Cx) (ifs:List Expr) (t:DTx):Prop:=PTs X ifs (tDT X.K t)
theorem zR:DTs X [] jf:=fun pins s σ H Q I ⟨Z,env,ρ,B,hp,d,hp',S,e,k⟩=>by
 obtain ⟨rfl,rfl⟩:=Qo e
 exact Qey pins s σ H Q I (k ρ B H Gr.refl S.wo)
theorem qC {c:Expr} (h:DT X c te):DTs X [c] te:=Qez h
def Zb (n:Nat) (body:DSx):List DV->M DV:=fun ds=>do
 let r <- body (ds.map .val++List.replicate (n - ds.length) .un)
 match r.1 with
 | .nx=>pure .non
 | .rt d=>pure d
 | _=>failure
def spD (K:PySem.W.Frag) (n:Nat) (F:List DV->M DV):Sp:=fun vs H Q _=>vs.length=n/\∃ ρ B hp ds d hp',WOk K ρ B hp H/\RepL K ρ B H ds vs/\F ds hp=some (d,hp')/\Fol K ρ B H d hp' Q
structure Has (P:Program) (w:World) (K:PySem.W.Frag) (mg:Str->Option Value) (base:Heap) (x:Str) (k n:Nat) (F:List DV->M DV):Prop where
 ex:∃ (g:Addr) (fd:FuncData) (ps:List Str),zh P w K mg base CX0 k g fd ps (spD K n F)/\Binds K fd ps []/\PySem.W.keepIn K (.ref g)=true/\mg x=some (.ref g)
theorem ym {K:PySem.W.Frag} {ρ:List Addr} {B:Addr->Prop} {hp:Hs} {H:Hp} {ds:List DV} {vs:List V} {N:List Str} (W:WOk K ρ B hp H) (r:RepL K ρ B H ds vs) :
  SOk K ⟨ρ,B,H⟩ (ds.map .val++List.replicate (N.length - ds.length) .un) (L2.start N vs) ρ B hp H:=by
 have hl:=r.length
 have at_:∀ {i:Nat} {z:Sl},(ds.map Sl.val++List.replicate (N.length - ds.length) Sl.un)[i]?=some z->z=.un∨∃ d,ds[i]?=some d/\z=.val d:=fun {i z} h=>by
  by_cases hi:i < ds.length
  ·rw [List.getElem?_append_left (by simpa using hi),List.getElem?_map,List.getElem?_eq_getElem hi] at h
   cases h
   exact .inr ⟨_,List.getElem?_eq_getElem hi,rfl⟩
  ·rw [List.getElem?_append_right (by simpa using hi),List.getElem?_replicate] at h
   split at h
   ·cases h;exact .inl rfl
   ·cases h
 refine ⟨Gr.refl,W.bt,W,fun i d h=>?_,fun i es h=>?_,fun i j es es' a h=>?_,by unfold L2.start;simp;omega⟩
 ·rcases at_ h with z | ⟨d',q,z⟩
  ·cases z
  ·cases z
   obtain ⟨v,h1,h2⟩:=r.get q
   refine ⟨v,?_,h2⟩
   unfold L2.start
   have hi:i < vs.length:=(List.getElem?_eq_some_iff.mp h1).1
   rw [List.getElem?_append_left (by simpa using hi),List.getElem?_map,h1]
   rfl
 ·rcases at_ h with z | ⟨d',q,z⟩<;>cases z
 ·rcases at_ h with z | ⟨d',q,z⟩<;>cases z
theorem Qfu {P:Program} {w:World} {K:PySem.W.Frag} {mg:Str->Option Value} {base:Heap} {x:Str} {stm:Stmt} {g:Addr} {fd:FuncData} {N ps:List Str} {k:Nat} {body:DSx} (F:Fun K x x stm g fd) (Sc:Qy N ps (Qs stm)) (hm:mg x=some (.ref g))
  (hb:∀ (kV doc pm:Value) (an:Option Addr) (cdv ct:Value) (us:List Value),us.length=ps.length->bindArgs (PySem.W.fnOf x x (JP stm) (ZY stm) (Qs stm) .none kV doc pm an cdv ct) ⟨us,[]⟩=pure (ps.zip us))
  (h:∀ (cdv:Value) (A:Around) (outer:List Env) (s:Shared) (H:Hp) (E:XK),Room k (A.deeper (envOfC x (Qs stm) s.heap.objs.size g cdv))->DSs (y0 CX0 P w K mg base N x (Qs stm) g cdv A outer s H E).nox (ZY stm) body) :
  Has P w K mg base x (k+1) ps.length (Zb N.length body):=by
 refine ⟨g,fd,ps,F.ok Sc (fun vs H Q E h=>h.1) (fun cdv A outer s H vs Q E hr sp=>?_),F.binds hb,F.kp,hm⟩
 obtain ⟨hn,ρ,B,hp,ds,d,hp',W,r,e,k⟩:=sp
 obtain ⟨⟨fl,env'⟩,hp1,e1,e2⟩:=Qj e
 refine ⟨_,h cdv A outer s H E hr,⟨ρ,B,H⟩,_,ρ,B,hp,fl,env',hp1,ym W r,e1,fun σ' ρ' B' H' g' S'=>?_⟩
 cases fl with
 | nx=>obtain ⟨rfl,rfl⟩:=Qo e2;exact k .non ρ' B' H' S'.gr S'.wo zX
 | rt x=>obtain ⟨rfl,rfl⟩:=Qo e2;exact fun v rv=>k v ρ' B' H' S'.gr S'.wo rv
 | bk=>cases e2
 | ct=>cases e2
def Qu (n:Nat) (F:List DV->M DV) (a:DAx):DEx:=fun env=>do
 let ds <- a env
 QE (decide (ds.length=n))
 F ds
theorem QG {y:Str} {k j n:Nat} {F:List DV->M DV} {e:Expr} {es:List Expr} {fa:DAx} {p:Pos} (h:Has X.prog X.w X.K X.mg X.base y j n F) (hr:Room k X.A) (hj:j<=k) (hx:YK CX0 X E0) (ha:DA X (e::es) fa) (hg:Gl X y:=by rfl)
  (hdb:(y==("__debug__" : Str))=false:=by decide) (he:starEach (e::es) X.env=(false,eval e X.env)::starEach es X.env:=by rfl) (hpl:(backTo pos (starEach es X.env)).any (·.1)=false:=by rfl):DE X (.Call (.Name y p) (e::es) [] pos) (Qu n F fa):=by
 obtain ⟨g,fd,ps,F',hb,hk,hm⟩:=h.ex
 refine L2.PE.imp (Qeg F' (hr.mono hj) hg hm hk hb .nil hx ha hdb he hpl) fun σ H Q ⟨Z,env,ρ,B,hp,d,hp',S,e,k⟩=>?_
 obtain ⟨ds,hp1,e1,e2⟩:=Qj e
 obtain ⟨_,hp2,e3,e4⟩:=Qj e2
 obtain ⟨hl,rfl⟩:=QL e3
 refine tDA.run S e1 fun vs ρ1 B1 H1 g1 S1 r1=>?_
 refine ⟨by rw [List.append_nil,<- r1.length];exact of_decide_eq_true hl,ρ1,B1,hp1,ds,d,hp',S1.wo,by rw [List.append_nil];exact r1,e4,k.after g1⟩
end
end D
namespace D
open PySem PySem.Spec PyProof.Rows L2
section
variable {X:Cx} {e a b c:Expr} {f fa fb fc:DEx} {ca cb:DTx} {pos:Pos}
def q8 (C:Int->Int->Bool) (g:Int->Int->DV):DV->DV->M DV
 | .int i,.int j=>if C i j then pure (g i j) else failure
 | _,_=>failure
theorem ye {C:Int->Int->Bool} {g:Int->Int->DV} {x y d:DV} {hp hp':Hs} (h:q8 C g x y hp=some (d,hp')):∃ i j,x=.int i/\y=.int j/\C i j=true/\d=g i j/\hp=hp':=by
 unfold q8 at h
 split at h
 ·rename_i i j
  by_cases hc:C i j=true
  ·rw [if_pos hc] at h
   obtain ⟨rfl,rfl⟩:=Qo h
   exact ⟨i,j,rfl,rfl,hc,rfl,rfl⟩
  ·rw [if_neg hc] at h;cases h
 ·cases h
theorem Gw {g:Value->Value->Sem Value} {C:Int->Int->Bool} {P:Int->Int->Prop} {q:Int->Int->Int} (ho:OpR X g (rI P fun i j=>.int (q i j))) (hC:∀ i j,C i j=true->P i j):P2 X g (q8 C fun i j=>.int (q i j)):=by
 intro pins s σ H x y v u Q I rx ry h
 refine ho pins s σ H x y v u Q I rx ry ?_
 obtain ⟨ρ,B,hp,dx,dy,d,hp',W,r1,r2,e,k⟩:=h
 obtain ⟨i,j,rfl,rfl,hc,rfl,rfl⟩:=ye e
 exact ⟨i,j,r1.intI,r2.intI,hC i j hc,k _ ρ B H Gr.refl W JH⟩
theorem Qeb {g:Value->Value->Sem Value} {q:Int->Int->Int} (ho:OpR X g (rI0 fun i j=>.int (q i j))):P2 X g (q8 (fun _ _=>true) fun i j=>.int (q i j)):=by
 intro pins s σ H x y v u Q I rx ry h
 refine ho pins s σ H x y v u Q I rx ry ?_
 obtain ⟨ρ,B,hp,dx,dy,d,hp',W,r1,r2,e,k⟩:=h
 obtain ⟨i,j,rfl,rfl,hc,rfl,rfl⟩:=ye e
 exact ⟨i,j,r1.intI,r2.intI,k _ ρ B H Gr.refl W JH⟩
theorem Vo {g:Value->Value->Sem Value} {q:Int->Int->Bool} (ho:OpR X g (rI0 fun i j=>.bl (q i j))):P2 X g (q8 (fun _ _=>true) fun i j=>.bl (q i j)):=by
 intro pins s σ H x y v u Q I rx ry h
 refine ho pins s σ H x y v u Q I rx ry ?_
 obtain ⟨ρ,B,hp,dx,dy,d,hp',W,r1,r2,e,k⟩:=h
 obtain ⟨i,j,rfl,rfl,hc,rfl,rfl⟩:=ye e
 exact ⟨i,j,r1.intI,r2.intI,k _ ρ B H Gr.refl W XZ⟩
def Qfl (i j:Int):Bool:=decide ((-(2 ^ 64) < i/\i < 2 ^ 64)∨(-(2 ^ 64) < j/\j < 2 ^ 64))
def QgG (_ j:Int):Bool:=decide (0 < j/\j < 1073741824)
def QgH (_ j:Int):Bool:=decide (0 < j)
def QhB (i j:Int):Bool:=decide (0<=j/\j<=1000000/\i.natAbs < 2 ^ 64)
def yr:DV->DV->M DV:=q8 (fun _ _=>true) fun i j=>.int (i - j)
def qJ:DV->DV->M DV:=q8 Qfl fun i j=>.int (i * j)
def uO:DV->DV->M DV:=q8 QgG fun i j=>.int (i / j)
def VW:DV->DV->M DV:=q8 QgH fun i j=>.int (i % j)
def zD:DV->DV->M DV:=q8 QhB fun i j=>.int (i ^ j.toNat)
def ltD:DV->DV->M DV:=q8 (fun _ _=>true) fun i j=>.bl (decide (i < j))
def leD:DV->DV->M DV:=q8 (fun _ _=>true) fun i j=>.bl (decide (i<=j))
def gtD:DV->DV->M DV:=q8 (fun _ _=>true) fun i j=>.bl (decide (j < i))
def geD:DV->DV->M DV:=q8 (fun _ _=>true) fun i j=>.bl (decide (j<=i))
theorem yG:P2 X (binaryOp .Sub) yr:=Qeb QfS
theorem xx:P2 X (binaryOp .Mult) qJ:=Gw QfQ fun i j h=>of_decide_eq_true (p:=(-(2 ^ 64) < i/\i < 2 ^ 64)∨(-(2 ^ 64) < j/\j < 2 ^ 64)) h
theorem Qcy:P2 X (binaryOp .FloorDiv) uO:=Gw Qd8 fun i j h=>of_decide_eq_true (p:=0 < j/\j < 1073741824) h
theorem yF:P2 X (binaryOp .Mod) VW:=Gw QfP fun _ _ h=>of_decide_eq_true h
theorem jr:P2 X (binaryOp .Pow) zD:=Gw QfR fun i j h=>of_decide_eq_true (p:=0<=j/\j<=1000000/\i.natAbs < 2 ^ 64) h
theorem UP:P2 X (compareOp .Lt) ltD:=Vo Qg3
theorem Qa7:P2 X (compareOp .LtE) leD:=Vo Qg2
theorem Qcz:P2 X (compareOp .Gt) gtD:=Vo Qg1
theorem Qed:P2 X (compareOp .GtE) geD:=Vo Qg0
def QgY:DV->M DV
 | .int i=>pure (.int (-i))
 | _=>failure
def j9 (f:DEx):DEx:=fun env=>do QgY (<- f env)
theorem Qcx:OpR X (binaryOp .Add) (fun x y H Q=>∃ a b ys,x=.ref a/\y=.ref b/\SqT X.K H a []/\SqT X.K H b ys/\ys.length<=sizeLine/\Q (.ref b) H):=by
 intro pins s σ H x y v u Q I rx ry h
 obtain ⟨a,b,ys,rfl,rfl,ha,hb,hz,q⟩:=h
 cases rx
 cases ry
 obtain ⟨its,r1,p1,_⟩:=I.tuple ha
 obtain ⟨its2,r2,p2,_⟩:=I.tuple hb
 obtain ⟨m,F⟩:=I.fr
 have z:its=[]:=by cases r1;rfl
 subst z
 exact add_tuples F (Qcq (g:=X.base) (L:=X.env.locals)) p1 p2 (fun _=>⟨.ref b,H,I,rfl,q⟩) (fun n=>absurd rfl n) (fun n=>absurd rfl n) (by have:=r2.length;simp;omega)
def Zt:DV->DV->M DV
 | .int i,.int j=>pure (.int (i+j))
 | .tup xs,.tup ys=>do QE (qY (xs++ys));pure (.tup (xs++ys))
 | .lst xs,.lst ys=>do QE (qY (xs++ys));pure (.lst (xs++ys))
 | _,_=>failure
theorem QeE:OpR X (binaryOp .Add) (fun x y H Q=>∃ l b xs zs,x=.ref l/\y=.ref b/\SqL X.K H l xs/\SqL X.K H b zs/\xs.length+zs.length<=sizeLine/\∀ p,H p=none->Q (.ref p) (upd H p (.lst (xs++zs)))):=by
 intro pins s σ H x y v u Q I rx ry h
 obtain ⟨l,b,xs,zs,rfl,rfl,hl,hb,hz,q⟩:=h
 cases rx
 cases ry
 obtain ⟨its,r1,⟨⟨k1,dd1,da1,sl1⟩,n1,e1,c1,d1,s1⟩,_⟩:=I.list hl
 obtain ⟨its2,r2,⟨⟨k2,dd2,da2,sl2⟩,n2,e2,c2,d2,s2⟩,_⟩:=I.list hb
 simp only at c1 d1 s1 c2 d2 s2
 subst c1 d1 s1 c2 d2 s2
 have ea:its.toArray++its2.toArray=(its++its2).toArray:=by simp
 have hz':its.length+its2.length<=sizeLine:=by rw [<- r1.length,<- r2.length];exact hz
 refine concat_meets (T := "list") ⟨_,e1,rfl⟩ ⟨_,e2,rfl⟩ noFill_list_add seq_list_add PySem.F.slot_list_add PySem.F.entry_list_add (PySem.F.args_list_add_2 _ _) (list_addW l b its.toArray its2.toArray n1 n2 none none sl1 sl2 (by simpa using hz')) ⟨e1,e2,?_⟩
 rw [ea]
 exact ⟨.ref _,_,I.lnew (t':=s.toks) (r1.append r2) (by rw [List.length_append];exact hz),rfl,q _ I.fresh⟩
theorem ZT:P2 X (binaryOp .Add) Zt:=by
 intro pins s σ H x y v u Q I rx ry h
 obtain ⟨ρ,B,hp,dx,dy,d,hp',W,r1,r2,e,k⟩:=h
 unfold Zt at e
 split at e
 ·obtain ⟨rfl,rfl⟩:=Qo e
  exact QfN pins s σ H x y v u Q I rx ry ⟨_,_,r1.intI,r2.intI,k _ ρ B H Gr.refl W JH⟩
 ·rename_i xs ys
  obtain ⟨_,hp1,e1,e2⟩:=Qj e
  obtain ⟨hs,rfl⟩:=QL e1
  obtain ⟨rfl,rfl⟩:=Qo e2
  obtain ⟨a,vs,rfl,n1,q1,l1⟩:=r1.tupI
  obtain ⟨b,ws,rfl,n2,q2,l2⟩:=r2.tupI
  have hz:vs.length+ws.length<=sizeLine:=by
   have:=zM hs
   rw [List.length_append] at this
   rw [<- l1.length,<- l2.length];exact this
  by_cases hv:vs=[]
  ·subst hv
   have:xs=[]:=by have:=l1.length;cases xs with | nil=>rfl | cons _ _=>simp at this
   subst this
   exact Qcx pins s σ H _ _ v u Q I rx ry ⟨a,b,ws,rfl,rfl,q1,q2,by simp at hz;exact hz,k _ ρ B H Gr.refl W (zY n2 q2 l2)⟩
  ·refine Qd7 pins s σ H _ _ v u Q I rx ry ⟨a,b,vs,ws,rfl,rfl,q1,q2,hv,hz,fun hw=>?_,fun hw=>xg W (RepL.append l1 l2) k⟩
   subst hw
   have:ys=[]:=by have:=l2.length;cases ys with | nil=>rfl | cons _ _=>simp at this
   subst this
   rw [List.append_nil] at k
   exact k _ ρ B H Gr.refl W (zY n1 q1 l1)
 ·rename_i xs ys
  obtain ⟨_,hp1,e1,e2⟩:=Qj e
  obtain ⟨hs,rfl⟩:=QL e1
  obtain ⟨rfl,rfl⟩:=Qo e2
  obtain ⟨a,vs,rfl,n1,q1,l1⟩:=r1.lstI
  obtain ⟨b,ws,rfl,n2,q2,l2⟩:=r2.lstI
  have hz:vs.length+ws.length<=sizeLine:=by
   have:=zM hs
   rw [List.length_append] at this
   rw [<- l1.length,<- l2.length];exact this
  exact QeE pins s σ H _ _ v u Q I rx ry ⟨a,b,vs,ws,rfl,rfl,q1,q2,hz,Vm W (RepL.append l1 l2) k⟩
 ·cases e
def isN:DV->Bool
 | .non=>true
 | _=>false
theorem kO {K:PySem.W.Frag} {ρ:List Addr} {B:Addr->Prop} {H:Hp} {d:DV} {v:V} (r:RepV K ρ B H d v):decide (v=.non)=isN d:=by
 cases d with
 | non=>rw [r.nonI];rfl
 | bl b=>rw [r.blI];rfl
 | int b=>rw [r.intI];rfl
 | str b=>rw [r.strI];rfl
 | tup b=>obtain ⟨a,xs,rfl,_⟩:=r.tupI;rfl
 | lst b=>obtain ⟨a,xs,rfl,_⟩:=r.lstI;rfl
 | ref b=>obtain ⟨a,rfl,_⟩:=r.refI;rfl
def isD:DV->DV->M DV
 | x,.non=>pure (.bl (isN x))
 | .bl p,.bl q=>pure (.bl (p==q))
 | _,_=>failure
def Yt:DV->DV->M DV
 | x,.non=>pure (.bl (!isN x))
 | .bl p,.bl q=>pure (.bl (p != q))
 | _,_=>failure
theorem gm:P2 X (compareOp .Is) isD:=by
 intro pins s σ H x y v u Q I rx ry h
 obtain ⟨ρ,B,hp,dx,dy,d,hp',W,r1,r2,e,k⟩:=h
 unfold isD at e
 split at e
 ·obtain ⟨rfl,rfl⟩:=Qo e
  refine QfO pins s σ H x y v u Q I rx ry ⟨r2.nonI,?_⟩
  rw [kO r1]
  exact k _ ρ B H Gr.refl W XZ
 ·obtain ⟨rfl,rfl⟩:=Qo e
  obtain rfl:=r1.blI
  obtain rfl:=r2.blI
  cases rx;cases ry
  exact is_bool ⟨.bl _,H,I,rfl,k _ ρ B H Gr.refl W XZ⟩
 ·cases e
theorem V0:P2 X (compareOp .IsNot) Yt:=by
 intro pins s σ H x y v u Q I rx ry h
 obtain ⟨ρ,B,hp,dx,dy,d,hp',W,r1,r2,e,k⟩:=h
 unfold Yt at e
 split at e
 ·obtain ⟨rfl,rfl⟩:=Qo e
  refine Qd9 pins s σ H x y v u Q I rx ry ⟨r2.nonI,?_⟩
  rw [kO r1]
  exact k _ ρ B H Gr.refl W XZ
 ·obtain ⟨rfl,rfl⟩:=Qo e
  obtain rfl:=r1.blI
  obtain rfl:=r2.blI
  cases rx;cases ry
  exact isnot_bool ⟨.bl _,H,I,rfl,k _ ρ B H Gr.refl W XZ⟩
 ·cases e
theorem KQ {K:PySem.W.Frag} {ρ:List Addr} {B:Addr->Prop} {H:Hp} {ds:List DV} {xs:List V} {i:Int} {d:DV} (r:RepL K ρ B H ds xs) (h:atI ds i=some d):∃ x,atI xs i=some x/\RepV K ρ B H d x:=by
  unfold atI at h ⊢
  rw [<- r.length]
  cases q:ixN ds.length i with
  | none=>rw [q] at h;cases h
  | some j =>
    rw [q] at h
    exact r.get h
def ixD:DV->DV->M DV
  | .tup ds,.int i=>match atI ds i with
    | some d=>pure d
    | none=>failure
  | .lst ds,.int i=>match atI ds i with
    | some d=>pure d
    | none=>failure
  | _,_=>failure
theorem Qg4:IxR X (tP2 X.K ixD):=by
  intro value slice pins s σ H x y v u Q I rx ry h hsub
  obtain ⟨ρ,B,hp,dx,dy,d,hp',W,r1,r2,e,k⟩:=h
  unfold ixD at e
  split at e
  . rename_i ds i
    cases q:atI ds i with
    | none=>rw [q] at e;cases e
    | some d' =>
      rw [q] at e
      obtain ⟨rfl,rfl⟩:=Qo e
      obtain ⟨a,xs,rfl,n1,q1,l1⟩:=r1.tupI
      obtain ⟨z,hz,rz⟩:=KQ l1 q
      exact Qfy value slice pins s σ H _ _ v u Q I rx ry ⟨a,xs,i,z,rfl,r2.intI,q1,hz,k _ ρ B H Gr.refl W rz⟩ hsub
  . rename_i ds i
    cases q:atI ds i with
    | none=>rw [q] at e;cases e
    | some d' =>
      rw [q] at e
      obtain ⟨rfl,rfl⟩:=Qo e
      obtain ⟨a,xs,rfl,n1,q1,l1⟩:=r1.lstI
      obtain ⟨z,hz,rz⟩:=KQ l1 q
      exact kQ value slice pins s σ H _ _ v u Q I rx ry ⟨a,xs,i,z,rfl,r2.intI,q1,hz,k _ ρ B H Gr.refl W rz⟩ hsub
  . cases e
theorem JO (ha:DE X a fa) (hb:DE X b fb) (hs:KN b:=by intro _ _;rfl):DE X (.Subscript a b pos) (Qf ixD fa fb):=L2.PE.imp (Qe8 Qg4 ha hb hs) fun _ _ _ h=>zo h
end
end D
namespace D
open PySem PySem.Spec PyProof.Rows L2
mutual
def toP:DV->PyData
 | .non=>.none
 | .bl b=>.bool b
 | .int i=>.int i
 | .str x=>.str x
 | .tup xs=>.tuple (toPs xs)
 | .lst xs=>.list (toPs xs)
 | .ref _=>.none
def toPs:List DV->List PyData
 | []=>[]
 | d::ds=>toP d::toPs ds
end
mutual
def yD:DV->Bool
 | .ref _=>false
 | .tup xs=>noRefs xs
 | .lst xs=>noRefs xs
 | _=>true
def noRefs:List DV->Bool
 | []=>true
 | d::ds=>yD d&&noRefs ds
end
section
variable {X:Cx} {pins:List (Addr×Obj)} {σ:St} {H:Hp} {s:Shared} {ρ:List Addr} {B:Addr->Prop}
mutual
theorem V5 (I:Inv X pins σ H s):∀ (d:DV) (v:V) (u:Value),RepV X.K ρ B H d v->RelV v u->yD d=true->∃ as,Reads s.heap u (toP d) as
  | .non,_,_,r,ru,_=>by obtain rfl:=r.nonI;cases ru;exact ⟨[],by unfold toP;exact .none⟩
  | .bl b,_,_,r,ru,_=>by obtain rfl:=r.blI;cases ru;exact ⟨[],by unfold toP;exact .bool b⟩
  | .int i,_,_,r,ru,_=>by obtain rfl:=r.intI;obtain ⟨t,rfl⟩:=ru;exact ⟨[],by unfold toP;exact .int i t⟩
  | .str x,_,_,r,ru,_=>by obtain rfl:=r.strI;obtain ⟨t,rfl⟩:=ru;exact ⟨[],by unfold toP;exact .str x t⟩
  | .ref _,_,_,_,_,n=>by cases n
  | .tup ds,_,_,r,ru,n=>by
    obtain ⟨a,xs,rfl,_,sq,rl⟩:=r.tupI
    cases ru
    obtain ⟨its,rv,⟨o,e,hc,k,hd⟩,_⟩:=I.tuple sq
    obtain ⟨as,q⟩:=reads_all I ds xs its rl rv (by unfold yD at n;exact n)
    exact ⟨_,by unfold toP;exact reads_tuple_at e hc hd (by simpa using q)⟩
  | .lst ds,_,_,r,ru,n=>by
    obtain ⟨a,xs,rfl,_,sq,rl⟩:=r.lstI
    cases ru
    obtain ⟨its,rv,⟨o,k,e,hc,_,hd⟩,_⟩:=I.list sq
    obtain ⟨as,q⟩:=reads_all I ds xs its rl rv (by unfold yD at n;exact n)
    exact ⟨_,by unfold toP;exact reads_list_at e hc hd (by simpa using q)⟩
theorem reads_all (I:Inv X pins σ H s):∀ (ds:List DV) (xs:List V) (us:List Value),RepL X.K ρ B H ds xs->Vals xs us->noRefs ds=true->∃ as,ReadsAll s.heap us (toPs ds) as
  | [],_,_,r,ru,_=>by unfold RepL at r;subst r;cases ru;exact ⟨[],by unfold toPs;exact .nil⟩
  | d::ds,_,_,r,ru,n=>by
    unfold RepL at r
    obtain ⟨x,xs,rfl,r1,r2⟩:=r
    cases ru with
    | cons q1 q2 =>
      unfold noRefs at n
      rw [Bool.and_eq_true] at n
      obtain ⟨as,h1⟩:=V5 I d x _ r1 q1 n.1
      obtain ⟨bs,h2⟩:=reads_all I ds xs _ r2 q2 n.2
      exact ⟨_,by unfold toPs;exact .cons h1 h2⟩
end
end
def okP (d:DV):Bool:=yD d&&SeqAt.shaped (toP d)
def eqD:DV->DV->M DV:=fun x y=>do QE (okP x&&okP y);pure (.bl (PyData.eqv (toP x) (toP y)))
def neD:DV->DV->M DV:=fun x y=>do QE (okP x&&okP y);pure (.bl (!PyData.eqv (toP x) (toP y)))
section
variable {X:Cx} {e a b c:Expr} {f fa fb fc:DEx} {ca cb:DTx} {pos:Pos}
theorem Qec (hu:X.A.units+64 < cLine):P2 X (compareOp .Eq) eqD:=by
 intro pins s σ H x y v u Q I rx ry h
 obtain ⟨ρ,B,hp,dx,dy,d,hp',W,r1,r2,e,k⟩:=h
 obtain ⟨_,hp1,e1,e2⟩:=Qj e
 obtain ⟨hs,rfl⟩:=QL e1
 obtain ⟨rfl,rfl⟩:=Qo e2
 simp only [okP,Bool.and_eq_true] at hs
 obtain ⟨as,q1⟩:=V5 I dx x v r1 rx hs.1.1
 obtain ⟨bs,q2⟩:=V5 I dy y u r2 ry hs.2.1
 exact eq_dataH q1 q2 hs.1.2 hs.2.2 hu ⟨.bl _,H,I,rfl,k _ ρ B H Gr.refl W XZ⟩
def tPn (K:PySem.W.Frag) (g:List DV->M DV):List V->Hp->VK->Prop:=fun xs H Q=>∃ ρ B hp ds d hp',WOk K ρ B hp H/\RepL K ρ B H ds xs/\g ds hp=some (d,hp')/\Fol K ρ B H d hp' Q
def Zl (g:List DV->M DV) (a:DAx):DEx:=fun env=>do g (<- a env)
theorem vg {K:PySem.W.Frag} {g:List DV->M DV} {fa:DAx} {σ:St} {H:Hp} {Q:VK} (h:tD K (Zl g fa) σ H Q):tCB (tPn K g) (tDA K fa) σ H Q:=by
 obtain ⟨Z,env,ρ,B,hp,d,hp',S,e,k⟩:=h
 obtain ⟨ds,hp1,e1,e2⟩:=Qj e
 exact tDA.run S e1 fun vs ρ1 B1 H1 g1 S1 r1=>⟨ρ1,B1,hp1,ds,d,hp',S1.wo,r1,e2,k.after g1⟩
theorem Jh {x:Str} {id:String} {g:List DV->M DV} {e:Expr} {es:List Expr} {fa:DAx} {p:Pos} (hc:CallR X (.builtin id) (tPn X.K g)) (hm:X.mg x=none) (hv:bootBuiltins x=some (.builtin id)) (ha:DA X (e::es) fa) (hg:Gl X x:=by rfl) (hn:x ≠ "__name__" := by decide) (hdb:(x==("__debug__" : Str))=false:=by decide)
  (he:starEach (e::es) X.env=(false,eval e X.env)::starEach es X.env:=by rfl) (hpl:(backTo pos (starEach es X.env)).any (·.1)=false:=by rfl):DE X (.Call (.Name x p) (e::es) [] pos) (Zl g fa) :=
 L2.PE.imp (vI hc hg hm hv ha hn hdb he hpl) fun _ _ _ h=>vg h
theorem jl {x:Str} {T:String} {g:List DV->M DV} {e:Expr} {es:List Expr} {fa:DAx} {p:Pos} (hc:CallR X (.type T) (tPn X.K g)) (hm:X.mg x=none) (hv:bootBuiltins x=some (.type T)) (ha:DA X (e::es) fa) (hg:Gl X x:=by rfl) (hn:x ≠ "__name__" := by decide) (hdb:(x==("__debug__" : Str))=false:=by decide)
  (he:starEach (e::es) X.env=(false,eval e X.env)::starEach es X.env:=by rfl) (hpl:(backTo pos (starEach es X.env)).any (·.1)=false:=by rfl):DE X (.Call (.Name x p) (e::es) [] pos) (Zl g fa) :=
 L2.PE.imp (Qa9 hc hg hm hv ha hn hdb he hpl) fun _ _ _ h=>vg h
theorem RepL.oneI {K:PySem.W.Frag} {ρ:List Addr} {B:Addr->Prop} {H:Hp} {d:DV} {vs:List V} (h:RepL K ρ B H [d] vs):∃ v,vs=[v]/\RepV K ρ B H d v:=by
 unfold RepL at h
 obtain ⟨x,r,rfl,h1,h2⟩:=h
 unfold RepL at h2;subst h2
 exact ⟨x,rfl,h1⟩
def qH:List DV->M DV
 | [.tup ds]=>pure (.int ds.length)
 | [.lst ds]=>pure (.int ds.length)
 | _=>failure
theorem ki:CallR X (.builtin "len") (tPn X.K qH):=by
 intro pins s σ H xs us Q I r h
 obtain ⟨ρ,B,hp,ds,d,hp',W,rl,e,k⟩:=h
 unfold qH at e
 split at e
 ·obtain ⟨rfl,rfl⟩:=Qo e
  obtain ⟨v,rfl,rv⟩:=rl.oneI
  obtain ⟨a,ys,rfl,_,sq,l⟩:=rv.tupI
  exact qA pins s σ H _ us Q I r ⟨a,ys,rfl,.inr sq,by rw [<- l.length];exact k _ ρ B H Gr.refl W JH⟩
 ·obtain ⟨rfl,rfl⟩:=Qo e
  obtain ⟨v,rfl,rv⟩:=rl.oneI
  obtain ⟨a,ys,rfl,_,sq,l⟩:=rv.lstI
  exact qA pins s σ H _ us Q I r ⟨a,ys,rfl,.inl sq,by rw [<- l.length];exact k _ ρ B H Gr.refl W JH⟩
 ·cases e
def Gu:List DV->M DV
 | [.int i,.int j]=>pure (.int (if j < i then j else i))
 | _=>failure
theorem QbM (hc:X.calm=true):CallR X (.builtin "min") (tPn X.K Gu):=by
 intro pins s σ H xs us Q I r h
 obtain ⟨ρ,B,hp,ds,d,hp',W,rl,e,k⟩:=h
 unfold Gu at e
 split at e
 ·obtain ⟨rfl,rfl⟩:=Qo e
  exact QaN hc pins s σ H xs us Q I r ⟨_,_,rl.ints2,k _ ρ B H Gr.refl W JH⟩
 ·cases e
def vA:List DV->M DV
 | [.int i]=>pure (.int i)
 | [.bl k]=>pure (.int (if k then 1 else 0))
 | _=>failure
theorem Qe1:CallR X (.type "int") (tPn X.K vA):=by
 intro pins s σ H xs us Q I r h
 obtain ⟨ρ,B,hp,ds,d,hp',W,rl,e,k⟩:=h
 unfold vA at e
 split at e
 ·obtain ⟨rfl,rfl⟩:=Qo e
  exact U6 pins s σ H xs us Q I r (.inl ⟨_,rl.ints1,k _ ρ B H Gr.refl W JH⟩)
 ·obtain ⟨rfl,rfl⟩:=Qo e
  obtain ⟨v,rfl,rv⟩:=rl.oneI
  obtain rfl:=rv.blI
  exact U6 pins s σ H _ us Q I r (.inr ⟨_,rfl,k _ ρ B H Gr.refl W JH⟩)
 ·cases e
def Qgq:List DV->M DV
 | [.lst ds]=>pure (.tup ds)
 | [.tup ds]=>pure (.tup ds)
 | _=>failure
theorem QdI:CallR X (.type "tuple") (tPn X.K Qgq):=by
 intro pins s σ H xs us Q I r h
 obtain ⟨ρ,B,hp,ds,d,hp',W,rl,e,k⟩:=h
 unfold Qgq at e
 split at e
 ·obtain ⟨rfl,rfl⟩:=Qo e
  obtain ⟨v,rfl,rv⟩:=rl.oneI
  obtain ⟨a,ys,rfl,_,sq,l⟩:=rv.lstI
  exact YM pins s σ H _ us Q I r ⟨a,ys,rfl,.inl ⟨sq,xg W l k⟩⟩
 ·obtain ⟨rfl,rfl⟩:=Qo e
  obtain ⟨v,rfl,rv⟩:=rl.oneI
  obtain ⟨a,ys,rfl,nb,sq,l⟩:=rv.tupI
  exact YM pins s σ H _ us Q I r ⟨a,ys,rfl,.inr ⟨sq,k _ ρ B H Gr.refl W (zY nb sq l)⟩⟩
 ·cases e
def gP:DV->Option String
 | .non=>some "NoneType"
 | .bl _=>some "bool"
 | .int _=>some "int"
 | .str _=>some "str"
 | .tup _=>some "tuple"
 | .lst _=>some "list"
 | .ref _=>none
def QdY (t T:String):Bool:=t==T||(t == "bool" && T == "int")
def vh (T:String) (f:DEx):DEx:=fun env=>do
 match gP (<- f env) with
 | some t=>pure (.bl (QdY t T))
 | none=>failure
theorem QgI {T:String} (hT:T∈["int", "bool", "tuple", "str", "list"]):CallR X (.builtin "isinstance") (fun xs H Q=>∃ ρ B d x t,xs=[x,.ty T]/\RepV X.K ρ B H d x/\gP d=some t/\Q (.bl (QdY t T)) H):=by
  intro pins s σ H xs us Q I r h
  obtain ⟨ρ,B,d,x,t,rfl,rv,ht,q⟩:=h
  obtain ⟨u,w',rfl,ru,rw'⟩:=Qdt r
  cases rw'
  have fin:∀ tk,EP X pins σ Q (.bool (QdY t T)) { s with toks:=tk }:=fun tk=>⟨.bl _,H,I.tok _,rfl,q⟩
  have kit:PySem.W.kitOne X.K (.type t) (.type T)=some (QdY t T):=by
    have:t∈["NoneType", "bool", "int", "str", "tuple", "list"]:=by
      cases d<;>cases ht<;>simp
    simp only [List.mem_cons,List.not_mem_nil,or_false] at this hT
    rcases this with rfl | rfl | rfl | rfl | rfl | rfl<;>rcases hT with rfl | rfl | rfl | rfl | rfl<;>first | rfl | decide | with_unfolding_all rfl | kernel_rfl
  cases d with
  | non=>obtain rfl:=rv.nonI;cases ht;cases ru;exact PySem.W.kia_one PySem.W.kitx_none I.kIn True.intro kit (fun z=>nomatch z) fin
  | bl b=>obtain rfl:=rv.blI;cases ht;cases ru;exact PySem.W.kia_one PySem.W.kitx_bool I.kIn True.intro kit (fun z=>nomatch z) fin
  | int b=>obtain rfl:=rv.intI;cases ht;obtain ⟨tk,rfl⟩:=ru;exact PySem.W.kia_one PySem.W.kitx_int I.kIn True.intro kit (fun z=>nomatch z) fin
  | str b=>obtain rfl:=rv.strI;cases ht;obtain ⟨tk,rfl⟩:=ru;exact PySem.W.kia_one PySem.W.kitx_str I.kIn True.intro kit (fun z=>nomatch z) fin
  | ref b=>cases ht
  | tup b =>
    cases ht
    obtain ⟨a,ys,rfl,_,sq,_⟩:=rv.tupI
    cases ru
    obtain ⟨its,_,⟨o,e1,e2,_⟩,_⟩:=I.tuple sq
    exact PySem.W.kia_one PySem.W.kitx_tuple I.kIn ⟨o,e1,e2⟩ kit (fun z=>nomatch z) fin
  | lst b =>
    cases ht
    obtain ⟨a,ys,rfl,_,sq,_⟩:=rv.lstI
    cases ru
    obtain ⟨its,_,⟨o,k,e1,e2,_⟩,_⟩:=I.list sq
    exact PySem.W.kia_one PySem.W.kitx_list I.kIn ⟨o,e1,e2⟩ kit (fun z=>nomatch z) fin
theorem jA {T:String} {p p':Pos} (hm:X.mg "isinstance" = none) (hm':X.mg (Str.ofString T)=none) (hv:bootBuiltins (Str.ofString T)=some (.type T)) (hT:T∈["int", "bool", "tuple", "str", "list"]) (h:DE X e f) (hg:Gl X "isinstance" := by rfl) (hg':Gl X (Str.ofString T):=by rfl)
    (hn:Str.ofString T ≠ "__name__" := by decide) (hdb:(Str.ofString T==("__debug__" : Str))=false:=by decide) (hs:starEach [e,.Name (Str.ofString T) p'] X.env=(false,eval e X.env)::starEach [.Name (Str.ofString T) p'] X.env:=by rfl)
    (hs2:starEach [.Name (Str.ofString T) p'] X.env=(false,eval (.Name (Str.ofString T) p') X.env)::starEach [] X.env:=by rfl) (hpl:(backTo pos (starEach [.Name (Str.ofString T) p'] X.env)).any (·.1)=false:=by rfl):DE X (.Call (.Name "isinstance" p) [e,.Name (Str.ofString T) p'] [] pos) (vh T f) :=
  L2.PE.imp (vI (QgI hT) hg hm boot_isinstance (X9 h (X9 (Qef (v:=.ty T) hg' hm' hv rfl hn hdb) pa_nil hs2) hs) (by decide) (by decide) hs hpl) fun σ H Q ⟨Z,env,ρ,B,hp,d,hp',S,e,k⟩=>by
    obtain ⟨x,hp1,e1,e2⟩:=Qj e
    refine tD.run S e1 fun v ρ1 B1 H1 g1 S1 r1=>?_
    cases q:gP x with
    | none=>rw [q] at e2;cases e2
    | some t =>
      rw [q] at e2
      obtain ⟨rfl,rfl⟩:=Qo e2
      exact ⟨ρ1,B1,x,v,t,rfl,r1,q,k _ ρ1 B1 H1 g1 S1.wo XZ⟩
def qD (g g':DV->DV->M DV) (fa fb fc:DEx):DEx:=fun env=>do
 let x <- fa env
 let y <- fb env
 let z <- g x y
 if <- asB z then
  let u <- fc env
  g' y u
 else pure (.bl false)
end
end D
namespace D
open PySem PySem.Spec PyProof.Rows L2
section
variable {X:Cx} {e a b c:Expr} {f fa fb fc:DEx} {ca cb:DTx} {pos:Pos}
theorem uS {K:PySem.W.Frag} {g g':DV->DV->M DV} {σ:St} {H:Hp} {Q:VK} (h:tD K (qD g g' fa fb fc) σ H Q):Qdn (tP2 K g) (tP2 K g') (tD K fa) (tD K fb) (tD K fc) σ H Q:=by
  obtain ⟨Z,env,ρ,B,hp,d,hp',S,e,k⟩:=h
  obtain ⟨x,hp1,e1,e⟩:=Qj e
  obtain ⟨y,hp2,e2,e⟩:=Qj e
  obtain ⟨z,hp3,e3,e⟩:=Qj e
  obtain ⟨t,hp4,e4,e⟩:=Qj e
  obtain ⟨rfl,rfl⟩:=YZ e4
  refine tD.run S e1 fun v ρ1 B1 H1 g1 S1 r1=>tD.run S1 e2 fun u ρ2 B2 H2 g2 S2 r2=>?_
  refine ⟨ρ2,B2,hp2,x,y,_,_,S2.wo,RepV.grow S1.wo.rb g2 _ _ r1,r2,e3,fun w ρ3 B3 H3 g3 W3 r3=>⟨t,r3.blI,?_⟩⟩
  have S3:=S2.grow g3 W3
  cases t with
  | false =>
    obtain ⟨rfl,rfl⟩:=Qo e
    exact uV (k _ ρ3 B3 H3 (g1.trans (g2.trans g3)) W3 XZ)
  | true =>
    obtain ⟨q,hp5,e5,e6⟩:=Qj e
    refine uW (tD.run S3 e5 fun p ρ4 B4 H4 g4 S4 r4=>?_)
    exact ⟨ρ4,B4,hp5,y,q,d,hp',S4.wo,RepV.grow S3.wo.rb g4 _ _ (RepV.grow S2.wo.rb g3 _ _ r2),r4,e6,k.after (g1.trans (g2.trans (g3.trans g4)))⟩
theorem ve {op op':CmpOp} {g g':DV->DV->M DV} (ho:P2 X (compareOp op) g) (ho':P2 X (compareOp op') g') (ha:DE X a fa) (hb:DE X b fb) (hc:DE X c fc) (hm:lastMarks [op,op'] [b,c]=false:=by with_unfolding_all rfl):DT X (.Compare a [op,op'] [b,c] pos) (eB (qD g g' fa fb fc)) :=
 L2.PT.imp (QcS ho ho' ha hb hc hm) fun σ H Q ⟨Z,env,ρ,B,hp,d,hp',S,e,k⟩=>by
  obtain ⟨x,hp1,e1,e2⟩:=Qj e
  obtain ⟨rfl,rfl⟩:=YZ e2
  exact uS (tD.run S e1 fun v ρ1 B1 H1 g1 S1 r1=>⟨d,r1.blI,k ρ1 B1 H1 g1 S1.wo⟩)
abbrev DOx:=En->M (Option Int)
def tDO (K:PySem.W.Frag) (f:DOx):TO:=fun σ H Q=>∃ Z env ρ B hp d hp',SOk K Z env σ ρ B hp H/\f env hp=some (d,hp')/\QgA K ρ B H hp' (Q d)
def DO (X:Cx) (e:Option Expr) (f:DOx):Prop:=PO X e (tDO X.K f)
def Zj:DOx:=fun _=>pure none
def asI:DV->M Int
 | .int i=>pure i
 | _=>failure
theorem Vu {d:DV} {c:Int} {hp hp':Hs} (h:asI d hp=some (c,hp')):d=.int c/\hp=hp':=by
 cases d with
 | int b=>obtain ⟨rfl,rfl⟩:=Qo h;exact ⟨rfl,rfl⟩
 | _=>cases h
def Zk (f:DEx):DOx:=fun env=>do let i <- asI (<- f env);pure (some i)
theorem ZZ:DO X none Zj:=fun pins s σ H Q I ⟨Z,env,ρ,B,hp,d,hp',S,e,k⟩=>by
 obtain ⟨rfl,rfl⟩:=Qo e
 exact Qep pins s σ H Q I (k ρ B H Gr.refl S.wo)
theorem Z0 (h:DE X e f):DO X (some e) (Zk f):=fun pins s σ H Q I ⟨Z,env,ρ,B,hp,d,hp',S,e,k⟩=>by
 obtain ⟨x,hp1,e1,e2⟩:=Qj e
 obtain ⟨i,hp2,e3,e4⟩:=Qj e2
 obtain ⟨rfl,rfl⟩:=Vu e3
 obtain ⟨rfl,rfl⟩:=Qo e4
 exact Qeq h pins s σ H Q I (tD.run S e1 fun v ρ1 B1 H1 g1 S1 r1=>⟨i,r1.intI,k ρ1 B1 H1 g1 S1.wo⟩)
theorem tDO.run {K:PySem.W.Frag} {f:DOx} {Z:Ent} {env:En} {σ:St} {ρ:List Addr} {B:Addr->Prop} {hp hp1:Hs} {H:Hp} {d:Option Int} {Q:Option Int->Hp->Prop} (S:SOk K Z env σ ρ B hp H) (e:f env hp=some (d,hp1))
  (k:∀ ρ' B' H',Gr K ρ B H ρ' B' H'->SOk K Z env σ ρ' B' hp1 H'->Q d H'):tDO K f σ H Q :=
 ⟨Z,env,ρ,B,hp,d,hp1,S,e,fun ρ' B' H' g W=>k ρ' B' H' g (S.grow g W)⟩
def yZ (ds:List DV) (lo hi:Option Int):List DV:=(ds.drop (HT.sIx ds.length 0 lo)).take (HT.sIx ds.length ds.length hi - HT.sIx ds.length 0 lo)
theorem G7 {K:PySem.W.Frag} {ρ:List Addr} {B:Addr->Prop} {H:Hp} {ds:List DV} {xs:List V} {lo hi:Option Int} (r:RepL K ρ B H ds xs):RepL K ρ B H (yZ ds lo hi) (G8 xs lo hi):=by
 unfold yZ G8
 rw [r.length]
 exact RepL.take _ (RepL.drop _ r)
def slD (d:DV) (lo hi:Option Int):M DV:=match d with
 | .lst ds=>pure (.lst (yZ ds lo hi))
 | .tup ds=>pure (.tup (yZ ds lo hi))
 | _=>failure
def eSl (f:DEx) (lo hi:DOx):DEx:=fun env=>do let d <- f env;let l <- lo env;let h <- hi env;slD d l h
def tPs (K:PySem.W.Frag):V->Option Int->Option Int->Hp->VK->Prop:=fun x lo hi H Q=>∃ ρ B hp d r hp',WOk K ρ B hp H/\RepV K ρ B H d x/\slD d lo hi hp=some (r,hp')/\Fol K ρ B H r hp' Q
theorem v8 {prog:Program} {w:World} {A:Around} {E:Value->Shared->Prop} {s:Shared} {t sl:Addr} {items:Array Value} {vl vu:Value} {lo hi:Option Int} {Q:Value->Shared->Prop} (ht:IsTup s.heap t items) (hs:s.heap.IsSliceOf sl vl vu .none) (pl:IsPart vl lo) (pu:IsPart vu hi)
  (h0:HT.sIx items.size 0 lo=0) (h1:HT.sIx items.size items.size hi=items.size) (h:Q (.ref t) s):wpAny (model prog w) A (getItem (.ref t) (.ref sl)) Q E s:=by
 obtain ⟨os,hos,hcs,hds⟩:=id hs
 have hTs:s.TypeIs (.ref sl) "slice" := ⟨os,hos,hcs⟩
 unfold getItem
 try with_reducible refine wpAny_holding ?_
 first | refine wpAny_bind (wpAny_pure ?_) | skip
 refine wpAny_bind (wpAny_sequenceKey ht.typeIs (by decide) ?_)
 refine wpAny_bind (wpAny_callSpecial?_slot (name:=Str.ofString "__getitem__") ht.typeIs PyProof.Rows.slot_tuple_getitem (wpAny_call_entry PyProof.Rows.slot_tuple_getitem ht.typeIs entry_tuple_getitem ?_ (args_tuple_getitem _ _)))
 show wpAny _ _ (Builtin.Tuple.tupleItemsOf (.ref t) >>= _) _ _ s
 refine wpAny_bind (tupleItemsOf_ ht ?_)
 refine wpAny_bind (wpAny_typeOf hTs ?_)
 rw [if_pos (by decide)]
 refine wpAny_bind (HT.sliceApplied_gen hs pl pu ?_)
 have yes:(((HT.sIx items.size 0 lo:Nat):Int)==0&&(1:Int)==1&&(HT.sIx items.size items.size hi - HT.sIx items.size 0 lo)==items.size)=true:=by rw [h0,h1];simp
 show wpAny _ _ (if (((HT.sIx items.size 0 lo:Nat):Int)==0&&(1:Int)==1&&(HT.sIx items.size items.size hi - HT.sIx items.size 0 lo)==items.size)=true then _ else _) _ _ s
 rw [if_pos yes]
 have ex:∀ {Q':Bool->Shared->Prop} {A':Around} {E':Value->Shared->Prop},Q' true s->wpAny (model prog w) A' (Builtin.Tuple.tupleIsExact (.ref t)) Q' E' s:=fun {Q' A' E'} q=>by
  unfold Builtin.Tuple.tupleIsExact
  exact wpAny_bind (wpAny_typeOf ht.typeIs (wpAny_pure (by rw [show (Value.type "tuple" == Value.type "tuple")=true from beq_self_eq_true _];exact q)))
 refine wpAny_bind (ex ?_)
 rw [if_pos rfl]
 first
  | exact wpAny_bind (wpAny_rule (wpAny_pure ⟨_,rfl,wpAny_pure h⟩))
  | exact wpAny_bind (wpAny_rule (wpAny_bind (wpAny_pure (wpAny_pure ⟨_,rfl,wpAny_pure h⟩))))
theorem QeM:SlR X (fun x lo hi H Q=>∃ a xs,x=.ref a/\SqT X.K H a xs/\(HT.sIx xs.length 0 lo=0/\HT.sIx xs.length xs.length hi=xs.length)/\Q (.ref a) H):=by
 intro pins s σ H x v vl vu lo hi sl Q I rx hs pl pu h
 obtain ⟨a,xs,rfl,hx,⟨h0,h1⟩,q⟩:=h
 cases rx
 obtain ⟨its,r,ht,hz⟩:=I.tuple hx
 have hlen:its.toArray.size=xs.length:=by rw [List.size_toArray];exact r.length.symm
 exact ⟨"tuple", _,PyProof.Rows.slot_tuple_getitem.lookup,ht.typeIs,v8 ht hs pl pu (by rw [hlen];exact h0) (by rw [hlen];exact h1) ⟨.ref a,H,I,rfl,q⟩⟩
theorem QaP {α:Type} (ds:List α) (i j:Nat) (h0:i=0) (h1:j=ds.length):(ds.drop i).take (j - i)=ds:=by subst h0 h1;simp
theorem QhK:SlR X (tPs X.K):=by
  intro pins s σ H x v vl vu lo hi sl Q I rx hs pl pu h
  obtain ⟨ρ,B,hp,d,r,hp',W,rv,e,k⟩:=h
  cases d with
  | lst ds =>
    obtain ⟨rfl,rfl⟩:=Qo e
    obtain ⟨a,xs,rfl,nb,sq,rl⟩:=rv.lstI
    exact QeL pins s σ H _ v vl vu lo hi sl Q I rx hs pl pu ⟨a,xs,rfl,sq,Vm W (G7 rl) k⟩
  | tup ds =>
    obtain ⟨rfl,rfl⟩:=Qo e
    obtain ⟨a,xs,rfl,nb,sq,rl⟩:=rv.tupI
    by_cases hw:HT.sIx xs.length 0 lo=0/\HT.sIx xs.length xs.length hi=xs.length
    . refine QeM pins s σ H _ v vl vu lo hi sl Q I rx hs pl pu ⟨a,xs,rfl,sq,hw,?_⟩
      have:yZ ds lo hi=ds:=by unfold yZ;exact QaP ds _ _ (by rw [rl.length];exact hw.1) (by rw [rl.length];exact hw.2)
      rw [this] at k
      exact k _ ρ B H Gr.refl W (zY nb sq rl)
    . exact Qgj pins s σ H _ v vl vu lo hi sl Q I rx hs pl pu ⟨a,xs,rfl,sq,hw,xg W (G7 rl) k⟩
  | non=>cases e
  | bl _=>cases e
  | int _=>cases e
  | str _=>cases e
  | ref _=>cases e
theorem J2 {lo hi:Option Expr} {ol oh:DOx} {p2:Pos} (h:DE X e f) (hl:DO X lo ol) (hh:DO X hi oh):DE X (.Subscript e (.Slice lo hi none p2) pos) (eSl f ol oh) :=
 L2.PE.imp (QcI QhK h hl hh) fun σ H Q ⟨Z,env,ρ,B,hp,d,hp',S,e,k⟩=>by
  obtain ⟨x,hp1,e1,e⟩:=Qj e
  obtain ⟨l,hp2,e2,e⟩:=Qj e
  obtain ⟨u,hp3,e3,e⟩:=Qj e
  refine tD.run S e1 fun v ρ1 B1 H1 g1 S1 r1=>tDO.run S1 e2 fun ρ2 B2 H2 g2 S2=>tDO.run S2 e3 fun ρ3 B3 H3 g3 S3=>?_
  exact ⟨ρ3,B3,hp3,x,d,hp',S3.wo,RepV.grow S1.wo.rb (g2.trans g3) _ _ r1,e,k.after (g1.trans (g2.trans g3))⟩
theorem QgQ {P:Program} {w:World} {K:PySem.W.Frag} {mg:Str->Option Value} {base:Heap} {x:Str} {stm:Stmt} {g:Addr} {fd:FuncData} {N ps:List Str} {k:Nat} {body:DSx} (F:Fun K x x stm g fd) (Sc:Qy N ps (Qs stm))
  (h:∀ (cdv:Value) (A:Around) (outer:List Env) (s:Shared) (H:Hp) (E:XK),Room k (A.deeper (envOfC x (Qs stm) s.heap.objs.size g cdv))->DSs (y0 CX0 P w K mg base N x (Qs stm) g cdv A outer s H E).nox (ZY stm) body) :
  zh P w K mg base CX0 (k+1) g fd ps (spD K ps.length (Zb N.length body)):=by
 refine F.ok Sc (fun vs H Q E h=>h.1) (fun cdv A outer s H vs Q E hr sp=>?_)
 obtain ⟨hn,ρ,B,hp,ds,d,hp',W,r,e,k⟩:=sp
 obtain ⟨⟨fl,env'⟩,hp1,e1,e2⟩:=Qj e
 refine ⟨_,h cdv A outer s H E hr,⟨ρ,B,H⟩,_,ρ,B,hp,fl,env',hp1,ym W r,e1,fun σ' ρ' B' H' g' S'=>?_⟩
 cases fl with
 | nx=>obtain ⟨rfl,rfl⟩:=Qo e2;exact k .non ρ' B' H' S'.gr S'.wo zX
 | rt x=>obtain ⟨rfl,rfl⟩:=Qo e2;exact fun v rv=>k v ρ' B' H' S'.gr S'.wo rv
 | bk=>cases e2
 | ct=>cases e2
theorem vL {K:PySem.W.Frag} {ρ:List Addr} {B:Addr->Prop} {H:Hp}:∀ ns:List Int,RepL K ρ B H (ns.map DV.int) (ns.map V.int)
 | []=>RepL.nil
 | _::r=>RepL.cons JH (vL r)
theorem QfH {K:PySem.W.Frag} {F:List DV->M DV} {H:Hp} {a:Addr} {ns:List Int} {E:XK} (h:∃ hp',F [.lst (ns.map .int)] []=some (.bl true,hp')) (hS:SqL K H a (ns.map V.int)):spD K 1 F [.ref a] H (fun v _=>v=.bl true) E:=by
 obtain ⟨hp',h⟩:=h
 refine ⟨rfl,[],fun _=>False,[],[.lst (ns.map .int)],.bl true,hp',⟨rfl,List.nodup_nil,fun i a o h=>by simp at h,fun a h=>absurd h (by simp),fun a h=>absurd h (fun z=>z),fun a h=>h.elim⟩,RepL.one (Gz (fun z=>z) hS (vL ns)),h,fun v _ _ _ _ _ r=>r.blI⟩
end
end D
namespace L2
open PySem PySem.Spec PyProof.Rows
section
variable {prog:Program} {w:World} {A:Around} {E:Value->Shared->Prop} {s:Shared}
theorem Yc {p q:Addr} {n:Nat} {xs:Array Value} {v:Value} {Q:Value->Shared->Prop} (a1:s.heap.IsTupleIter p q n) (a2:s.heap.IsTuple q xs) (a3:xs[n]?=some v)
  (k:∀ g,g.IsTupleIter p q (n+1)->Heap.SameBut p s.heap g->Q v { s with heap:=g }):wpAny (model prog w) A (Builtin.SmallTypes.nextOf (.ref p)) Q E s:=by
 obtain ⟨ob,b1,b2,b3⟩:=id a1
 obtain ⟨oq,b4,_,m,b5⟩:=a2
 unfold Builtin.SmallTypes.nextOf
 refine wpAny_bind (wpAny_callSpecial?_slot (name:=Str.ofString "__next__") a1.typeIs F.slot_tuple_iterator_next (wpAny_call_entry F.slot_tuple_iterator_next a1.typeIs F.entry_tuple_iterator_next ?_ (F.args_tuple_iterator_next_1 _)))
 show wpAny _ _ (field (.ref p) 0 >>= _) _ _ s
 refine wpAny_bind (wpAny_field b1 b3 (x:=.ref q) rfl ?_)
 show wpAny _ _ (if (Value.ref q==Value.none)=true then _ else _) _ _ s
 rw [if_neg (show ¬ ((Value.ref q==Value.none)=true) from Bool.false_ne_true)]
 show wpAny _ _ (field (.ref p) 1 >>= _) _ _ s
 refine wpAny_bind (wpAny_field b1 b3 (x:=.int n 0) rfl ?_)
 show wpAny _ _ (seqItems? (.ref q) >>= _) _ _ s
 refine wpAny_bind (wpAny_seqItems b4 b5 ?_)
 simp only [Int.toNat_natCast,a3]
 refine wpAny_bind (wpAny_setField b1 b3 (by simp) (wpAny_pure ⟨v,rfl,wpAny_pure (k _ ?_ (Heap.SameBut.update ..))⟩))
 exact ⟨_,Heap.get?_update_self _ b1 (Obj.isFreed_of_fields (Obj.data_mapFields b3 _)),(Obj.cls_mapFields ..).trans b2,by rw [Obj.data_mapFields b3];simp [rawInt]⟩
theorem yv {p q:Addr} {n:Nat} {xs:Array Value} {Q:Value->Shared->Prop} (hh:A.handled=none) (a1:s.heap.IsTupleIter p q n) (a2:s.heap.IsTuple q xs) (a3:xs[n]?=none)
  (k:∀ g x,Heap.ExtBut p s.heap g->(∃ o,g.get? x=some o/\o.cls=.type "StopIteration")->E (.ref x) { s with heap:=g }):wpAny (model prog w) A (Builtin.SmallTypes.nextOf (.ref p)) Q E s:=by
 obtain ⟨ob,b1,b2,b3⟩:=id a1
 obtain ⟨oq,b4,_,m,b5⟩:=a2
 unfold Builtin.SmallTypes.nextOf
 refine wpAny_bind (wpAny_callSpecial?_slot (name:=Str.ofString "__next__") a1.typeIs F.slot_tuple_iterator_next (wpAny_call_entry F.slot_tuple_iterator_next a1.typeIs F.entry_tuple_iterator_next ?_ (F.args_tuple_iterator_next_1 _)))
 show wpAny _ _ (field (.ref p) 0 >>= _) _ _ s
 refine wpAny_bind (wpAny_field b1 b3 (x:=.ref q) rfl ?_)
 show wpAny _ _ (if (Value.ref q==Value.none)=true then _ else _) _ _ s
 rw [if_neg (show ¬ ((Value.ref q==Value.none)=true) from Bool.false_ne_true)]
 show wpAny _ _ (field (.ref p) 1 >>= _) _ _ s
 refine wpAny_bind (wpAny_field b1 b3 (x:=.int n 0) rfl ?_)
 show wpAny _ _ (seqItems? (.ref q) >>= _) _ _ s
 refine wpAny_bind (wpAny_seqItems b4 b5 ?_)
 simp only [Int.toNat_natCast,a3]
 refine wpAny_bind (wpAny_rule (wpAny_bind (wpAny_setField b1 b3 (by simp) ?_)))
 show wpAny _ _ (newExc (.type "StopIteration") [] >>= _) _ _ _
 refine wpAny_bind ?_
 simp only [newExc,newTuple]
 refine wpAny_bind (wpAny_newObj_type ?_ (by size_fits))
 refine wpAny_bind (m:=firstArgMember _ _) (wpAny_of_eq (a:=Value.none) (by first | rfl | (simp only [firstArgMember];rfl)) ?_)
 refine wpAny_newObj_type ?_ (by size_fits)
 simp only [raiseNew]
 refine wpAny_bind (wpAny_handled ?_)
 first | rw [show A.in1.handled=none from hh] | rw [hh]
 refine wpAny_bind (wpAny_pure (wpAny_throw ?_))
 exact k _ _ (((Heap.SameBut.update ..).extBut.push _).push _) ⟨_,Heap.get?_push_size _ rfl,rfl⟩
structure ZA (z p o i j a b:Addr):Prop where
 pz:p≠z
 oz:o≠z
 iz:i≠z
 jz:j≠z
 po:p≠o
 pi:p≠i
 pj:p≠j
 oi:o≠i
 oj:o≠j
 ij:i≠j
 az:a≠z
 ao:a≠o
 ai:a≠i
 aj:a≠j
 bz:b≠z
 bo:b≠o
 bi:b≠i
 bj:b≠j
structure ZS (h:Heap) (z p o i j a b:Addr) (n:Nat) (f:Value):Prop where
 zz:IsZip h z p o f
 pp:IsPair h p (.ref i) (.ref j)
 oo:∃ x y,IsPair h o x y
 ii:h.IsTupleIter i a n
 jj:h.IsTupleIter j b n
theorem QeZ {z p o i j a b:Addr} {n:Nat} {xs ys:Array Value} {x y:Value} {Q:Value->Shared->Prop} (D:ZA z p o i j a b) (S:ZS s.heap z p o i j a b n .none) (ha:s.heap.IsTuple a xs) (hb:s.heap.IsTuple b ys) (hx:xs[n]?=some x) (hy:ys[n]?=some y)
  (k:∀ g,ZS g z p o i j a b (n+1) (rawInt s.heap.objs.size)->IsPair g s.heap.objs.size x y->g.objs.size=s.heap.objs.size+1->(∀ c u,c≠z->c≠o->c≠i->c≠j->s.heap.get? c=some u->g.get? c=some u)->Q (.ref s.heap.objs.size) { s with heap:=g }) :
  wpAny (model prog w) A (Builtin.«zip.__next__» ⟨[.ref z],[]⟩) (fun fin s'=>∃ v,fin=.done (.ret v)/\Q v s') E s:=by
 obtain ⟨zz,pp,⟨u1,u2,oo⟩,ii,jj⟩:=S
 show wpAny _ _ (field (.ref z) 2 >>= _) _ _ _
 refine wpAny_bind (wpAny_field zz rfl (x:=.bool false) rfl ?_)
 show wpAny _ _ (field (.ref z) 3 >>= _) _ _ _
 refine wpAny_bind (wpAny_field zz rfl (x:=.ref p) rfl ?_)
 refine wpAny_bind (wpAny_seqItems pp rfl ?_)
 show wpAny _ _ (Builtin.SmallTypes.ownedTupleIsFree (.ref z) >>= _) _ _ _
 refine wpAny_bind ?_
 unfold Builtin.SmallTypes.ownedTupleIsFree
 refine wpAny_bind (wpAny_field zz rfl (x:=.none) rfl (wpAny_pure ?_))
 simp only [if_true]
 refine wpAny_bind (wpAny_rule ?_)
 refine wpAny_bind (wpAny_field zz rfl (x:=.ref o) rfl ?_)
 refine wpAny_bind (wpAny_setField_rec zz (by simp) fun g1 z1 k1=>?_)
 replace z1:IsZip g1 z p o .ellipsis:=z1
 refine wpAny_bind ?_
 simp only [List.zipIdx_cons,List.zipIdx_nil,List.forIn_cons,List.forIn_nil]
 refine wpAny_bind (wpAny_bind (wpAny_onRaise ?_))
 show wpAny _ _ (Builtin.SmallTypes.nextOf (.ref i) >>= _) _ _ _
 have ht:∀ {g g':Heap} {q c:Addr} {vs:Array Value},Heap.SameBut q g g'->c≠q->g.IsTuple c vs->g'.IsTuple c vs:=fun {g g' q c vs} sb hc ⟨ob,e,r⟩=>⟨ob,sb.extBut _ _ hc e,r⟩
 refine wpAny_bind (Yc (ii.extBut k1.extBut D.iz) (ht k1 D.az ha) hx fun g2 i2 k2=>wpAny_pure ?_)
 have o2:IsPair g2 o u1 u2:=k2.extBut _ _ D.oi (k1.extBut _ _ D.oz oo)
 refine wpAny_bind (wpAny_seqItems o2 rfl ?_)
 refine wpAny_bind (wpAny_updateSeq_pair o2 fun g3 o3 k3=>?_)
 replace o3:IsPair g3 o x u2:=o3
 refine wpAny_bind (wpAny_letGo (wpAny_pure ?_))
 refine wpAny_bind (wpAny_bind (wpAny_onRaise ?_))
 show wpAny _ _ (Builtin.SmallTypes.nextOf (.ref j) >>= _) _ _ _
 refine wpAny_bind (Yc (((jj.extBut k1.extBut D.jz).extBut k2.extBut D.ij.symm).extBut k3.extBut D.oj.symm) (ht k3 D.bo (ht k2 D.bi (ht k1 D.bz hb))) hy fun g4 j4 k4=>wpAny_pure ?_)
 have o4:IsPair g4 o x u2:=k4.extBut _ _ D.oj o3
 refine wpAny_bind (wpAny_seqItems o4 rfl ?_)
 refine wpAny_bind (wpAny_updateSeq_pair o4 fun g5 o5 k5=>?_)
 replace o5:IsPair g5 o x y:=o5
 refine wpAny_bind (wpAny_letGo (wpAny_pure (wpAny_pure ?_)))
 refine wpAny_bind (wpAny_seqItems o5 rfl ?_)
 refine wpAny_bind (wpAny_newTuple ?_)
 have sz:g5.objs.size=s.heap.objs.size:=by rw [k5.1,k4.1,k3.1,k2.1,k1.1]
 have z5:IsZip g5 z p o .ellipsis:=k5.extBut _ _ D.oz.symm (k4.extBut _ _ D.jz.symm (k3.extBut _ _ D.oz.symm (k2.extBut _ _ D.iz.symm z1)))
 have kk:∀ c u,c≠z->c≠o->c≠i->c≠j->s.heap.get? c=some u->g5.get? c=some u:=fun c u c1 c2 c3 c4 e=>k5.extBut _ _ c2 (k4.extBut _ _ c4 (k3.extBut _ _ c2 (k2.extBut _ _ c3 (k1.extBut _ _ c1 e))))
 have i5:g5.IsTupleIter i a (n+1):=((i2.extBut k3.extBut D.oi.symm).extBut k4.extBut D.ij).extBut k5.extBut D.oi.symm
 have j5:g5.IsTupleIter j b (n+1):=j4.extBut k5.extBut D.oj.symm
 have zl:z < g5.objs.size:=Heap.lt_size z5
 show wpAny _ _ (Builtin.SmallTypes.ownedTupleHandOut (.ref z) (.ref g5.objs.size) >>= _) _ _ _
 refine wpAny_bind ?_
 unfold Builtin.SmallTypes.ownedTupleHandOut
 have z6:IsZip (g5.push { cls:=.type "tuple", data:=.seq #[x,y] }) z p o .ellipsis:=Heap.get?_push_of_some _ z5
 refine wpAny_bind (wpAny_setField_rec z6 (by simp) fun g7 z7 k7=>?_)
 replace z7:IsZip g7 z p o (rawInt g5.objs.size):=z7
 refine wpAny_setField_rec z7 (by simp) fun g8 z8 k8=>?_
 replace z8:IsZip g8 z p o (rawInt g5.objs.size):=z8
 have up:∀ c u,c≠z->g5.get? c=some u->g8.get? c=some u:=fun c u c1 e=>k8.extBut _ _ c1 (k7.extBut _ _ c1 (Heap.get?_push_of_some _ e))
 have t8:IsPair g8 g5.objs.size x y:=k8.extBut _ _ (Nat.ne_of_gt zl) (k7.extBut _ _ (Nat.ne_of_gt zl) (Heap.get?_push_size _ rfl))
 have s8:g8.objs.size=g5.objs.size+1:=by rw [k8.1,k7.1,Heap.size_push]
 rw [sz] at z8 t8 s8
 refine wpAny_pure ⟨_,rfl,?_⟩
 show Q (.ref g5.objs.size) _
 rw [sz]
 exact k g8 ⟨z8,up _ _ D.pz (kk _ _ D.pz D.po D.pi D.pj pp),⟨x,y,up _ _ D.oz o5⟩,i5.at fun u e=>up _ u D.iz e,j5.at fun u e=>up _ u D.jz e⟩ t8 s8 fun c u c1 c2 c3 c4 e=>up c u c1 (kk c u c1 c2 c3 c4 e)
theorem Qe0 {z p o i j a b:Addr} {n:Nat} {xs ys:Array Value} {Q:PySem.Fin->Shared->Prop} (hh:A.handled=none) (D:ZA z p o i j a b) (S:ZS s.heap z p o i j a b n .none) (ha:s.heap.IsTuple a xs) (hb:s.heap.IsTuple b ys) (he:xs[n]?=none∨ys[n]?=none)
    (k:∀ g x,(∀ c u,c≠z->c≠o->c≠i->c≠j->s.heap.get? c=some u->g.get? c=some u)->(∃ u,g.get? x=some u/\u.cls=.type "StopIteration")->E (.ref x) { s with heap:=g }) :
    wpAny (model prog w) A (Builtin.«zip.__next__» ⟨[.ref z],[]⟩) Q E s:=by
  obtain ⟨zz,pp,⟨u1,u2,oo⟩,ii,jj⟩:=S
  have ht:∀ {g g':Heap} {q c:Addr} {vs:Array Value},Heap.SameBut q g g'->c≠q->g.IsTuple c vs->g'.IsTuple c vs:=fun {g g' q c vs} sb hc ⟨ob,e,r⟩=>⟨ob,sb.extBut _ _ hc e,r⟩
  show wpAny _ _ (field (.ref z) 2 >>= _) _ _ _
  refine wpAny_bind (wpAny_field zz rfl (x:=.bool false) rfl ?_)
  show wpAny _ _ (field (.ref z) 3 >>= _) _ _ _
  refine wpAny_bind (wpAny_field zz rfl (x:=.ref p) rfl ?_)
  refine wpAny_bind (wpAny_seqItems pp rfl ?_)
  show wpAny _ _ (Builtin.SmallTypes.ownedTupleIsFree (.ref z) >>= _) _ _ _
  refine wpAny_bind ?_
  unfold Builtin.SmallTypes.ownedTupleIsFree
  refine wpAny_bind (wpAny_field zz rfl (x:=.none) rfl (wpAny_pure ?_))
  simp only [if_true]
  refine wpAny_bind (wpAny_rule ?_)
  refine wpAny_bind (wpAny_field zz rfl (x:=.ref o) rfl ?_)
  refine wpAny_bind (wpAny_setField_rec zz (by simp) fun g1 z1 k1=>?_)
  replace z1:IsZip g1 z p o .ellipsis:=z1
  refine wpAny_bind ?_
  simp only [List.zipIdx_cons,List.zipIdx_nil,List.forIn_cons,List.forIn_nil]
  refine wpAny_bind (wpAny_bind (wpAny_onRaise ?_))
  show wpAny _ _ (Builtin.SmallTypes.nextOf (.ref i) >>= _) _ _ _
  cases hx:xs[n]? with
  | none =>
    refine wpAny_bind (yv hh (ii.extBut k1.extBut D.iz) (ht k1 D.az ha) hx fun g2 x k2 h2=>?_)
    obtain ⟨oe,h3,h4⟩:=h2
    have z2:IsZip g2 z p o .ellipsis:=k2 _ _ D.iz.symm z1
    have xz:x≠z:=fun q=>by subst q;rw [z2] at h3;cases h3;simp at h4
    exact wpAny_setField_rec z2 (by simp) fun g3 _ k3=>k g3 x (fun c u c1 _ c3 _ e=>k3.extBut _ _ c1 (k2 _ _ c3 (k1.extBut _ _ c1 e))) ⟨oe,k3.extBut _ _ xz h3,h4⟩
  | some x0 =>
    have hy:ys[n]?=none:=by rcases he with h | h;rw [hx] at h;cases h;exact h
    refine wpAny_bind (Yc (ii.extBut k1.extBut D.iz) (ht k1 D.az ha) hx fun g2 i2 k2=>wpAny_pure ?_)
    have o2:IsPair g2 o u1 u2:=k2.extBut _ _ D.oi (k1.extBut _ _ D.oz oo)
    refine wpAny_bind (wpAny_seqItems o2 rfl ?_)
    refine wpAny_bind (wpAny_updateSeq_pair o2 fun g3 o3 k3=>?_)
    refine wpAny_bind (wpAny_letGo (wpAny_pure ?_))
    refine wpAny_bind (wpAny_bind (wpAny_onRaise ?_))
    show wpAny _ _ (Builtin.SmallTypes.nextOf (.ref j) >>= _) _ _ _
    refine wpAny_bind (yv hh (((jj.extBut k1.extBut D.jz).extBut k2.extBut D.ij.symm).extBut k3.extBut D.oj.symm) (ht k3 D.bo (ht k2 D.bi (ht k1 D.bz hb))) hy fun g4 x k4 h2=>?_)
    obtain ⟨oe,h3,h4⟩:=h2
    have z4:IsZip g4 z p o .ellipsis:=k4 _ _ D.jz.symm (k3.extBut _ _ D.oz.symm (k2.extBut _ _ D.iz.symm z1))
    have xz:x≠z:=fun q=>by subst q;rw [z4] at h3;cases h3;simp at h4
    exact wpAny_setField_rec z4 (by simp) fun g5 _ k5=>k g5 x (fun c u c1 c2 c3 c4 e=>k5.extBut _ _ c1 (k4 _ _ c4 (k3.extBut _ _ c2 (k2.extBut _ _ c3 (k1.extBut _ _ c1 e))))) ⟨oe,k5.extBut _ _ xz h3,h4⟩
end
end L2
namespace L2
open PySem PySem.Spec PyProof.Rows
section
variable {X:Cx} {pins:List (Addr×Obj)} {σ:L2.St} {H:Hp} {s:Shared} {h':Heap}
theorem Inv.turnL {t':Nat} {fp:List Addr} (I:Inv X pins σ H s) (hf:∀ b∈fp,yW X pins H b) (k:∀ b o,b∉fp->s.heap.get? b=some o->h'.get? b=some o):Inv X pins σ H { s with heap:=h',toks:=t' }:=by
 refine I.step (g':=s.gens) (d':=s.drawn) (ch:=fp) (fun b hb=>⟨(hf b hb).2.2.2.1,(hf b hb).2.1,(hf b hb).2.2.2.2.1,(hf b hb).2.2.2.2.2⟩) (fun b o _ _ hc e _=>k b o hc e) (fun b o _ _ hc e _=>⟨o.slots,k b o hc e⟩) (fun _ _ _ _ n=>n)
  (fun b o hc e=>⟨o,k b o hc e⟩) (fun _ _ e=>e) (fun _ _ _ e=>e) (fun b ps e=>⟨#[],by rw [e];simp⟩) (fun m hm=>?_) (fun b u e=>?_) I.bare
 ·obtain ⟨o,es,ep,ho,r⟩:=hm
  exact ⟨o,es,ep,k _ o (fun z=>(hf _ z).2.1 rfl) ho,r⟩
 ·have nf:∀ c u,H c=some u->c∉fp:=fun c u q z=>by rw [(hf c z).1] at q;cases q
  refine (I.hok b u e).stay (fun c v hc q=>k c v ?_ q) (fun _ q=>q) fun _ _ q=>q
  rcases hc with z | z
  ·rw [z];exact nf b u e
  ·exact nf c _ z
theorem Inv.turnNew {t':Nat} {fp:List Addr} {vs:List V} {us:List Value} (I:Inv X pins σ H s) (hf:∀ b∈fp,yW X pins H b) (k:∀ b o,b∉fp->s.heap.get? b=some o->h'.get? b=some o)
  (hv:Vals vs us) (hz:vs.length<=sizeLine) (hT:IsTup h' s.heap.objs.size us.toArray):Inv X pins σ (upd H s.heap.objs.size (.tup vs)) { s with heap:=h',toks:=t' }:=by
 have hn:H s.heap.objs.size=none:=I.hok.fresh (Nat.le_refl _)
 refine I.step (g':=s.gens) (d':=s.drawn) (ch:=fp) (fun b hb=>⟨(hf b hb).2.2.2.1,(hf b hb).2.1,(hf b hb).2.2.2.2.1,(hf b hb).2.2.2.2.2⟩) (fun b o _ _ hc e _=>k b o hc e) (fun b o _ _ hc e _=>⟨o.slots,k b o hc e⟩)
  (fun b o _ e n=>by rw [QX (Nat.ne_of_lt (Heap.lt_size e))];exact n) (fun b o hc e=>⟨o,k b o hc e⟩) (fun b xs e=>by rw [QX (Zm e hn)];exact e) (fun b o u e=>by rw [QX (Zm e hn)];exact e) (fun b ps e=>⟨#[],by rw [QX (Zm e hn),e];simp⟩) (fun m hm=>?_) (fun b u e=>?_) I.bare
 ·obtain ⟨o,es,ep,ho,r⟩:=hm
  exact ⟨o,es,ep,k _ o (fun z=>(hf _ z).2.1 rfl) ho,r⟩
 ·by_cases hb:b=s.heap.objs.size
  ·subst hb
   rw [Za] at e;cases e
   exact ⟨hz,us,hv,hT⟩
  ·rw [QX hb] at e
   have nf:∀ c u,H c=some u->c∉fp:=fun c u q z=>by rw [(hf c z).1] at q;cases q
   refine (I.hok b u e).stay (fun c v hc q=>k c v ?_ q) (fun c q=>by rw [QX (Zm q hn)];exact q) fun c xs q=>by rw [QX (Zm q hn)];exact q
   rcases hc with z | z
   ·rw [z];exact nf b u e
   ·exact nf c _ z
end
def Itz (K:PySem.W.Frag) (a b:Addr):It :=
  ⟨fun i H=>∃ xs ys x y,SqT K H a xs/\SqT K H b ys/\xs[i]?=some x/\ys[i]?=some y,
   fun i H v H'=>∃ p x y,H p=none/\(∀ xs,SqT K H a xs->xs[i]?=some x)/\(∀ ys,SqT K H b ys->ys[i]?=some y)/\v=.ref p/\H'=upd H p (.tup [x,y]),
   fun i H=>∃ xs ys,SqT K H a xs/\SqT K H b ys/\(xs.length<=i∨ys.length<=i)⟩
theorem ZS.at {h h':Heap} {z p o i j a b:Addr} {n:Nat} {f:Value} (S:ZS h z p o i j a b n f) (k:∀ c∈[z,p,o,i,j],∀ u,h.get? c=some u->h'.get? c=some u):ZS h' z p o i j a b n f:=by
 obtain ⟨zz,pp,⟨u1,u2,oo⟩,ii,jj⟩:=S
 exact ⟨k z (by simp) _ zz,k p (by simp) _ pp,⟨u1,u2,k o (by simp) _ oo⟩,ii.at fun u e=>k i (by simp) u e,jj.at fun u e=>k j (by simp) u e⟩
theorem Qds {P:Program} {w:World} {K:PySem.W.Frag} {elts:List Expr} {kt:Nat} {pos:Pos} {z p o i j a b:Addr} (D:ZA z p o i j a b):QaD P w K (.Tuple elts kt pos) (Itz K a b) [z,p,o,i,j] z (fun n h=>ZS h z p o i j a b n .none) where
 mem:=by simp
 obj:=fun n h S c hc=>by
  obtain ⟨zz,pp,⟨u1,u2,oo⟩,⟨oi,ei,ci,di⟩,⟨oj,ej,cj,dj⟩⟩:=S
  simp only [List.mem_cons,List.not_mem_nil,or_false] at hc
  rcases hc with rfl | rfl | rfl | rfl | rfl
  ·exact ⟨_,zz,fun v q=>by have q':Data.fields _=Data.cell v:=q;cases q'⟩
  ·exact ⟨_,pp,fun v q=>by have q':Data.seq _ _=Data.cell v:=q;cases q'⟩
  ·exact ⟨_,oo,fun v q=>by have q':Data.seq _ _=Data.cell v:=q;cases q'⟩
  ·exact ⟨oi,ei,fun v q=>by rw [di] at q;cases q⟩
  ·exact ⟨oj,ej,fun v q=>by rw [dj] at q;cases q⟩
 keep:=fun n h h' S k=>S.at k
 item:=by
  intro X hP hw hK hc n pins s σ H E I hf S hg
  subst hP hw hK
  obtain ⟨xs,ys,x,y,qa,qb,hx,hy⟩:=hg
  obtain ⟨ia,ra,pa,_⟩:=I.tuple qa
  obtain ⟨ib,rb,pb,_⟩:=I.tuple qb
  obtain ⟨u,hu,ru⟩:=ra.get hx
  obtain ⟨v,hv,rv⟩:=rb.get hy
  have hT:s.TypeIs (.ref z) "zip" := ⟨_,S.zz,rfl⟩
  unfold pyNext
  refine wpAny_bind (wpAny_attempt (wpAny_callSpecial?_slot (name:=Str.ofString "__next__") hT F.slot_zip_next (wpAny_call_entry F.slot_zip_next hT F.entry_zip_next
   (QeZ D S (show s.heap.IsTuple a ia.toArray from pa) (show s.heap.IsTuple b ib.toArray from pb) (by simpa using hu) (by simpa using hv) fun g S' tp sz kp=>wpAny_pure ?_) (F.args_zip_next_1 _))))
  refine ⟨_,rfl,wpAny_letOwnedTupleGo_zip S'.zz fun g' z' sb=>?_⟩
  have kp':∀ c q,c∉[z,p,o,i,j]->s.heap.get? c=some q->g'.get? c=some q:=fun c q hc e=>by
   simp only [List.mem_cons,List.not_mem_nil,or_false,not_or] at hc
   exact sb.extBut _ _ hc.1 (kp c q hc.1 hc.2.2.1 hc.2.2.2.1 hc.2.2.2.2 e)
  have zl:z < s.heap.objs.size:=Heap.lt_size S.zz
  have tp':IsPair g' s.heap.objs.size u v:=sb.extBut _ _ (Nat.ne_of_gt zl) tp
  have ne:∀ c∈[z,p,o,i,j],c≠s.heap.objs.size:=fun c hc e=>by
   have q:=(hf c hc)
   obtain ⟨zz,pp,⟨u1,u2,oo⟩,⟨oi,ei,_⟩,⟨oj,ej,_⟩⟩:=S
   simp only [List.mem_cons,List.not_mem_nil,or_false] at hc
   rcases hc with rfl | rfl | rfl | rfl | rfl
   ·exact Nat.ne_of_lt (Heap.lt_size zz) e
   ·exact Nat.ne_of_lt (Heap.lt_size pp) e
   ·exact Nat.ne_of_lt (Heap.lt_size oo) e
   ·exact Nat.ne_of_lt (Heap.lt_size ei) e
   ·exact Nat.ne_of_lt (Heap.lt_size ej) e
  refine ⟨.ref s.heap.objs.size,upd H s.heap.objs.size (.tup [x,y]),I.turnNew (t':=s.toks) hf kp' (us:=[u,v]) (.cons ru (.cons rv .nil)) (show 2<=sizeLine by decide) ⟨_,tp',rfl,_,rfl⟩,rfl,
   ⟨_,x,y,I.hok.fresh (Nat.le_refl _),fun xs' h=>by rw [I.tuple_inj h qa];exact hx,fun ys' h=>by rw [I.tuple_inj h qb];exact hy,rfl,rfl⟩,?_,fun c hc=>?_⟩
  ·obtain ⟨_,pp,⟨u1,u2,oo⟩,ii,jj⟩:=S'
   exact ⟨z',sb.extBut _ _ D.pz pp,⟨u1,u2,sb.extBut _ _ D.oz oo⟩,ii.extBut sb.extBut D.iz,jj.extBut sb.extBut D.jz⟩
  ·rw [QX (ne c hc)];exact (hf c hc).1
 done:=by
  intro X hP hw hK hc n pins s σ H E I hf S hg
  subst hP hw hK
  obtain ⟨xs,ys,qa,qb,hs⟩:=hg
  obtain ⟨ia,ra,pa,_⟩:=I.tuple qa
  obtain ⟨ib,rb,pb,_⟩:=I.tuple qb
  have l1:=ra.length
  have l2:=rb.length
  have hT:s.TypeIs (.ref z) "zip" := ⟨_,S.zz,rfl⟩
  unfold pyNext
  refine wpAny_bind (wpAny_attempt (wpAny_callSpecial?_slot (name:=Str.ofString "__next__") hT F.slot_zip_next (wpAny_call_entry F.slot_zip_next hT F.entry_zip_next
   (Qe0 (I.ok.hd hc) D S (show s.heap.IsTuple a ia.toArray from pa) (show s.heap.IsTuple b ib.toArray from pb) (by rcases hs with q | q;exact .inl (by simp;omega);exact .inr (by simp;omega)) fun g x kp hx=>?_) (F.args_zip_next_1 _))))
  obtain ⟨ox,h1,h2⟩:=hx
  refine wpAny_bind (wpAny_isInstance (T := "StopIteration") (b:=true) ⟨ox,h1,h2⟩ isSubtype_stop ?_)
  refine wpAny_pure ⟨rfl,I.turnL (t':=s.toks) hf fun c q hc e=>?_⟩
  simp only [List.mem_cons,List.not_mem_nil,or_false,not_or] at hc
  exact kp c q hc.1 hc.2.2.1 hc.2.2.2.1 hc.2.2.2.2 e
 self:=fun _ _ _ _ _ S h=>wpAny_pyIter_zip S.zz h
abbrev zt1 (h:Heap) (a:Addr):Heap:=h.push { cls:=.type "tuple_iterator", data:=.fields #[.ref a,.int 0 0] }
abbrev zt2 (h:Heap) (a b:Addr):Heap:=(zt1 h a).push { cls:=.type "tuple_iterator", data:=.fields #[.ref b,.int 0 0] }
abbrev zt3 (h:Heap) (a b:Addr):Heap:=(zt2 h a b).push { cls:=.type "tuple", data:=.seq #[.ref h.objs.size,.ref (zt1 h a).objs.size] }
abbrev zt4 (h:Heap) (a b:Addr):Heap:=(zt3 h a b).push { cls:=.type "tuple", data:=.seq #[.none,.none] }
abbrev zt5 (h:Heap) (a b:Addr):Heap:=(zt4 h a b).push { cls:=.type "zip", data:=.fields #[.none,.bool false,.bool false,.ref (zt2 h a b).objs.size,.ref (zt3 h a b).objs.size] }
theorem Qaz (a b:Addr) (xs ys:Array Value):Meets (Builtin.«zip.__new__» ⟨[.type "zip", .ref a,.ref b],[]⟩) (fun _ R s=>s.heap.IsTuple a xs/\s.heap.IsTuple b ys/\R (.ok (.ret (.ref (zt4 s.heap a b).objs.size))) { s with heap:=zt5 s.heap a b }) :=
 .of_wp fun prog w A R s h=>by
  obtain ⟨hp,g,d,tk,os⟩:=s;obtain ⟨q1,q2,h⟩:=h
  have hsub:=sub_zip
  have t1:Heap.IsTuple (Shared.heap ⟨hp,g,d,tk,os⟩) a xs:=q1
  have t2:Heap.IsTuple (Shared.heap ⟨hp.push { cls:=.type "tuple_iterator", data:=.fields #[.ref a,.int 0 0] },g,d,tk,os⟩) b ys:=let ⟨ob,e,r⟩:=q2;⟨ob,Heap.get?_push_of_some _ e,r⟩
  wp_walk using wpAny_pyIter_tuple t1,wpAny_pyIter_tuple t2
  exact ⟨_,rfl,h⟩
section
variable {X:Cx} {elts:List Expr} {kt:Nat} {p2:Pos}
def Qe6 (K:PySem.W.Frag) (ta:TA):TI:=fun σ H R=>ta σ H fun vs H1=>∃ a b xs ys,vs=[.ref a,.ref b]/\SqT K H1 a xs/\SqT K H1 b ys/\R (Itz K a b) H1
theorem Qgz {pins:List (Addr×Obj)} {σ:L2.St} {H:Hp} {s:Shared} {R:It->Hp->Prop} {E:Value->Shared->Prop} {a b:Addr} {xs ys:List V} (I:Inv X pins σ H s) (qa:SqT X.K H a xs) (qb:SqT X.K H b ys) (q:R (Itz X.K a b) H) :
  wpAny (model X.prog X.w) X.A (call (.type "zip") [.ref a,.ref b]) (fun v s1=>wpAny (model X.prog X.w) X.A (pyIter v) (PIE X pins σ (.Tuple elts kt p2) R) E s1) E s:=by
 obtain ⟨ia,ra,pa,_⟩:=I.tuple qa
 obtain ⟨ib,rb,pb,_⟩:=I.tuple qb
 refine callType_new F.called_zip (by decide) (F.typeCall_zip_2 _ _) (F.newCall_zip_2 _ _) (fun obj=>F.args_object_init_3 obj _ _) F.entry_zip_new (Qaz a b ia.toArray ib.toArray) ⟨show s.heap.IsTuple a ia.toArray from pa,show s.heap.IsTuple b ib.toArray from pb,?_⟩
 have z1:(zt1 s.heap a).objs.size=s.heap.objs.size+1:=Heap.size_push ..
 have z2:(zt2 s.heap a b).objs.size=s.heap.objs.size+2:=by rw [Heap.size_push,z1]
 have z3:(zt3 s.heap a b).objs.size=s.heap.objs.size+3:=by rw [Heap.size_push,z2]
 have z4:(zt4 s.heap a b).objs.size=s.heap.objs.size+4:=by rw [Heap.size_push,z3]
 have g5:(zt5 s.heap a b).get? (zt4 s.heap a b).objs.size=some _:=Heap.get?_push_size _ rfl
 have g4:(zt5 s.heap a b).get? (zt3 s.heap a b).objs.size=some _:=Heap.get?_push_of_some _ (Heap.get?_push_size _ rfl)
 have g3:(zt5 s.heap a b).get? (zt2 s.heap a b).objs.size=some _:=Heap.get?_push_of_some _ (Heap.get?_push_of_some _ (Heap.get?_push_size _ rfl))
 have g2:(zt5 s.heap a b).get? (zt1 s.heap a).objs.size=some _:=Heap.get?_push_of_some _ (Heap.get?_push_of_some _ (Heap.get?_push_of_some _ (Heap.get?_push_size _ rfl)))
 have g1:(zt5 s.heap a b).get? s.heap.objs.size=some _:=Heap.get?_push_of_some _ (Heap.get?_push_of_some _ (Heap.get?_push_of_some _ (Heap.get?_push_of_some _ (Heap.get?_push_size _ rfl))))
 show _/\_
 have kp:∀ c o,s.heap.get? c=some o->(zt5 s.heap a b).get? c=some o:=fun c o e=>Heap.get?_push_of_some _ (Heap.get?_push_of_some _ (Heap.get?_push_of_some _ (Heap.get?_push_of_some _ (Heap.get?_push_of_some _ e))))
 refine ⟨⟨_,g5,rfl⟩,?_⟩
 rw [z2,z3,z4] at g5
 rw [z1,z2] at g3
 rw [z3] at g4
 rw [z1] at g2
 rw [z4]
 have la:a < s.heap.objs.size:=by obtain ⟨o,e,_⟩:=pa;exact Heap.lt_size e
 have lb:b < s.heap.objs.size:=by obtain ⟨o,e,_⟩:=pb;exact Heap.lt_size e
 have D:ZA (s.heap.objs.size+4) (s.heap.objs.size+2) (s.heap.objs.size+3) s.heap.objs.size (s.heap.objs.size+1) a b:=by constructor<;>first | exact Nat.ne_of_lt la | exact Nat.ne_of_lt lb | exact Nat.ne_of_lt (Nat.lt_of_lt_of_le la (Nat.le_add_right _ _)) | exact Nat.ne_of_lt (Nat.lt_of_lt_of_le lb (Nat.le_add_right _ _)) | exact Nat.ne_of_lt (by omega) | exact Nat.ne_of_gt (by omega)
 have I1:Inv X pins σ H { s with heap:=zt5 s.heap a b }:=I.kept (t':=s.toks) kp
 have S:ZS (zt5 s.heap a b) (s.heap.objs.size+4) (s.heap.objs.size+2) (s.heap.objs.size+3) s.heap.objs.size (s.heap.objs.size+1) a b 0 .none:=⟨g5,g3,⟨_,_,g4⟩,⟨_,g1,rfl,rfl⟩,⟨_,g2,rfl,rfl⟩⟩
 refine wpAny_pyIter_zip (s:={ s with heap:=zt5 s.heap a b }) S.zz ⟨_,[s.heap.objs.size+4,s.heap.objs.size+2,s.heap.objs.size+3,s.heap.objs.size,s.heap.objs.size+1],_,Itz X.K a b,H,rfl,I1,Qds D,S,fun c hc=>?_,q⟩
 have hc':s.heap.objs.size<=c:=by
  simp only [List.mem_cons,List.not_mem_nil,or_false] at hc
  rcases hc with rfl | rfl | rfl | rfl | rfl<;>first | exact Nat.le_refl _ | exact Nat.le_add_right _ _
 exact I.fpOk hc' (I.hok.fresh hc')
theorem Qf6 {x y:Expr} {ta:TA} {p pos:Pos} (hg:Gl X "zip") (hm:X.mg "zip" = none) (ha:PA X [x,y] ta) (hs:starEach [x,y] X.env=[(false,eval x X.env),(false,eval y X.env)]:=by rfl) (hs2:starEach [y] X.env=[(false,eval y X.env)]:=by rfl) :
    PI X (.Tuple elts kt p2) (.Call (.Name "zip" p) [x,y] [] pos) (Qe6 X.K ta):=by
  intro pins s σ H R I h
  refine Call_ (YQ I hg hm boot_zip (PyProof.Rows.callWith_type1 (thn (ha pos pins s σ H _ I h) fun us s1 ⟨vs,H1,I1,r1,q1⟩=>?_) (by rw [hs,hs2]) (by rw [hs2];rfl)))
  obtain ⟨a,b,xs,ys,e,qa,qb,q⟩:=q1
  subst e
  cases r1 with
  | cons r rr =>
    cases rr with
    | cons r' rr =>
      cases rr
      cases r
      cases r'
      exact Qgz I1 qa qb q
end
end L2
namespace D
open PySem PySem.Spec PyProof.Rows L2
def zO:List DV->List DV->List DV
 | x::xs,y::ys=>.tup [x,y]::zO xs ys
 | _,_=>[]
theorem uo:∀ {xs ys:List DV} {i:Nat} {d:DV},(zO xs ys)[i]?=some d->∃ x y,xs[i]?=some x/\ys[i]?=some y/\d=.tup [x,y]
  | x::xs,y::ys,0,d,h=>by simp [zO] at h;exact ⟨x,y,rfl,rfl,h.symm⟩
  | x::xs,y::ys,i+1,d,h=>by
    obtain ⟨a,b,h1,h2,h3⟩:=uo (xs:=xs) (ys:=ys) (i:=i) (by simpa [zO] using h)
    exact ⟨a,b,by simpa using h1,by simpa using h2,h3⟩
  | [],_,_,_,h=>by simp [zO] at h
  | _::_,[],_,_,h=>by simp [zO] at h
theorem uq:∀ (xs ys:List DV),(zO xs ys).length=min xs.length ys.length
 | x::xs,y::ys=>by simp only [zO,List.length_cons,uq xs ys];omega
 | [],_=>by simp [zO]
 | _::_,[]=>by simp [zO]
def yd (f g:DEx):DIx:=fun env=>do
 let x <- f env
 let xs <- xQ x
 let y <- g env
 let ys <- xQ y
 pure (zO xs ys)
theorem Qb8 {K:PySem.W.Frag} {ρ:List Addr} {B:Addr->Prop} {H:Hp} {ds es:List DV} {a b:Addr} {xs ys:List V} (na:¬ B a) (qa:SqT K H a xs) (ra:RepL K ρ B H ds xs) (nb:¬ B b) (qb:SqT K H b ys) (rb:RepL K ρ B H es ys):QaC K ρ B H (zO ds es) (Itz K a b):=fun ρ1 B1 H1 g r1 t1=>by
 have qa1:=g.sqT na qa
 have qb1:=g.sqT nb qb
 have ra1:=RepL.gs g _ _ ra
 have rb1:=RepL.gs g _ _ rb
 refine ⟨fun i d e=>?_,xs,ys,qa1,qb1,?_⟩
 ·obtain ⟨x,y,h1,h2,rfl⟩:=uo e
  obtain ⟨u,hu,ru⟩:=ra1.get h1
  obtain ⟨v,hv,rv⟩:=rb1.get h2
  refine ⟨⟨xs,ys,u,v,qa1,qb1,hu,hv⟩,fun z H' ⟨p,u',v',hn,h3,h4,e1,e2⟩=>?_⟩
  subst e1 e2
  have e3:=h3 xs qa1
  have e4:=h4 ys qb1
  rw [hu] at e3;cases e3
  rw [hv] at e4;cases e4
  refine ⟨zY (fun z=>t1 p z hn) (SqT.of Za) (RepL.gs (gQ r1 hn) _ _ (RepL.cons ru (RepL.one rv))),.inr ⟨p,_,hn,rfl⟩⟩
 ·rw [uq,ra1.length,rb1.length]
  rcases Nat.le_total xs.length ys.length with q | q
  ·exact .inl (by rw [Nat.min_eq_left q];exact Nat.le_refl _)
  ·exact .inr (by rw [Nat.min_eq_right q];exact Nat.le_refl _)
section
variable {X:Cx} {elts:List Expr} {kt:Nat} {p2:Pos} {f g:DEx}
theorem Qft {x y:Expr} {p pos:Pos} (hg:Gl X "zip") (hm:X.mg "zip" = none) (hx:DE X x f) (hy:DE X y g) (hs:starEach [x,y] X.env=[(false,eval x X.env),(false,eval y X.env)]:=by rfl) (hs2:starEach [y] X.env=[(false,eval y X.env)]:=by rfl) :
  DI X (.Tuple elts kt p2) (.Call (.Name "zip" p) [x,y] [] pos) (yd f g) :=
 L2.PI.imp (Qf6 hg hm (X9 hx (X9 hy pa_nil (by rw [hs2];rfl)) (by rw [hs,hs2])) hs hs2) fun σ H R ⟨Z,env,ρ,B,hp,ds,hp',S,e,k⟩=>by
  obtain ⟨d1,hp1,e1,e⟩:=Qj e
  obtain ⟨xs,hp2,e2,e⟩:=Qj e
  obtain ⟨rfl,rfl⟩:=Xe e2
  obtain ⟨d2,hp3,e3,e⟩:=Qj e
  obtain ⟨ys,hp4,e4,e⟩:=Qj e
  obtain ⟨rfl,rfl⟩:=Xe e4
  obtain ⟨rfl,rfl⟩:=Qo e
  refine tD.run S e1 fun v ρ1 B1 H1 g1 S1 r1=>tD.run S1 e3 fun u ρ2 B2 H2 g2 S2 r2=>?_
  obtain ⟨a,vs,rfl,na,qa,la⟩:=(RepV.grow S1.wo.rb g2 _ _ r1).tupI
  obtain ⟨b,us,rfl,nb,qb,lb⟩:=r2.tupI
  exact ⟨a,b,vs,us,rfl,qa,qb,k _ ρ2 B2 H2 (g1.trans g2) S2.wo (Qb8 na qa la nb qb lb)⟩
def gT (ix:List Nat):DGx:=fun d env=>do
 let ds <- xQ d
 QE (decide (ds.length=ix.length))
 pure ((ix.zip ds).foldl (fun en q=>en.set q.1 (.val q.2)) env)
def KM (X:Cx):List Nat->List Expr->Prop
 | [],[]=>True
 | i::is,.Name x _::es=>X.N[i]?=some x/\Loc X.env.scope x/\(X.fn x=true∨X.env.scope.names.lookup x=some .local)/\KM X is es
 | _,_=>False
theorem Ko (hN:X.N.Nodup):∀ (ix:List Nat) (es:List Expr),KM X ix es->(∀ es' x p,(assignEach (.Name x p::es') X.env).map (·.2)=assign (.Name x p) X.env::(assignEach es' X.env).map (·.2)) ->
    PGs X es (fun vs σ H Q=>vs.length=ix.length/\Q ((ix.zip vs).foldl (fun s q=>s.set q.1 (some q.2)) σ) H)
  | [],[],_,_=>by
    intro pins s σ H vs us Q I r h
    obtain ⟨h1,h2⟩:=h
    have:vs=[]:=by cases vs with | nil=>rfl | cons _ _=>simp at h1
    subst this
    exact Qem pins s σ H [] us Q I r ⟨rfl,by simpa using h2⟩
  | i::is,.Name x p::es,⟨h1,h2,h3,h4⟩,ha=>by
    intro pins s σ H vs us Q I r h
    obtain ⟨h5,h6⟩:=h
    cases vs with
    | nil=>simp at h5
    | cons v vs =>
      exact QcK (Gy hN h1 h2 h3) (Ko hN is es h4 ha) (ha _ _ _) pins s σ H (v::vs) us Q I r ⟨v,vs,rfl,by simpa using h5,by simpa using h6⟩
theorem kJ {K:PySem.W.Frag} {Z:Ent} {ρ:List Addr} {B:Addr->Prop} {hp:Hs} {H:Hp}:∀ (ix:List Nat) (ds:List DV) (vs:List V) {env:En} {σ:L2.St},RepL K ρ B H ds vs->SOk K Z env σ ρ B hp H ->
    SOk K Z ((ix.zip ds).foldl (fun en q=>en.set q.1 (.val q.2)) env) ((ix.zip vs).foldl (fun s q=>s.set q.1 (some q.2)) σ) ρ B hp H
  | [],_,_,_,_,_,S=>by simpa using S
  | i::is,[],_,_,_,r,S=>by unfold RepL at r;subst r;simpa using S
  | i::is,d::ds,_,_,_,r,S=>by
    unfold RepL at r
    obtain ⟨v,vs,rfl,r1,r2⟩:=r
    simpa using kJ is ds vs r2 (S.set (i:=i) r1)
theorem Qfr (ix:List Nat) (hN:X.N.Nodup) (hn:KM X ix elts) (hc:X.calm=true) (ha:∀ es' x p,(assignEach (.Name x p::es') X.env).map (·.2)=assign (.Name x p) X.env::(assignEach es' X.env).map (·.2))
  (hl:(assignEach elts X.env).length=ix.length:=by rfl) (hst:(assignEach elts X.env).findIdx? (·.1)=none:=by rfl):PG X (.Tuple elts kt p2) (tDG X.K (gT ix)):=by
 intro pins s σ H v u Q I r h
 refine Qf4 hc (Ko hN ix elts hn ha) hl hst pins s σ H v u Q I r ?_
 obtain ⟨Z,env,ρ,B,hp,d,env',hp',S,rd,e,k⟩:=h
 obtain ⟨ds,hp1,e1,e⟩:=Qj e
 obtain ⟨rfl,rfl⟩:=Xe e1
 obtain ⟨_,hp2,e2,e⟩:=Qj e
 obtain ⟨hs,rfl⟩:=QL e2
 obtain ⟨rfl,rfl⟩:=Qo e
 obtain ⟨a,xs,rfl,na,qa,la⟩:=rd.tupI
 have hl':xs.length=ix.length:=by rw [<- la.length];exact of_decide_eq_true hs
 exact ⟨a,xs,rfl,qa,hl',hl',k _ ρ B H Gs.refl (kJ ix ds xs la S)⟩
def Zo (f:DEx) (g:DGx):DSx:=fun env=>do let d <- f env;let env' <- g d env;pure (.nx,env')
theorem Zz {tg e:Expr} {g:DGx} {pos:Pos} (he:DE X e f) (hg:PG X tg (tDG X.K g)) (hs:swapsWithSole [tg] e pos.line X.env=pure false:=by rfl) (hw:swappedStores [tg] e X.env=pure none:=by rfl)
  (h1:(assignEach [tg] X.env).map (·.2)=[assign tg X.env]:=by rfl):DS X (.Assign [tg] e pos) (Zo f g) :=
 L2.PS.imp (Qf9 he hg hs hw h1) fun D σ H ⟨Z,env,ρ,B,hp,fl,env',hp',S,e,k⟩=>by
  obtain ⟨d,hp1,e1,e⟩:=Qj e
  obtain ⟨env1,hp2,e2,e⟩:=Qj e
  obtain ⟨z,rfl⟩:=Qo e;cases z
  exact tD.run S e1 fun v ρ1 B1 H1 g1 S1 r1=>⟨Z,env,ρ1,B1,hp1,d,env',hp2,S1,r1,e2,fun σ' ρ' B' H' g' S'=>k σ' ρ' B' H' ((g1.gs S.wo.rb).trans g') S'⟩
end
end D
namespace D
open PySem PySem.Spec PyProof.Rows L2
theorem gB {lo:Int} {n i:Nat} {d:DV} (h:(Ze lo n)[i]?=some d):i < n/\d=.int (lo+i):=by
 have hi:i < n:=by have:=(List.getElem?_eq_some_iff.mp h).1;simpa [Ze] using this
 refine ⟨hi,?_⟩
 simp [Ze,hi] at h
 exact h.symm
theorem Jj (lo:Int) (n:Nat):(Ze lo n).length=n:=by simp [Ze]
theorem U7 {t:DV->M Bool} {f:DV->M DV} {p:Int->Bool} {g:Int->Int} (ht:∀ x,t (.int x)=pure (p x)) (hf:∀ x,f (.int x)=pure (.int (g x))):∀ ns:List Int,km t f (ns.map .int)=pure (((ns.filter p).map g).map .int)
  | []=>rfl
  | n::ns=>by
    rw [List.map_cons,km,ht,pure_bind]
    cases q:p n with
    | false =>
      rw [List.filter_cons_of_neg (by rw [q];decide)]
      exact U7 ht hf ns
    | true =>
      rw [List.filter_cons_of_pos q]
      simp only [if_true,hf,pure_bind,U7 ht hf ns,List.map_cons]
theorem yE:∀ ns:List Int,noRefs (ns.map .int)=true
 | []=>rfl
 | _::r=>by simp [noRefs,yD,yE r]
theorem yt:∀ ns:List Int,toPs (ns.map .int)=ns.map .int
 | []=>rfl
 | _::r=>by simp [toPs,toP,yt r]
theorem Vn (i:Int):okP (.int i)=true:=by rfl
theorem Qcv (b:Bool):okP (.bl b)=true:=by cases b<;>rfl
theorem vF (ns:List Int):okP (.lst (ns.map .int))=true:=by
 simp only [okP,yD,yE,Bool.true_and,toP,yt]
 exact PySem.W.ke_shaped_ints ns
theorem kE (i j:Int):PyData.eqv (.int i) (.int j)=(i==j):=rfl
theorem yz:∀ ns ms:List Int,PyData.eqvAll (ns.map .int) (ms.map .int)=decide (ns=ms)
  | [],[]=>by simp [PyData.eqvAll]
  | [],_::_=>by simp [PyData.eqvAll]
  | _::_,[]=>by simp [PyData.eqvAll]
  | a::r,b::t=>by
    simp only [List.map_cons,PyData.eqvAll,PyData.eqv,yz r t]
    by_cases h:a=b<;>by_cases h':r=t<;>simp [h,h']
theorem Z6 (i j:Int):eqD (.int i) (.int j)=pure (.bl (i==j)):=by
 simp only [eqD,Vn,Bool.and_self,QE,if_true,pure_bind,toP,kE]
theorem JQ (i j:Int):neD (.int i) (.int j)=pure (.bl (!(i==j))):=by
 simp only [neD,Vn,Bool.and_self,QE,if_true,pure_bind,toP,kE]
theorem Qfj {α:Type} {xs:List α} {i:Int} (h0:0<=i) (h1:i < xs.length):atI xs i=xs[i.toNat]?:=by
 unfold atI ixN
 rw [if_pos h0,if_pos h1];rfl
theorem KP (ns:List Int) {i:Int} (h0:0<=i) (h1:i < ns.length):atI (ns.map DV.int) i=some (.int (ns.getD i.toNat 0)):=by
 have hl:i.toNat < ns.length:=by omega
 rw [Qfj h0 (by simpa using h1),List.getElem?_map,List.getElem?_eq_getElem hl]
 simp [List.getD_eq_getElem?_getD,hl]
def opt:Option Int->DV
 | none=>.non
 | some i=>.int i
end D
namespace D
open PySem PySem.Spec PyProof.Rows L2
theorem XO (x y:Int) (h:0 < y):VW (.int x) (.int y)=pure (.int (x % y)):=by simp [VW,q8,QgH,h]
theorem VF (x y:Int) (h:0 < y) (h':y < 1073741824):uO (.int x) (.int y)=pure (.int (x / y)):=by simp [uO,q8,QgG,h,h']
theorem yg (x y:Int) (h:-(2 ^ 64) < x) (h':x < 2 ^ 64):qJ (.int x) (.int y)=pure (.int (x * y)):=by
 simp only [qJ,q8,Qfl,decide_eq_true (Or.inl (b:=(-(2 ^ 64) < y/\y < 2 ^ 64)) (And.intro h h')),if_true]
theorem gh (x y:Int) (h:-(2 ^ 64) < y) (h':y < 2 ^ 64):qJ (.int x) (.int y)=pure (.int (x * y)):=by
 simp only [qJ,q8,Qfl,decide_eq_true (Or.inr (a:=(-(2 ^ 64) < x/\x < 2 ^ 64)) (And.intro h h')),if_true]
theorem Z4 (x y:Int):Zt (.int x) (.int y)=pure (.int (x+y)):=rfl
theorem Ju (x y:Int):yr (.int x) (.int y)=pure (.int (x - y)):=rfl
theorem Z9 (x y:Int):gtD (.int x) (.int y)=pure (.bl (decide (y < x))):=rfl
theorem Ja (x y:Int):ltD (.int x) (.int y)=pure (.bl (decide (x < y))):=rfl
theorem Jl (x y:Int):leD (.int x) (.int y)=pure (.bl (decide (x<=y))):=rfl
theorem Z7 (x y:Int):geD (.int x) (.int y)=pure (.bl (decide (y<=x))):=rfl
theorem Js (x:Int):QgY (.int x)=pure (.int (-x)):=rfl
theorem Xo:zD (.int 10) (.int 30)=pure (.int 1000000000000000000000000000000):=rfl
theorem Yz:zD (.int 10) (.int 21)=pure (.int 1000000000000000000000):=rfl
theorem xy:zD (.int 10) (.int 9)=pure (.int 1000000000):=rfl
theorem Qdf {m:Int} (h0:0<=m) (h1:m<=1000000):Ys m=true:=decide_eq_true ⟨by omega,by omega⟩
end D
namespace D
open PySem PySem.Spec PyProof.Rows L2
theorem qk {ds:List DV} (h:ds.length<=100000):qY ds=true:=decide_eq_true h
theorem Jb {f g:DSx} {env env1:En} (h:f env=pure (.nx,env1)):Qq f g env=g env1:=by simp only [Qq,h,pure_bind]
theorem QeI {f g:DSx} {env env1:En} {d:DV} (h:f env=pure (.rt d,env1)):Qq f g env=pure (.rt d,env1):=by simp only [Qq,h,pure_bind]
theorem Jm {i:Nat} {f:DEx} {env:En} {d:DV} (h:f env=pure d):QA i f env=pure (.nx,env.set i (.val d)):=by simp only [QA,h,pure_bind]
theorem Qhj {c:DTx} {f g:DSx} {env:En} (h:c env=pure true):sIf c f g env=f env:=by simp only [sIf,h,pure_bind,if_true]
theorem Qhi {c:DTx} {f g:DSx} {env:En} (h:c env=pure false):sIf c f g env=g env:=by simp only [sIf,h,pure_bind,Bool.false_eq_true,if_false]
theorem Yb {f:DEx} {env:En} {d:DV} (h:f env=pure d):QJ f env=pure (.rt d,env):=by simp only [QJ,h,pure_bind]
theorem YB {n:Nat} {body:DSx} {ds:List DV} {d:DV} {env:En} (h:body (ds.map .val++List.replicate (n - ds.length) .un)=pure (.rt d,env)):Zb n body ds=pure d:=by simp only [Zb,h,pure_bind]
theorem QgM {f:DEx} {env:En} {b:Bool} (h:f env=pure (.bl b)):eB f env=pure b:=by simp only [eB,h,pure_bind,asB]
theorem zT {g:DV->DV->M DV} {f f':DEx} {env:En} {x y d:DV} (h:f env=pure x) (h':f' env=pure y) (hg:g x y=pure d):Qf g f f' env=pure d:=by simp only [Qf,h,h',pure_bind,hg]
theorem ya {F:List DV->M DV} {f f':DEx} {env:En} {x y d:DV} (h:f env=pure x) (h':f' env=pure y) (hF:F [x,y]=pure d):Qu 2 F (Qc f (Qc f' Qm)) env=pure d:=by simp [Qu,Qc,Qm,h,h',QE,hF]
theorem QbT {F:List DV->M DV} {f f' f'':DEx} {env:En} {x y z d:DV} (h:f env=pure x) (h':f' env=pure y) (h'':f'' env=pure z) (hF:F [x,y,z]=pure d):Qu 3 F (Qc f (Qc f' (Qc f'' Qm))) env=pure d:=by simp [Qu,Qc,Qm,h,h',h'',QE,hF]
end D
namespace D
open PySem PySem.Spec PyProof.Rows L2
section
variable {K:PySem.W.Frag} {ρ:List Addr} {B:Addr->Prop} {hp:Hs} {H:Hp}
theorem Gr.wnew {p:Addr} {o:HO} (h:H p=none) (kf:K.lookup p=none):Gr K ρ B H (ρ++[p]) (jZ B p) (upd H p o) where
 pre:=List.prefix_append _ _
 ban:=fun _ h=>.inl h
 new:=fun a z=>z.elim .inl fun e=>.inr (e▸⟨h,kf⟩)
 rnew:=fun a z=>(List.mem_append.mp z).elim .inl fun q=>.inr (by rw [List.mem_singleton.mp q];exact h)
 keep:=fun a u _ q=>by rw [QX (Zm q h)];exact q
 trk:=(Gr.laid (K:=K) (ρ:=ρ) (B:=B) h).trk
theorem WOk.wnew {p:Addr} {o:HO} {v:OV} (W:WOk K ρ B hp H) (h:H p=none) (kf:K.lookup p=none) (hv:ORep K (ρ++[p]) (jZ B p) (upd H p o) p v):WOk K (ρ++[p]) (jZ B p) (hp++[v]) (upd H p o) where
 len:=by simp [W.len]
 nd:=List.nodup_append.mpr ⟨W.nd,by simp,fun a ha b hb=>by rw [List.mem_singleton.mp hb];exact fun z=>W.bt a (W.rb a ha) (z▸h)⟩
 obj:=fun i a u e q=>by
  by_cases hi:i < ρ.length
  ·rw [List.getElem?_append_left hi] at e
   rw [List.getElem?_append_left (by rw [<- W.len];exact hi)] at q
   exact ORep.gs ((Gr.wnew h kf).gs W.rb) (QX (fun z=>W.bt a (W.rb a (List.mem_of_getElem? e)) (z▸h))) (W.obj i a u e q)
  ·rw [List.getElem?_append_right (by omega)] at e
   rw [List.getElem?_append_right (by rw [<- W.len];omega)] at q
   have hi0:i - ρ.length=0:=by
    have:=(List.getElem?_eq_some_iff.mp e).1
    simp at this;omega
   rw [hi0] at e
   rw [<- W.len,hi0] at q
   simp at e q
   subst e q
   exact hv
 rb:=fun a z=>(List.mem_append.mp z).elim (fun q=>.inl (W.rb a q)) fun q=>.inr (List.mem_singleton.mp q)
 bt:=fun a z q=>by
  have q':=(Gr.laid (K:=K) (ρ:=ρ) (B:=B) h).trk a q
  rcases z with z | rfl
  ·exact W.bt a z q'
  ·rw [Za] at q;cases q
 bk:=fun a z=>z.elim (W.bk a) fun e=>e▸kf
theorem Gr.wset {i:Nat} {a:Addr} {o o':HO} (ha:ρ[i]?=some a) (h:H a=some o):Gr K ρ B H ρ B (upd H a o') where
 pre:=List.prefix_rfl
 ban:=fun _ h=>h
 new:=fun _ h=>.inl h
 rnew:=fun _ h=>.inl h
 keep:=fun b u nb q=>by rw [QX (show b≠a from fun z=>nb (by rw [z];exact List.mem_of_getElem? ha))];exact q
 trk:=fun b q=>by
  by_cases e:b=a
  ·subst e;rw [Za] at q;cases q
  ·rw [QX e] at q;exact q
theorem WOk.wset {i:Nat} {a:Addr} {o o':HO} {v:OV} (W:WOk K ρ B hp H) (ha:ρ[i]?=some a) (h:H a=some o) (hv:ORep K ρ B (upd H a o') a v):WOk K ρ B (hp.set i v) (upd H a o') where
 len:=by simp [W.len]
 nd:=W.nd
 obj:=fun j b u e q=>by
  by_cases hj:j=i
  ·subst hj
   rw [ha] at e;cases e
   have hl:j < hp.length:=by rw [<- W.len];exact (List.getElem?_eq_some_iff.mp ha).1
   rw [List.getElem?_set_self hl] at q;cases q
   exact hv
  ·rw [List.getElem?_set_ne (Ne.symm hj)] at q
   have hb:b≠a:=fun z=>hj (by
    subst z
    exact (List.getElem?_inj (List.getElem?_eq_some_iff.mp e).1 W.nd).mp (e.trans ha.symm))
   exact ORep.gs ((Gr.wset ha h).gs W.rb) (QX hb) (W.obj j b u e q)
 rb:=W.rb
 bt:=fun b z q=>W.bt b z ((Gr.wset (K:=K) (B:=B) ha h).trk b q)
 bk:=W.bk
end
section
variable {X:Cx} {e a b c:Expr} {f fa fb fc:DEx} {pos:Pos}
def XU (o:OV):M DV:=fun h=>some (.ref h.length,h++[o])
def Jn (i:Nat):M OV:=fun h=>match h[i]? with
 | some o=>some (o,h)
 | none=>none
def jL (i:Nat) (o:OV):M Unit:=fun h=>some ((),h.set i o)
theorem Jq {i:Nat} {o:OV} {hp hp':Hs} (h:Jn i hp=some (o,hp')):hp[i]?=some o/\hp=hp':=by
 unfold Jn at h
 cases q:hp[i]? with
 | none=>rw [q] at h;cases h
 | some z=>rw [q] at h;cases h;exact ⟨rfl,rfl⟩
def Ym (f:DAx):DEx:=fun env=>do let ds <- f env;QE (qY ds);XU (.lst ds)
theorem K6 {K:PySem.W.Frag} {ρ:List Addr} {B:Addr->Prop} {H:Hp} {hp:Hs} {ds:List DV} {xs:List V} {Q:VK} (W:WOk K ρ B hp H) (r:RepL K ρ B H ds xs) (k:Fol K ρ B H (.ref hp.length) (hp++[.lst ds]) Q):∀ p,H p=none->gX K (upd H p (.lst xs))->Q (.ref p) (upd H p (.lst xs)):=fun p hp' kf=>by
 have kp:=kf p _ Za
 have g:Gr K ρ B H (ρ++[p]) (jZ B p) (upd H p (.lst xs)):=Gr.wnew hp' kp
 refine k _ _ _ _ g (W.wnew hp' kp ⟨xs,Za,RepL.grow W.rb g _ _ r⟩) ?_
 unfold RepV
 exact ⟨p,rfl,by rw [<- W.len];simp⟩
theorem ko {es:List Expr} {f:DAx} (h:DA X es f):DE X (.List es pos) (Ym f) :=
 L2.PE.imp (QcE h).kf fun σ H Q ⟨Z,env,ρ,B,hp,d,hp',S,e,k⟩=>by
  obtain ⟨xs,hp1,e1,e2⟩:=Qj e
  obtain ⟨_,hp2,e3,e4⟩:=Qj e2
  obtain ⟨hs,rfl⟩:=QL e3
  cases e4
  exact tDA.run S e1 fun vs ρ1 B1 H1 g1 S1 r1=>⟨by rw [<- r1.length];exact zM hs,K6 S1.wo r1 (k.after g1)⟩
theorem RepV.refW {K:PySem.W.Frag} {ρ:List Addr} {B:Addr->Prop} {H:Hp} {hp:Hs} {i:Nat} {o:OV} {v:V} (W:WOk K ρ B hp H) (r:RepV K ρ B H (.ref i) v) (h:hp[i]?=some o):∃ a,v=.ref a/\ρ[i]?=some a/\ORep K ρ B H a o:=by
 obtain ⟨a,rfl,e⟩:=r.refI
 exact ⟨a,rfl,e,W.obj i a o e h⟩
def ixW:DV->DV->M DV
  | .ref n,.int i=>do
    match <- Jn n with
    | .lst ds=>match atI ds i with
      | some d=>pure d
      | none=>failure
    | _=>failure
  | x,y=>ixD x y
def yu:List DV->M DV
  | [.ref n]=>do
    match <- Jn n with
    | .lst ds=>pure (.tup ds)
    | _=>failure
  | xs=>Qgq xs
theorem Yl:CallR X (.type "tuple") (tPn X.K yu):=by
  intro pins s σ H xs us Q I r h
  obtain ⟨ρ,B,hp,ds,d,hp',W,rl,e,k⟩:=h
  unfold yu at e
  split at e
  . rename_i n
    obtain ⟨o,hp1,e1,e2⟩:=Qj e
    obtain ⟨e3,rfl⟩:=Jq e1
    cases o with
    | dic _=>cases e2
    | ins _ _=>cases e2
    | lst zs =>
      obtain ⟨rfl,rfl⟩:=Qo e2
      obtain ⟨v,rfl,rv⟩:=rl.oneI
      obtain ⟨a,rfl,_,ys,h1,l1⟩:=RepV.refW W rv e3
      exact YM pins s σ H _ us Q I r ⟨a,ys,rfl,.inl ⟨SqL.of h1,xg W l1 k⟩⟩
  . exact QdI pins s σ H xs us Q I r ⟨ρ,B,hp,_,d,hp',W,rl,e,k⟩
end
end D
namespace D
open PySem PySem.Spec PyProof.Rows L2
theorem Qb3 {P:Program} {w:World} {K:PySem.W.Frag} {mg:Str->Option Value} {base:Heap} {x:Str} {stm:Stmt} {g:Addr} {fd:FuncData} {ps:List Str} {k:Nat} (F:Fun K x x stm g fd) (hm:mg x=some (.ref g))
  (hb:∀ (kV doc pm:Value) (an:Option Addr) (cdv ct:Value) (us:List Value),us.length=ps.length->bindArgs (PySem.W.fnOf x x (JP stm) (ZY stm) (Qs stm) .none kV doc pm an cdv ct) ⟨us,[]⟩=pure (ps.zip us)) :
  Has P w K mg base x k ps.length (fun _=>failure):=by
 have no:∀ vs H Q E,¬ spD K ps.length (fun _=>failure) vs H Q E:=fun vs H Q E h=>by
  obtain ⟨_,ρ,B,hp,ds,d,hp',_,_,e,_⟩:=h
  cases e
 exact ⟨g,fd,ps,⟨fun vs H Q E h=>absurd h (no vs H Q E),fun A outer s H args us vs Q E _ _ _ _ h=>absurd h (no vs H Q E)⟩,F.binds hb,F.kp,hm⟩
end D
namespace D
open PySem PySem.Spec PyProof.Rows L2
section
variable {f g:DSx} {env env1 env2:En} {c ca cb:DTx} {e fa fb:DEx} {d x y:DV} {r:Fl×En}
end
theorem Qi {α β:Type} {m:M α} {k:α->M β} {x:α} {hp hp1:Hs} (h:m hp=some (x,hp1)):(m >>= k) hp=k x hp1:=by
 show (m hp).bind (fun p=>k p.1 p.2)=_
 rw [h];rfl
theorem Qk {f g:DSx} {env env1:En} {hp hp1:Hs} (h:f env hp=some ((.nx,env1),hp1)):Qq f g env hp=g env1 hp1:=Qi h
theorem QI {i:Nat} {f:DEx} {env:En} {d:DV} {hp hp1:Hs} (h:f env hp=some (d,hp1)):QA i f env hp=some ((.nx,env.set i (.val d)),hp1):=Qi h
theorem Qd0 {ds:List DV} {i:Int} {d:DV} (h:atI ds i=some d):ixD (.tup ds) (.int i)=pure d:=by simp only [ixD,h]
theorem VB (ds:List DV) (m:Nat):D.yZ ds none (some (m:Int))=ds.take m:=by
 unfold D.yZ
 rw [HT.sIx_nat]
 show (ds.drop 0).take (min m ds.length - 0)=ds.take m
 simp
theorem G9 (ds:List DV) (m:Nat):D.yZ ds (some (m:Int)) none=ds.drop m:=by
 unfold D.yZ
 rw [HT.sIx_nat]
 show (ds.drop (min m ds.length)).take (ds.length - min m ds.length)=ds.drop m
 rcases Nat.le_total m ds.length with h | h
 ·rw [Nat.min_eq_left h,List.take_of_length_le (by simp)]
 ·rw [Nat.min_eq_right h,List.drop_of_length_le h,List.drop_of_length_le (Nat.le_refl _)]
  simp
theorem Up (ds:List DV) (m:Nat):slD (.tup ds) none (some (m:Int))=pure (.tup (ds.take m)):=by rw [<- VB];rfl
theorem Uo (ds:List DV) (m:Nat):slD (.tup ds) (some (m:Int)) none=pure (.tup (ds.drop m)):=by rw [<- G9];rfl
theorem vj {f g:DEx} {env:En} {ds:List DV} {m:Nat} (h:f env=pure (.tup ds)) (h':g env=pure (.int (m:Int))):eSl f Zj (Zk g) env=pure (.tup (ds.take m)):=by
 simp only [eSl,Zj,Zk,h,h',pure_bind,asI,Up]
theorem vi {f g:DEx} {env:En} {ds:List DV} {m:Nat} (h:f env=pure (.tup ds)) (h':g env=pure (.int (m:Int))):eSl f (Zk g) Zj env=pure (.tup (ds.drop m)):=by
 simp only [eSl,Zj,Zk,h,h',pure_bind,asI,Uo]
end D
namespace L2
open PySem PySem.Spec PyProof.Rows
section
variable {X:Cx}
def QhN:R2:=fun x y H Q=>∃ a kvs k v,x=.ref a/\y=kV k/\H a=some (.dK kvs)/\ze kvs k=some v/\Q v H
theorem Qd2 (hu:X.A.units+1 < cLine):IxR X QhN:=by
 intro value slice pins s σ H x y v u Q I rx ry h hs
 obtain ⟨a,kvs,k,z,rfl,rfl,hH,hv,q⟩:=h
 cases rx
 have g:DGet H a (kV k) (some z):=hv▸DGet.k hH
 exact tail_any (vb I g) PySem.F.slot_dict_getitem.lookup (QaQ hu I g ry fun w' s' I' rw'=>⟨z,H,I',rw',q⟩) hs
def Qhf:V->V->V->Hp->(Hp->Prop)->Prop:=fun o i v H Q=>∃ a kvs k,o=.ref a/\i=kV k/\H a=some (.dK kvs)/\kvs.length < sizeLine/\Q (upd H a (.dK (zc kvs k v)))
theorem Qc7 (hu:X.A.units+1 < cLine):QdD X Qhf:=fun pins s σ H o i v ov iv u Q I ro ri rv h=>by
 obtain ⟨a,kvs,k,rfl,rfl,hH,hl,q⟩:=h
 cases ro
 exact QaR hu I (DPut.k hH hl) ri rv fun s' I'=>⟨_,I',q⟩
def Qhe:V->List V->Hp->VK->Prop:=fun x vs H Q=>∃ a kvs k,x=.ref a/\H a=some (.dK kvs)/\((vs=[kV k]/\Q ((ze kvs k).getD .non) H)∨∃ z,vs=[kV k,z]/\Q ((ze kvs k).getD z) H)
theorem kX (hu:X.A.units+1 < cLine):MtR X "dict.get" Qhe:=by
 intro pins s σ H x vs v us Q I rx rv h
 obtain ⟨a,kvs,k,rfl,hH,h⟩:=h
 cases rx
 rcases h with ⟨rfl,q⟩ | ⟨z,rfl,q⟩
 ·obtain ⟨u,rfl,ru⟩:=yQ rv
  exact Qfn hu I (DGet.k hH) ru fun w' s' I' rw'=>⟨_,H,I',rw',q⟩
 ·obtain ⟨u,u2,rfl,ru,ru2⟩:=Qdt rv
  exact Qfo hu I (DGet.k hH) ru ru2 fun w' s' I' rw'=>⟨_,H,I',rw',q⟩
def QgU (n:Nat) (i:Int):Nat:=if i < 0 then (i+(n:Int)).toNat else min i.toNat n
end
end L2
namespace D
open PySem PySem.Spec PyProof.Rows L2
def X6:DV->Option Key
 | .int i=>some (.inl i)
 | .str x=>some (.inr x)
 | _=>none
def Jw (kvs:List (Key×DV)) (k:Key):Option DV:=(kvs.find? fun kv=>decide (kv.1=k)).map (·.2)
def JT (kvs:List (Key×DV)) (k:Key) (d:DV):List (Key×DV) :=
 if (kvs.any fun kv=>decide (kv.1=k))=true then kvs.map (fun kv=>if kv.1=k then (kv.1,d) else kv) else kvs++[(k,d)]
def qT (kvs:List (Key×DV)) (k:Key):List (Key×DV):=kvs.filter fun kv=>decide (kv.1≠k)
section
variable {K:PySem.W.Frag} {ρ:List Addr} {B:Addr->Prop} {H:Hp} {hp:Hs}
theorem Y6 {d:DV} {k:Key} {v:V} (h:X6 d=some k) (r:RepV K ρ B H d v):v=kV k:=by
 cases d<;>simp [X6] at h<;>subst h
 ·exact r.intI
 ·exact r.strI
abbrev RepK (K:PySem.W.Frag) (ρ:List Addr) (B:Addr->Prop) (H:Hp):List (Key×DV)->List (Key×V)->Prop:=Paired fun p q=>p.1=q.1/\RepV K ρ B H p.2 q.2
theorem Qae:∀ {kvs:List (Key×DV)} {xs:List (Key×V)},xs.map (·.1)=kvs.map (·.1)->RepL K ρ B H (kvs.map (·.2)) (xs.map (·.2))->RepK K ρ B H kvs xs
  | [],[],_,_=>.nil
  | [],_::_,e,_=>by simp at e
  | _::_,[],e,_=>by simp at e
  | p::kvs,q::xs,e,r=>by
    simp only [List.map_cons,List.cons.injEq] at e
    simp only [List.map_cons] at r
    unfold RepL at r
    obtain ⟨x,t,e2,h1,h2⟩:=r
    simp only [List.cons.injEq] at e2
    obtain ⟨rfl,rfl⟩:=e2
    exact .cons ⟨e.1.symm,h1⟩ (Qae e.2 h2)
theorem RepK.to {kvs:List (Key×DV)} {xs:List (Key×V)} (r:RepK K ρ B H kvs xs):xs.map (·.1)=kvs.map (·.1)/\RepL K ρ B H (kvs.map (·.2)) (xs.map (·.2)):=by
 induction r with
 | nil=>exact ⟨rfl,RepL.nil⟩
 | cons h _ ih=>exact ⟨by simp [ih.1,h.1],by simpa using RepL.cons h.2 ih.2⟩
theorem RepK.val {kvs:List (Key×DV)} {xs:List (Key×V)} (r:RepK K ρ B H kvs xs) (k:Key):(Jw kvs k=none/\ze xs k=none)∨∃ d v,Jw kvs k=some d/\ze xs k=some v/\RepV K ρ B H d v:=by
  induction r with
  | nil=>exact .inl ⟨rfl,rfl⟩
  | @cons p q _ _ h _ ih =>
    by_cases e:p.1=k
    . exact .inr ⟨p.2,q.2,by simp [Jw,List.find?_cons,e],by simp [ze,List.find?_cons,h.1▸e],h.2⟩
    . have e':¬ q.1=k:=h.1▸e
      simpa [Jw,ze,List.find?_cons,e,e'] using ih
theorem RepK.any {kvs:List (Key×DV)} {xs:List (Key×V)} (r:RepK K ρ B H kvs xs) (k:Key):(kvs.any fun kv=>decide (kv.1=k))=xs.any fun kv=>decide (kv.1=k):=by
 induction r with
 | nil=>rfl
 | cons h _ ih=>simp only [List.any_cons,ih,h.1]
theorem RepK.repl {kvs:List (Key×DV)} {xs:List (Key×V)} (r:RepK K ρ B H kvs xs) (k:Key) {d:DV} {v:V} (rd:RepV K ρ B H d v):RepK K ρ B H (kvs.map fun kv=>if kv.1=k then (kv.1,d) else kv) (xs.map fun kv=>if kv.1=k then (kv.1,v) else kv):=by
  induction r with
  | nil=>exact .nil
  | @cons p q _ _ h _ ih =>
    refine .cons ?_ ih
    dsimp only
    by_cases e:p.1=k
    . rw [if_pos e,if_pos (h.1▸e)];exact ⟨h.1,rd⟩
    . rw [if_neg e,if_neg (h.1▸e)];exact h
theorem RepK.snoc {kvs:List (Key×DV)} {xs:List (Key×V)} (r:RepK K ρ B H kvs xs) {k:Key} {d:DV} {v:V} (rd:RepV K ρ B H d v):RepK K ρ B H (kvs++[(k,d)]) (xs++[(k,v)]):=by
 induction r with
 | nil=>exact .cons ⟨rfl,rd⟩ .nil
 | cons h _ ih=>exact .cons h ih
theorem RepK.put {kvs:List (Key×DV)} {xs:List (Key×V)} (r:RepK K ρ B H kvs xs) (k:Key) {d:DV} {v:V} (rd:RepV K ρ B H d v):RepK K ρ B H (JT kvs k d) (zc xs k v):=by
 unfold JT zc
 rw [r.any k]
 split
 ·exact r.repl k rd
 ·exact r.snoc rd
theorem RepK.len {kvs:List (Key×DV)} {xs:List (Key×V)} (r:RepK K ρ B H kvs xs):kvs.length=xs.length:=Paired.length r
theorem RepK.gs {ρ':List Addr} {B':Addr->Prop} {H':Hp} {kvs:List (Key×DV)} {xs:List (Key×V)} (g:Gs K ρ B H ρ' B' H') (r:RepK K ρ B H kvs xs):RepK K ρ' B' H' kvs xs:=L2.Paired.mapP r fun _ _ h=>⟨h.1,RepV.gs g _ _ h.2⟩
theorem ORep.dic {a:Addr} {kvs:List (Key×DV)} (h:ORep K ρ B H a (.dic kvs)):∃ xs,H a=some (.dK xs)/\RepK K ρ B H kvs xs:=by
 obtain ⟨xs,e,ek,rl⟩:=h
 exact ⟨xs,e,Qae ek rl⟩
theorem RepK.orep {a:Addr} {kvs:List (Key×DV)} {xs:List (Key×V)} (r:RepK K ρ B H kvs xs) (e:H a=some (.dK xs)):ORep K ρ B H a (.dic kvs):=⟨xs,e,r.to.1,r.to.2⟩
theorem Qdy {n:Nat} {a:Addr} {xs xs':List (Key×V)} {kvs':List (Key×DV)} (W:WOk K ρ B hp H) (i:ρ[n]?=some a) (e:H a=some (.dK xs)) (r:RepK K ρ B H kvs' xs'):Gr K ρ B H ρ B (upd H a (.dK xs'))/\WOk K ρ B (hp.set n (.dic kvs')) (upd H a (.dK xs')):=by
 have g:Gr K ρ B H ρ B (upd H a (.dK xs')):=Gr.wset i e
 exact ⟨g,W.wset (o':=.dK xs') (v:=.dic kvs') i e ((r.gs (g.gs W.rb)).orep Za)⟩
theorem UA {n:Nat} {a:Addr} {o:HO} {xs':List V} {ds':List DV} (W:WOk K ρ B hp H) (i:ρ[n]?=some a) (e:H a=some o) (r:RepL K ρ B H ds' xs'):Gr K ρ B H ρ B (upd H a (.lst xs'))/\WOk K ρ B (hp.set n (.lst ds')) (upd H a (.lst xs')):=by
 have g:Gr K ρ B H ρ B (upd H a (.lst xs')):=Gr.wset i e
 exact ⟨g,W.wset (o':=.lst xs') (v:=.lst ds') i e ⟨xs',Za,RepL.grow W.rb g _ _ r⟩⟩
end
section
variable {X:Cx} {e a b c:Expr} {f fa fb fc:DEx} {pos:Pos}
def YT (o:Option DV):M DV:=match o with
 | some d=>pure d
 | none=>failure
theorem yj {o:Option DV} {d:DV} {hp hp':Hs} (h:YT o hp=some (d,hp')):o=some d/\hp=hp':=by
 cases o with
 | none=>cases h
 | some z=>obtain ⟨rfl,rfl⟩:=Qo h;exact ⟨rfl,rfl⟩
def J4 (d:DV):M Key:=match X6 d with
 | some k=>pure k
 | none=>failure
theorem Y8 {d:DV} {k:Key} {hp hp':Hs} (h:J4 d hp=some (k,hp')):X6 d=some k/\hp=hp':=by
 unfold J4 at h
 cases q:X6 d with
 | none=>rw [q] at h;cases h
 | some z=>rw [q] at h;obtain ⟨rfl,rfl⟩:=Qo h;exact ⟨rfl,rfl⟩
def ixG:DV->DV->M DV
  | .ref n,y=>do
    match <- Jn n with
    | .lst ds=>do let i <- asI y;YT (atI ds i)
    | .dic kvs=>do let k <- J4 y;YT (Jw kvs k)
    | _=>failure
  | x,y=>ixD x y
theorem Qg5 (hu:X.A.units+1 < cLine):IxR X (tP2 X.K ixG):=by
  intro value slice pins s σ H x y v u Q I rx ry h hsub
  obtain ⟨ρ,B,hp,dx,dy,d,hp',W,r1,r2,e,k⟩:=h
  unfold ixG at e
  split at e
  . rename_i n
    obtain ⟨o,hp1,e1,e2⟩:=Qj e
    obtain ⟨e3,rfl⟩:=Jq e1
    obtain ⟨a,rfl,i1,ro⟩:=RepV.refW W r1 e3
    cases o with
    | ins _ _=>cases e2
    | dic kvs =>
      obtain ⟨ky,hp2,e4,e5⟩:=Qj e2
      obtain ⟨hk,rfl⟩:=Y8 e4
      obtain ⟨hv,rfl⟩:=yj e5
      obtain ⟨xs,h1,rk⟩:=ro.dic
      rcases rk.val ky with ⟨z,_⟩ | ⟨d',v',z,zv,rz⟩
      . rw [hv] at z;cases z
      . rw [hv] at z;cases z
        exact Qd2 hu value slice pins s σ H _ _ v u Q I rx ry ⟨a,xs,ky,v',rfl,Y6 hk r2,h1,zv,k _ ρ B H Gr.refl W rz⟩ hsub
    | lst ds =>
      obtain ⟨i,hp2,e4,e5⟩:=Qj e2
      obtain ⟨rfl,rfl⟩:=Vu e4
      obtain ⟨hv,rfl⟩:=yj e5
      obtain ⟨xs,h1,l1⟩:=ro
      obtain ⟨z,hz,rz⟩:=KQ l1 hv
      exact kQ value slice pins s σ H _ _ v u Q I rx ry ⟨a,xs,i,z,rfl,r2.intI,SqL.of h1,hz,k _ ρ B H Gr.refl W rz⟩ hsub
  . exact Qg4 value slice pins s σ H x y v u Q I rx ry ⟨ρ,B,hp,_,_,d,hp',W,r1,r2,e,k⟩ hsub
theorem Qp (hu:X.A.units+1 < cLine) (ha:DE X a fa) (hb:DE X b fb) (hs:KN b:=by intro _ _;rfl):DE X (.Subscript a b pos) (Qf ixG fa fb):=L2.PE.imp (Qe8 (Qg5 hu) ha hb hs) fun _ _ _ h=>zo h
def Jr:List DV->M DV
  | [.ref n]=>do
    match <- Jn n with
    | .lst ds=>pure (.int ds.length)
    | .dic kvs=>pure (.int kvs.length)
    | _=>failure
  | xs=>qH xs
theorem J0:CallR X (.builtin "len") (tPn X.K Jr):=by
  intro pins s σ H xs us Q I r h
  obtain ⟨ρ,B,hp,ds,d,hp',W,rl,e,k⟩:=h
  unfold Jr at e
  split at e
  . rename_i n
    obtain ⟨o,hp1,e1,e2⟩:=Qj e
    obtain ⟨e3,rfl⟩:=Jq e1
    obtain ⟨v,rfl,rv⟩:=rl.oneI
    obtain ⟨a,rfl,_,ro⟩:=RepV.refW W rv e3
    cases o with
    | ins _ _=>cases e2
    | lst zs =>
      obtain ⟨rfl,rfl⟩:=Qo e2
      obtain ⟨ys,h1,l1⟩:=ro
      exact qA pins s σ H _ us Q I r ⟨a,ys,rfl,.inl (SqL.of h1),by rw [<- l1.length];exact k _ ρ B H Gr.refl W JH⟩
    | dic kvs =>
      obtain ⟨rfl,rfl⟩:=Qo e2
      obtain ⟨ys,h1,l1⟩:=ro.dic
      exact QaM pins s σ H _ us Q I r ⟨a,ys,rfl,h1,by rw [<- l1.len];exact k _ ρ B H Gr.refl W JH⟩
  . exact ki pins s σ H xs us Q I r ⟨ρ,B,hp,_,d,hp',W,rl,e,k⟩
def Qhk:DV->M (List DV)
  | .tup ds=>pure ds
  | .lst ds=>pure ds
  | .ref n=>do
    match <- Jn n with
    | .lst ds=>pure ds
    | _=>failure
  | _=>failure
theorem Qc5 {d:DV} {ds:List DV} {hp hp':Hs} {K:PySem.W.Frag} {ρ:List Addr} {B:Addr->Prop} {H:Hp} {v:V} (W:WOk K ρ B hp H) (r:RepV K ρ B H d v) (h:Qhk d hp=some (ds,hp')):hp=hp'/\∃ p xs,v=.ref p/\(SqL K H p xs∨SqT K H p xs)/\RepL K ρ B H ds xs:=by
  cases d with
  | tup xs =>
    obtain ⟨rfl,rfl⟩:=Qo h
    obtain ⟨a,ys,rfl,_,sq,l⟩:=r.tupI
    exact ⟨rfl,a,ys,rfl,.inr sq,l⟩
  | lst xs =>
    obtain ⟨rfl,rfl⟩:=Qo h
    obtain ⟨a,ys,rfl,_,sq,l⟩:=r.lstI
    exact ⟨rfl,a,ys,rfl,.inl sq,l⟩
  | ref n =>
    obtain ⟨o,hp1,e1,e2⟩:=Qj (show (Jn n >>= fun o=>(match o with | .lst ds=>pure ds | _=>failure:M (List DV))) hp=some (ds,hp') from h)
    obtain ⟨e3,rfl⟩:=Jq e1
    cases o with
    | lst zs =>
      obtain ⟨rfl,rfl⟩:=Qo e2
      obtain ⟨a,rfl,_,ys,h1,l1⟩:=RepV.refW W r e3
      exact ⟨rfl,a,ys,rfl,.inl (SqL.of h1),l1⟩
    | dic _=>cases e2
    | ins _ _=>cases e2
  | non=>cases h
  | bl _=>cases h
  | int _=>cases h
  | str _=>cases h
def Qd5 (g:DV->M DV):List DV->M DV
 | [d]=>g d
 | _=>failure
def QgW:List DV->M DV:=Qd5 fun d=>do let ds <- Qhk d;XU (.lst ds)
theorem Kn {g:DV->M DV} {ds:List DV} {d:DV} {hp hp':Hs} (h:Qd5 g ds hp=some (d,hp')):∃ x,ds=[x]/\g x hp=some (d,hp'):=by
 unfold Qd5 at h
 split at h
 ·exact ⟨_,rfl,h⟩
 ·cases h
theorem _root_.L2.CallR.kf {f:Value} {r:List V->Hp->VK->Prop} (h:CallR X f r):CallR X f (fun xs H Q=>r xs H fun v H'=>gX X.K H'->Q v H'):=by
 intro pins s σ H xs us Q I rv q
 refine thn (h pins s σ H xs us _ I rv q) fun v s' ⟨x,H',I',rx,q'⟩=>⟨x,H',I',rx,q' (Inv.kfree I')⟩
theorem QdH:CallR X (.type "list") (tPn X.K QgW):=by
 intro pins s σ H xs us Q I r h
 obtain ⟨ρ,B,hp,ds,d,hp',W,rl,e,k⟩:=h
 obtain ⟨x,rfl,e⟩:=Kn e
 obtain ⟨zs,hp1,e1,e2⟩:=Qj e
 obtain ⟨v,rfl,rv⟩:=rl.oneI
 obtain ⟨rfl,p,ys,rfl,sq,l⟩:=Qc5 W rv e1
 cases e2
 exact call_list_of.kf pins s σ H _ us Q I r ⟨p,ys,rfl,sq,K6 W l k⟩
end
end D
namespace D
open PySem PySem.Spec PyProof.Rows L2
def drf:Nat->Hs->DV->Option DV
  | 0,_,_=>none
  | n+1,hp,d=>match d with
    | .ref i=>match hp[i]? with
      | some (.lst ds)=>(ds.mapM (drf n hp)).map .lst
      | _=>none
    | .tup ds=>(ds.mapM (drf n hp)).map .tup
    | .lst ds=>(ds.mapM (drf n hp)).map .lst
    | d=>some d
theorem VU {α β:Type} {f:α->Option β} {x:α} {xs:List α} {ys:List β} (h:(x::xs).mapM f=some ys):∃ y zs,f x=some y/\xs.mapM f=some zs/\ys=y::zs:=by
  rw [List.mapM_cons] at h
  cases q:f x with
  | none=>rw [q] at h;cases h
  | some y =>
    cases q2:xs.mapM f with
    | none=>rw [q,q2] at h;cases h
    | some zs=>rw [q,q2] at h;exact ⟨y,zs,rfl,rfl,(Option.some.inj h).symm⟩
section
variable {X:Cx} {pins:List (Addr×Obj)} {σ:St} {H:Hp} {s:Shared} {ρ:List Addr} {B:Addr->Prop} {hp:Hs}
theorem Y9 (I:Inv X pins σ H s) (W:WOk X.K ρ B hp H):∀ (n:Nat) (d d':DV) (v:V) (u:Value),drf n hp d=some d'->RepV X.K ρ B H d v->RelV v u->∃ as,Reads s.heap u (toP d') as
  | 0,_,_,_,_,h,_,_=>by cases h
  | n+1,d,d',v,u,h,r,ru=>by
    have all:∀ (ds ds':List DV) (xs:List V) (us:List Value),ds.mapM (drf n hp)=some ds'->RepL X.K ρ B H ds xs->Vals xs us->∃ as,ReadsAll s.heap us (toPs ds') as:=by
      intro ds
      induction ds with
      | nil =>
        intro ds' xs us h r ru
        rw [List.mapM_nil] at h;cases h
        unfold RepL at r;subst r;cases ru
        exact ⟨[],by unfold toPs;exact .nil⟩
      | cons x ds ih =>
        intro ds' xs us h r ru
        obtain ⟨y,zs,h1,h2,rfl⟩:=VU h
        unfold RepL at r
        obtain ⟨z,t,rfl,r1,r2⟩:=r
        cases ru with
        | cons q1 q2 =>
          obtain ⟨as,a1⟩:=Y9 I W n x y z _ h1 r1 q1
          obtain ⟨bs,a2⟩:=ih zs t _ h2 r2 q2
          exact ⟨_,by unfold toPs;exact .cons a1 a2⟩
    have lst:∀ (ds ds':List DV) (a:Addr) (xs:List V),ds.mapM (drf n hp)=some ds'->SqL X.K H a xs->RepL X.K ρ B H ds xs->∃ as,Reads s.heap (.ref a) (toP (.lst ds')) as:=by
      intro ds ds' a xs h sq rl
      obtain ⟨its,rv,⟨o,k,e,hc,_,hd⟩,_⟩:=I.list sq
      obtain ⟨as,q⟩:=all ds ds' xs its h rl rv
      exact ⟨_,by unfold toP;exact reads_list_at e hc hd (by simpa using q)⟩
    unfold drf at h
    cases d with
    | non=>cases h;obtain rfl:=r.nonI;cases ru;exact ⟨[],by unfold toP;exact .none⟩
    | bl b=>cases h;obtain rfl:=r.blI;cases ru;exact ⟨[],by unfold toP;exact .bool b⟩
    | int i=>cases h;obtain rfl:=r.intI;obtain ⟨t,rfl⟩:=ru;exact ⟨[],by unfold toP;exact .int i t⟩
    | str x=>cases h;obtain rfl:=r.strI;obtain ⟨t,rfl⟩:=ru;exact ⟨[],by unfold toP;exact .str x t⟩
    | tup ds =>
      obtain ⟨ds',h1,rfl⟩:=Option.map_eq_some_iff.mp h
      obtain ⟨a,xs,rfl,_,sq,rl⟩:=r.tupI
      cases ru
      obtain ⟨its,rv,⟨o,e,hc,k,hd⟩,_⟩:=I.tuple sq
      obtain ⟨as,q⟩:=all ds ds' xs its h1 rl rv
      exact ⟨_,by unfold toP;exact reads_tuple_at e hc hd (by simpa using q)⟩
    | lst ds =>
      obtain ⟨ds',h1,rfl⟩:=Option.map_eq_some_iff.mp h
      obtain ⟨a,xs,rfl,_,sq,rl⟩:=r.lstI
      cases ru
      exact lst ds ds' a xs h1 sq rl
    | ref i =>
      cases q:hp[i]? with
      | none=>simp only [q] at h;cases h
      | some o =>
        simp only [q] at h
        cases o with
        | dic _=>cases h
        | ins _ _=>cases h
        | lst ds =>
          obtain ⟨ds',h1,rfl⟩:=Option.map_eq_some_iff.mp h
          obtain ⟨a,rfl,_,xs,h2,l⟩:=RepV.refW W r q
          cases ru
          exact lst ds ds' a xs h1 (SqL.of h2) l
end
def QaS (d:DV):M DV:=fun hp=>(drf 40 hp d).map fun x=>(x,hp)
theorem Kb {d d':DV} {hp hp':Hs} (h:QaS d hp=some (d',hp')):drf 40 hp d=some d'/\hp=hp':=by
 obtain ⟨x,h1,h2⟩:=Option.map_eq_some_iff.mp h
 cases h2;exact ⟨h1,rfl⟩
def y3 (x y:DV):M Bool:=do
 let x' <- QaS x
 let y' <- QaS y
 QE (SeqAt.shaped (toP x')&&SeqAt.shaped (toP y'))
 pure (PyData.eqv (toP x') (toP y'))
def eqG:DV->DV->M DV:=fun x y=>do let b <- y3 x y;pure (.bl b)
def neG:DV->DV->M DV:=fun x y=>do let b <- y3 x y;pure (.bl (!b))
section
variable {X:Cx} {e a b c:Expr} {f fa fb fc:DEx} {ca cb:DTx} {pos:Pos}
theorem Ke {x y:DV} {k:Bool} {hp hp':Hs} (h:y3 x y hp=some (k,hp')):∃ x' y',drf 40 hp x=some x'/\drf 40 hp y=some y'/\SeqAt.shaped (toP x')=true/\SeqAt.shaped (toP y')=true/\k=PyData.eqv (toP x') (toP y')/\hp=hp':=by
 obtain ⟨x',hp1,e1,h⟩:=Qj h
 obtain ⟨y',hp2,e2,h⟩:=Qj h
 obtain ⟨_,hp3,e3,h⟩:=Qj h
 obtain ⟨q1,rfl⟩:=Kb e1
 obtain ⟨q2,rfl⟩:=Kb e2
 obtain ⟨hs,rfl⟩:=QL e3
 obtain ⟨rfl,rfl⟩:=Qo h
 rw [Bool.and_eq_true] at hs
 exact ⟨x',y',q1,q2,hs.1,hs.2,rfl,rfl⟩
theorem Yy (hu:X.A.units+64 < cLine):P2 X (compareOp .Eq) eqG:=by
 intro pins s σ H x y v u Q I rx ry h
 obtain ⟨ρ,B,hp,dx,dy,d,hp',W,r1,r2,e,k⟩:=h
 obtain ⟨b,hp1,e1,e2⟩:=Qj e
 obtain ⟨rfl,rfl⟩:=Qo e2
 obtain ⟨x',y',q1,q2,s1,s2,rfl,rfl⟩:=Ke e1
 obtain ⟨as,a1⟩:=Y9 I W _ _ _ _ _ q1 r1 rx
 obtain ⟨bs,a2⟩:=Y9 I W _ _ _ _ _ q2 r2 ry
 exact eq_dataH a1 a2 s1 s2 hu ⟨.bl _,H,I,rfl,k _ ρ B H Gr.refl W XZ⟩
theorem V1 (hu:X.A.units+64 < cLine):P2 X (compareOp .NotEq) neG:=by
 intro pins s σ H x y v u Q I rx ry h
 obtain ⟨ρ,B,hp,dx,dy,d,hp',W,r1,r2,e,k⟩:=h
 obtain ⟨b,hp1,e1,e2⟩:=Qj e
 obtain ⟨rfl,rfl⟩:=Qo e2
 obtain ⟨x',y',q1,q2,s1,s2,rfl,rfl⟩:=Ke e1
 obtain ⟨as,a1⟩:=Y9 I W _ _ _ _ _ q1 r1 rx
 obtain ⟨bs,a2⟩:=Y9 I W _ _ _ _ _ q2 r2 ry
 exact ne_dataH a1 a2 s1 s2 hu ⟨.bl _,H,I,rfl,k _ ρ B H Gr.refl W XZ⟩
def Kf:DV->Bool
 | .non=>true
 | .bl _=>true
 | .int _=>true
 | .str _=>true
 | _=>false
def eqF:DV->DV->Bool
 | .non,.non=>true
 | .bl a,.bl b=>a==b
 | .bl a,.int b=>(if a then 1 else 0)==b
 | .int a,.bl b=>a==(if b then 1 else 0)
 | .int a,.int b=>a==b
 | .str a,.str b=>a==b
 | _,_=>false
def inB (d:DV) (ds:List DV):Bool:=ds.any fun y=>eqF y d
def Qh3 (x:DV):DV->M Bool
  | .ref n=>do
    match <- Jn n with
    | .lst ds=>do QE (Kf x&&ds.all Kf);pure (inB x ds)
    | .dic kvs=>do let k <- J4 x;pure (Jw kvs k).isSome
    | _=>failure
  | .tup ds=>do QE (Kf x&&ds.all Kf);pure (inB x ds)
  | .lst ds=>do QE (Kf x&&ds.all Kf);pure (inB x ds)
  | _=>failure
def jd (o i d:DV):M Unit:=match o with
  | .ref n=>do
    match <- Jn n with
    | .lst ds=>do
      let k <- asI i
      match ixN ds.length k with
      | some j=>jL n (.lst (ds.set j d))
      | none=>failure
    | .dic kvs=>do
      let k <- J4 i
      QE (decide (kvs.length < lim))
      jL n (.dic (JT kvs k d))
    | _=>failure
  | _=>failure
def tP3 (K:PySem.W.Frag) (g:DV->DV->DV->M Unit):QdE:=fun o i v H Q=>∃ ρ B hp dO di dv hp',WOk K ρ B hp H/\RepV K ρ B H dO o/\RepV K ρ B H di i/\RepV K ρ B H dv v/\g dO di dv hp=some ((),hp')/\∀ ρ' B' H',Gr K ρ B H ρ' B' H'->WOk K ρ' B' hp' H'->Q H'
theorem RepL.set {K:PySem.W.Frag} {ρ:List Addr} {B:Addr->Prop} {H:Hp} {d:DV} {x:V} (r:RepV K ρ B H d x):∀ {ds:List DV} {xs:List V} (i:Nat),RepL K ρ B H ds xs->RepL K ρ B H (ds.set i d) (xs.set i x)
  | [],_,i,h=>by unfold RepL at h;subst h;exact RepL.nil
  | _::ds,_,0,h=>by
    unfold RepL at h
    obtain ⟨y,t,rfl,_,h2⟩:=h
    exact RepL.cons r h2
  | _::ds,_,i+1,h=>by
    unfold RepL at h
    obtain ⟨y,t,rfl,h1,h2⟩:=h
    exact RepL.cons h1 (RepL.set r i h2)
theorem Qg6 (hu:X.A.units+1 < cLine):QdD X (tP3 X.K jd):=by
  intro pins s σ H o i v ov iv u Q I ro ri rv h
  obtain ⟨ρ,B,hp,dO,di,dv,hp',W,r1,r2,r3,e,k⟩:=h
  cases dO with
  | ref n =>
    obtain ⟨ob,hp1,e1,e2⟩:=Qj e
    obtain ⟨e3,rfl⟩:=Jq e1
    obtain ⟨a,rfl,i1,rob⟩:=RepV.refW W r1 e3
    cases ob with
    | ins _ _=>cases e2
    | lst ds =>
      obtain ⟨j,hp2,e4,e5⟩:=Qj e2
      obtain ⟨rfl,rfl⟩:=Vu e4
      obtain ⟨xs,h1,l1⟩:=rob
      cases q:ixN ds.length j with
      | none=>simp only [q] at e5;cases e5
      | some m =>
        simp only [q] at e5
        cases e5
        obtain ⟨g,W'⟩:=UA W i1 h1 (RepL.set r3 m l1)
        exact Qc8 pins s σ H _ _ v ov iv u Q I ro ri rv ⟨a,xs,j,m,rfl,r2.intI,h1,by rw [<- l1.length];exact q,k ρ B _ g W'⟩
    | dic kvs =>
      obtain ⟨ky,hp2,e4,e5⟩:=Qj e2
      obtain ⟨hk,rfl⟩:=Y8 e4
      obtain ⟨_,hp3,e6,e7⟩:=Qj e5
      obtain ⟨hl,rfl⟩:=QL e6
      cases e7
      obtain ⟨xs,h1,rk⟩:=rob.dic
      obtain ⟨g,W'⟩:=Qdy W i1 h1 (rk.put ky r3)
      exact Qc7 hu pins s σ H _ _ v ov iv u Q I ro ri rv ⟨a,xs,ky,rfl,Y6 hk r2,h1,by rw [<- rk.len];exact Nat.lt_of_lt_of_le (of_decide_eq_true hl) Go,k ρ B _ g W'⟩
  | non=>cases e
  | bl _=>cases e
  | int _=>cases e
  | str _=>cases e
  | tup _=>cases e
  | lst _=>cases e
def gSb (f g:DEx):DGx:=fun d env=>do
 let o <- f env
 let i <- g env
 jd o i d
 pure env
theorem Zy {o i:Expr} {fo fi:DEx} (hu:X.A.units+1 < cLine) (ho:DE X o fo) (hi:DE X i fi)
  (ha:∀ v,assign (.Subscript o i pos) X.env v=(do
   let ov <- holding [v] (eval o X.env)
   let iv <- holding [v,ov] (eval i X.env)
   standAt pos
   holding [v,ov,iv] (setItem ov iv v)
   release [v,ov,iv] []):=by intro _;rfl):PG X (.Subscript o i pos) (tDG X.K (gSb fo fi)):=by
 intro pins s σ H v u Q I r h
 refine Qf3 ho hi (Qg6 hu) ha pins s σ H v u Q I r ?_
 obtain ⟨Z,env,ρ,B,hp,d,env',hp',S,rd,e,k⟩:=h
 obtain ⟨x,hp1,e1,e⟩:=Qj e
 obtain ⟨y,hp2,e2,e⟩:=Qj e
 obtain ⟨z,hp3,e3,e⟩:=Qj e
 obtain ⟨rfl,rfl⟩:=Qo e
 refine tD.run S e1 fun vx ρ1 B1 H1 g1 S1 r1=>tD.run S1 e2 fun vy ρ2 B2 H2 g2 S2 r2=>?_
 exact ⟨ρ2,B2,hp2,x,y,d,hp3,S2.wo,RepV.grow S1.wo.rb g2 _ _ r1,r2,RepV.grow S.wo.rb (g1.trans g2) _ _ rd,e3,fun ρ3 B3 H3 g3 W3=>k _ ρ3 B3 H3 ((g1.trans (g2.trans g3)).gs S.wo.rb) (S2.grow g3 W3)⟩
def Xy:String->DV->M Unit
  | "list", .lst _=>pure ()
  | "str", .str _=>pure ()
  | T,.ref n=>do
    match <- Jn n with
    | .lst _=>QE (T == "list")
    | .dic _=>QE (T == "dict")
    | _=>failure
  | _,_=>failure
theorem Qb9 {T:String} {d:DV} {hp hp':Hs} {K:PySem.W.Frag} {ρ:List Addr} {B:Addr->Prop} {H:Hp} {v:V} {u:Unit} (W:WOk K ρ B hp H) (r:RepV K ρ B H d v) (h:Xy T d hp=some (u,hp')):hp=hp'/\tyV K T v H:=by
  unfold Xy at h
  split at h
  . obtain ⟨_,rfl⟩:=Qo h
    obtain ⟨a,xs,rfl,_,sq,_⟩:=r.lstI
    exact ⟨rfl,.inl ⟨rfl,xs,sq⟩⟩
  . obtain ⟨_,rfl⟩:=Qo h
    obtain rfl:=r.strI
    exact ⟨rfl,rfl⟩
  . obtain ⟨o,hp1,e1,e2⟩:=Qj h
    obtain ⟨e3,rfl⟩:=Jq e1
    obtain ⟨a,rfl,_,ro⟩:=RepV.refW W r e3
    cases o with
    | lst ds =>
      obtain ⟨hT,rfl⟩:=QL e2
      obtain ⟨xs,h1,_⟩:=ro
      exact ⟨rfl,.inl ⟨by simpa using hT,xs,SqL.of h1⟩⟩
    | dic kvs =>
      obtain ⟨hT,rfl⟩:=QL e2
      obtain ⟨xs,h1,_⟩:=ro
      exact ⟨rfl,.inr (.inr (.inl ⟨by simpa using hT,.inl ⟨xs,h1⟩⟩))⟩
    | ins _ _=>cases e2
  . cases h
def tPm (K:PySem.W.Frag) (m:DV->List DV->M DV):V->List V->Hp->VK->Prop:=fun x vs H Q=>∃ ρ B hp dx ds d hp',WOk K ρ B hp H/\RepV K ρ B H dx x/\RepL K ρ B H ds vs/\m dx ds hp=some (d,hp')/\Fol K ρ B H d hp' Q
def JX (T:String) (m:DV->List DV->M DV) (f:DEx) (a:DAx):DEx:=fun env=>do
 let x <- f env
 Xy T x
 let ds <- a env
 m x ds
theorem zj {T id:String} {name:Str} {o:Expr} {es:List Expr} {fo:DEx} {fs:DAx} {m:DV->List DV->M DV} {apos cpos:Pos} (hm:MtR X id (tPm X.K m)) (pa:PlainAttrs T) (slot:Slot T name id) (hty:typeOf (.builtin id)=pure (.type "method_descriptor")) (ho:DE X o fo) (ha:DA X (e::es) fs)
  (hbase:attributeBase o name X.env (eval o X.env)=eval o X.env:=by rfl)
  (hfew:((backTo cpos (starEach (e::es) X.env)).all (fun x=>!x.1)&&(backToKw cpos (keywordEach [] X.env)).all (fun x=>x.1.isSome)
   && decide ((e::es).length+([]:List Keyword).length+(if ([]:List Keyword).isEmpty then 0 else 1) < 30))=true:=by rfl)
  (hline:(apos.endLine==cpos.line)=true:=by rfl) (hs:starEach (e::es) X.env=(false,eval e X.env)::starEach es X.env:=by rfl) (hplain:(backTo cpos (starEach es X.env)).any (·.1)=false:=by rfl) :
  DE X (.Call (.Attribute o name apos) (e::es) [] cpos) (JX T m fo fs) :=
 L2.PE.imp (Qg8 pa slot hty hm ho ha hbase hfew hline hs hplain) fun σ H Q ⟨Z,env,ρ,B,hp,d,hp',S,e,k⟩=>by
  obtain ⟨x,hp1,e1,ea⟩:=Qj e
  obtain ⟨_,hp2,e2,eb⟩:=Qj ea
  obtain ⟨ds,hp3,e3,ec⟩:=Qj eb
  refine tD.run S e1 fun v ρ1 B1 H1 g1 S1 r1=>?_
  obtain ⟨z,ty⟩:=Qb9 S1.wo r1 e2
  rw [<- z] at e3
  exact ⟨ty,tDA.run S1 e3 fun vs ρ2 B2 H2 g2 S2 r2=>⟨ρ2,B2,hp3,x,ds,d,hp',S2.wo,RepV.grow S1.wo.rb g2 _ _ r1,r2,ec,k.after (g1.trans g2)⟩⟩
def onL (x:DV) (k:Nat->List DV->M DV):M DV:=match x with
  | .ref n=>do
    match <- Jn n with
    | .lst ds=>k n ds
    | _=>failure
  | _=>failure
def onD (x:DV) (k:Nat->List (Key×DV)->M DV):M DV:=match x with
  | .ref n=>do
    match <- Jn n with
    | .dic ds=>k n ds
    | _=>failure
  | _=>failure
theorem VZ {x d:DV} {k:Nat->List DV->M DV} {hp hp':Hs} (h:onL x k hp=some (d,hp')):∃ n ds,x=.ref n/\hp[n]?=some (.lst ds)/\k n ds hp=some (d,hp'):=by
  cases x with
  | ref n =>
    obtain ⟨o,hp1,e1,e2⟩:=Qj h
    obtain ⟨e3,rfl⟩:=Jq e1
    cases o with
    | lst ds=>exact ⟨n,ds,rfl,e3,e2⟩
    | dic _=>cases e2
    | ins _ _=>cases e2
  | _=>cases h
theorem vG {x d:DV} {k:Nat->List (Key×DV)->M DV} {hp hp':Hs} (h:onD x k hp=some (d,hp')):∃ n ds,x=.ref n/\hp[n]?=some (.dic ds)/\k n ds hp=some (d,hp'):=by
  cases x with
  | ref n =>
    obtain ⟨o,hp1,e1,e2⟩:=Qj h
    obtain ⟨e3,rfl⟩:=Jq e1
    cases o with
    | dic ds=>exact ⟨n,ds,rfl,e3,e2⟩
    | lst _=>cases e2
    | ins _ _=>cases e2
  | _=>cases h
def Z3 (x:DV):List DV->M DV
 | [d]=>onL x fun n ds=>do QE (decide (ds.length < lim));jL n (.lst (ds++[d]));pure .non
 | _=>failure
theorem xt:MtR X "list.append" (tPm X.K Z3):=by
 intro pins s σ H x vs v us Q I rx rv h
 obtain ⟨ρ,B,hp,dx,es,d,hp',W,r1,r2,e,k⟩:=h
 unfold Z3 at e
 split at e
 ·rename_i y
  obtain ⟨n,ds,rfl,h0,e⟩:=VZ e
  obtain ⟨_,hp1,e1,e2⟩:=Qj e
  obtain ⟨hl,rfl⟩:=QL e1
  cases e2
  obtain ⟨a,rfl,i1,xs,h1,l1⟩:=RepV.refW W r1 h0
  obtain ⟨w,rfl,rw'⟩:=r2.oneI
  obtain ⟨g,W'⟩:=UA W i1 h1 (RepL.append l1 (RepL.one rw'))
  exact Km pins s σ H _ _ v us Q I rx rv ⟨a,xs,w,rfl,rfl,h1,by rw [<- l1.length];exact Nat.lt_of_lt_of_le (of_decide_eq_true hl) Go,k _ ρ B _ g W' zX⟩
 ·cases e
def Xm (x:DV):List DV->M DV
 | [.int i,d]=>onL x fun n ds=>do QE (decide (ds.length < lim)&&Ys i);jL n (.lst (ds.take (QgU ds.length i)++d::ds.drop (QgU ds.length i)));pure .non
 | _=>failure
def zA (x:DV):List DV->M DV
  | [y]=>onD x fun n kvs=>do
    let k <- J4 y
    let d <- YT (Jw kvs k)
    jL n (.dic (qT kvs k))
    pure d
  | [y,z]=>onD x fun n kvs=>do
    let k <- J4 y
    match Jw kvs k with
    | some d=>do jL n (.dic (qT kvs k));pure d
    | none=>pure z
  | _=>failure
def J5 (x:DV):List DV->M DV
  | [y]=>onD x fun n kvs=>do
    let k <- J4 y
    pure ((Jw kvs k).getD .non)
  | [y,z]=>onD x fun n kvs=>do
    let k <- J4 y
    pure ((Jw kvs k).getD z)
  | _=>failure
theorem gb (hu:X.A.units+1 < cLine):MtR X "dict.get" (tPm X.K J5):=by
 intro pins s σ H x vs v us Q I rx rv h
 obtain ⟨ρ,B,hp,dx,es,d,hp',W,r1,r2,e,k⟩:=h
 unfold J5 at e
 split at e
 ·rename_i y
  obtain ⟨n,kvs,rfl,h0,e⟩:=vG e
  obtain ⟨ky,hp1,e1,e⟩:=Qj e
  obtain ⟨hk,rfl⟩:=Y8 e1
  obtain ⟨rfl,rfl⟩:=Qo e
  obtain ⟨a,rfl,i1,ro⟩:=RepV.refW W r1 h0
  obtain ⟨xs,h1,rk⟩:=ro.dic
  obtain ⟨w,rfl,rw'⟩:=r2.oneI
  obtain rfl:=Y6 hk rw'
  refine kX hu pins s σ H _ _ v us Q I rx rv ⟨a,xs,ky,rfl,h1,.inl ⟨rfl,k _ ρ B H Gr.refl W ?_⟩⟩
  rcases rk.val ky with ⟨z1,zv⟩ | ⟨d'',v',z1,zv,rz⟩<;>rw [z1,zv]
  ·exact zX
  ·exact rz
 ·rename_i y z
  obtain ⟨n,kvs,rfl,h0,e⟩:=vG e
  obtain ⟨ky,hp1,e1,e⟩:=Qj e
  obtain ⟨hk,rfl⟩:=Y8 e1
  obtain ⟨rfl,rfl⟩:=Qo e
  obtain ⟨a,rfl,i1,ro⟩:=RepV.refW W r1 h0
  obtain ⟨xs,h1,rk⟩:=ro.dic
  unfold RepL at r2
  obtain ⟨w,t,rfl,rw',r2⟩:=r2
  obtain rfl:=Y6 hk rw'
  obtain ⟨w2,rfl,rw2⟩:=r2.oneI
  refine kX hu pins s σ H _ _ v us Q I rx rv ⟨a,xs,ky,rfl,h1,.inr ⟨w2,rfl,k _ ρ B H Gr.refl W ?_⟩⟩
  rcases rk.val ky with ⟨z1,zv⟩ | ⟨d'',v',z1,zv,rz⟩<;>rw [z1,zv]
  ·exact rw2
  ·exact rz
 ·cases e
end
end D
namespace L2
open PySem PySem.Spec PyProof.Rows
theorem Inv.kfresh {X:Cx} {pins:List (Addr×Obj)} {σ:St} {H:Hp} {s:Shared} (I:Inv X pins σ H s):X.K.lookup s.heap.objs.size=none:=by
 cases q:X.K.lookup s.heap.objs.size with
 | none=>rfl
 | some o=>exact absurd (Heap.lt_size (I.kIn _ o q)) (Nat.lt_irrefl _)
def Qgn (K:PySem.W.Frag) (trs:List (TE×TE)):TE:=fun σ H Q=>∀ p,H p=none->K.lookup p=none->GM trs σ (upd H p (.dK [])) fun ps H2=>H2 p=some (.dK [])/\∃ kvs:List (Key×V),ps=kvs.map (fun kv=>(kV kv.1,kv.2))/\kvs.length<=15/\Q (.ref p) (upd H2 p (.dK (J1 [] kvs)))
theorem QcC {X:Cx} {pos:Pos} {keys:List (Option Expr)} {values:List Expr} {trs:List (TE×TE)} (h:PPs X pos keys values trs) (hall:keys.all (·.isSome)=true) (hl:keys.length=values.length) (h0:keys≠[])
  (h15:keys.length<=15):PE X (.Dict keys values pos) (Qgn X.K trs):=by
 intro pins s σ H Q I q
 have hn:=I.hok.fresh (Nat.le_refl s.heap.objs.size)
 have I1:=I.laid (a:=s.heap.objs.size) (o:=.dK []) (h':=s.heap.push { cls:=.type "dict", data:=.dict #[] }) (t':=s.toks) (fun _ _ q=>Heap.get?_push_of_some _ q) (Nat.le_refl _) (vc s.heap I.big)
 refine wpAny_Dict_walk (knd:=ZO X.prog X.w) hall hl h0 h15 (thn (h pins _ σ _ _ I1 (q _ hn I.kfresh)) fun ws s2 ⟨ps,H2,I2,rel,e,kvs,ep,lk,q2⟩=>?_)
 subst ep
 obtain ⟨rs,c,rk⟩:=Vz (P:=X.prog) (w:=X.w) rel
 obtain ⟨z,hd,vs0,r0,dd⟩:=kz I2.hok e
 cases r0
 refine ⟨rs,c,dd,fun h' dd' hs=>⟨.ref s.heap.objs.size,_,?_,rfl,q2⟩⟩
 have hz:(J1 [] kvs).length<=sizeLine:=by
  have h1:=YR kvs []
  rw [List.length_nil] at h1
  rw [sizeLine_eq];omega
 have he:∃ q,h'.get? s.heap.objs.size=some q:=let ⟨q,_,_,hq,_⟩:=dd';⟨q,hq⟩
 exact KY I2 (by rw [e];exact True.intro) hs he (uP hz hd (rk.merge .nil) dd')
theorem Qba {X:Cx} {pos:Pos}:PE X (.Dict [] [] pos) (fun _ H Q=>∀ p,H p=none->X.K.lookup p=none->Q (.ref p) (upd H p (.dK []))):=fun pins s σ H Q I h =>
 wpAny_Dict_empty ⟨.ref s.heap.objs.size,_,I.laid (a:=s.heap.objs.size) (o:=.dK []) (t':=s.toks) (fun _ _ q=>Heap.get?_push_of_some _ q) (Nat.le_refl _) (vc s.heap I.big),rfl,h _ (I.hok.fresh (Nat.le_refl _)) I.kfresh⟩
end L2
namespace D
open PySem PySem.Spec PyProof.Rows L2
section
variable {X:Cx} {e a b c:Expr} {f fa fb fc:DEx} {ca cb:DTx} {pos:Pos}
def evP:List (DEx×DEx)->En->M (List (Key×DV))
  | [],_=>pure []
  | (f,g)::r,env=>do
    let x <- f env
    let k <- J4 x
    let y <- g env
    let ps <- evP r env
    pure ((k,y)::ps)
def YS (kvs more:List (Key×DV)):List (Key×DV):=more.foldl (fun acc kv=>JT acc kv.1 kv.2) kvs
def Xd (ps:List (DEx×DEx)):DEx:=fun env=>do
 let kvs <- evP ps env
 QE (decide (kvs.length<=15))
 XU (.dic (YS [] kvs))
def Qfg (K:PySem.W.Frag) (ps:List (DEx×DEx)):List (TE×TE):=ps.map fun p=>(tD K p.1,tD K p.2)
structure DPs (X:Cx) (pos:Pos) (keys:List (Option Expr)) (values:List Expr) (ps:List (DEx×DEx)):Prop where
 out:PPs X pos keys values (Qfg X.K ps)
theorem QbP:DPs X pos [] [] []:=⟨Qer⟩
theorem Yv {k v:Expr} {ks:List (Option Expr)} {vs:List Expr} {ps:List (DEx×DEx)} (hk:DE X k fa) (hv:DE X v fb) (hr:DPs X pos ks vs ps):DPs X pos (some k::ks) (v::vs) ((fa,fb)::ps):=⟨QcM hk hv hr.out⟩
theorem RepK.merge {K:PySem.W.Frag} {ρ:List Addr} {B:Addr->Prop} {H:Hp} {more:List (Key×DV)} {ms:List (Key×V)} (r:RepK K ρ B H more ms):∀ {kvs:List (Key×DV)} {xs:List (Key×V)},RepK K ρ B H kvs xs->RepK K ρ B H (YS kvs more) (J1 xs ms):=by
  induction r with
  | nil=>intro kvs xs r;exact r
  | @cons p q _ _ h _ ih =>
    intro kvs xs r
    unfold YS J1 at ih ⊢
    rw [List.foldl_cons,List.foldl_cons,h.1]
    exact ih (r.put q.1 h.2)
theorem kF {K:PySem.W.Frag}:∀ (ps:List (DEx×DEx)) {Z:Ent} {env:En} {σ:St} {ρ:List Addr} {B:Addr->Prop} {hp hp1:Hs} {H:Hp} {kvs:List (Key×DV)} {R:List (V×V)->Hp->Prop},SOk K Z env σ ρ B hp H->evP ps env hp=some (kvs,hp1) ->
    (∀ xs ρ' B' H',Gr K ρ B H ρ' B' H'->SOk K Z env σ ρ' B' hp1 H'->RepK K ρ' B' H' kvs xs->R (xs.map fun kv=>(kV kv.1,kv.2)) H')->GM (Qfg K ps) σ H R
  | [],_,_,_,_,_,_,_,_,_,_,S,e,k=>by
    obtain ⟨rfl,rfl⟩:=Qo e
    exact k [] _ _ _ Gr.refl S .nil
  | (f,g)::r,_,_,_,_,_,_,_,_,_,_,S,e,k=>by
    obtain ⟨x,hp2,e1,e⟩:=Qj e
    obtain ⟨ky,hp3,e2,e⟩:=Qj e
    obtain ⟨hk,rfl⟩:=Y8 e2
    obtain ⟨y,hp4,e3,e⟩:=Qj e
    obtain ⟨ps,hp5,e4,e⟩:=Qj e
    obtain ⟨rfl,rfl⟩:=Qo e
    refine tD.run S e1 fun v ρ1 B1 H1 g1 S1 r1=>tD.run S1 e3 fun u ρ2 B2 H2 g2 S2 r2=>kF r S2 e4 fun xs ρ3 B3 H3 g3 S3 r3=>?_
    obtain rfl:=Y6 hk r1
    exact k ((ky,u)::xs) ρ3 B3 H3 (g1.trans (g2.trans g3)) S3 (.cons ⟨rfl,RepV.grow S2.wo.rb g3 _ _ r2⟩ r3)
theorem kn {keys:List (Option Expr)} {values:List Expr} {ps:List (DEx×DEx)} (h:DPs X pos keys values ps) (hall:keys.all (·.isSome)=true:=by rfl) (hl:keys.length=values.length:=by rfl) (h0:keys≠[]:=by exact List.cons_ne_nil _ _) (h15:keys.length<=15:=by exact Nat.le_of_ble_eq_true rfl):DE X (.Dict keys values pos) (Xd ps) :=
 L2.PE.imp (QcC h.out hall hl h0 h15) fun σ H Q ⟨Z,env,ρ,B,hp,d,hp',S,e,k⟩=>by
  obtain ⟨kvs,hp1,e1,e2⟩:=Qj e
  obtain ⟨_,hp2,e3,e4⟩:=Qj e2
  obtain ⟨hs,rfl⟩:=QL e3
  cases e4
  intro p hn hk
  have g0:Gr X.K ρ B H ρ (jZ B p) (upd H p (.dK [])):=Gr.banned hn hk
  have W0:=S.wo.banned (o:=.dK []) hn hk
  have np:p∉ρ:=fun z=>S.wo.bt p (S.wo.rb p z) hn
  refine kF ps (S.grow g0 W0) e1 fun xs ρ1 B1 H1 g1 S1 r1=>?_
  have np1:p∉ρ1:=fun z=>(g1.rnew p z).elim np fun q=>by rw [Za] at q;cases q
  have hp1':H1 p=some (.dK []):=g1.keep p _ np Za
  refine ⟨hp1',xs,rfl,by rw [<- r1.len];exact of_decide_eq_true hs,?_⟩
  have G:=g0.trans g1
  have trk:∀ b,(upd H1 p (.dK (J1 [] xs))) b=none->H1 b=none:=fun b q=>by
   by_cases e:b=p
   ·subst e;rw [Za] at q;cases q
   ·rw [QX e] at q;exact q
  have bp:B1 p:=g1.ban p (.inr rfl)
  have g2:Gs X.K ρ1 B1 H1 (ρ1++[p]) B1 (upd H1 p (.dK (J1 [] xs))):=⟨List.prefix_append _ _,fun _ h=>.inl h,fun b o nb h=>by rw [QX (show b≠p from fun z=>nb (by rw [z];exact bp))];exact h,trk⟩
  have G':Gr X.K ρ B H (ρ1++[p]) B1 (upd H1 p (.dK (J1 [] xs))) :=
   ⟨G.pre.trans (List.prefix_append _ _),G.ban,G.new,fun a z=>(List.mem_append.mp z).elim (G.rnew a) fun q=>.inr (by rw [List.mem_singleton.mp q];exact hn),
    fun a o na h=>by rw [QX (show a≠p from fun z=>by rw [z,hn] at h;cases h)];exact G.keep a o na h,fun a q=>G.trk a (trk a q)⟩
  have W1:=S1.wo
  have oD:ORep X.K (ρ1++[p]) B1 (upd H1 p (.dK (J1 [] xs))) p (.dic (YS [] kvs)):=((RepK.merge r1 (kvs:=[]) (xs:=[]) .nil).gs g2).orep Za
  have W2:WOk X.K (ρ1++[p]) B1 (hp1++[.dic (YS [] kvs)]) (upd H1 p (.dK (J1 [] xs))):=by
   refine ⟨by simp [W1.len],List.nodup_append.mpr ⟨W1.nd,by simp,fun a ha b hb=>by rw [List.mem_singleton.mp hb];exact fun z=>np1 (z▸ha)⟩,fun i a u e q=>?_,fun a z=>(List.mem_append.mp z).elim (W1.rb a) fun q=>by rw [List.mem_singleton.mp q];exact bp,fun a z q=>W1.bt a z (trk a q),W1.bk⟩
   by_cases hi:i < ρ1.length
   ·rw [List.getElem?_append_left hi] at e
    rw [List.getElem?_append_left (by rw [<- W1.len];exact hi)] at q
    exact ORep.gs g2 (QX (fun z=>np1 (by rw [<- z];exact List.mem_of_getElem? e))) (W1.obj i a u e q)
   ·rw [List.getElem?_append_right (by omega)] at e
    rw [List.getElem?_append_right (by rw [<- W1.len];omega)] at q
    have hi0:i - ρ1.length=0:=by
     have:=(List.getElem?_eq_some_iff.mp e).1
     simp at this;omega
    rw [hi0] at e
    rw [<- W1.len,hi0] at q
    simp at e q
    subst e q
    exact oD
  refine k _ _ _ _ G' W2 ?_
  unfold RepV
  exact ⟨p,rfl,by rw [<- W1.len];simp⟩
def Jo:DEx:=fun _=>XU (.dic [])
theorem VC:DE X (.Dict [] [] pos) Jo:=L2.PE.imp Qba fun σ H Q ⟨Z,env,ρ,B,hp,d,hp',S,e,k⟩=>by
 cases e
 intro p hn hk
 have g:Gr X.K ρ B H (ρ++[p]) (jZ B p) (upd H p (.dK [])):=Gr.wnew hn hk
 refine k _ _ _ _ g (S.wo.wnew hn hk (RepK.orep (xs:=[]) .nil Za)) ?_
 unfold RepV
 exact ⟨p,rfl,by rw [<- S.wo.len];simp⟩
abbrev NX:=Nat->M (Option DV)
def QbA (K:PySem.W.Frag) (ρ:List Addr) (B:Addr->Prop) (H:Hp) (nxt:NX) (J:It):Prop :=
  ∀ ρ1 B1 hp1 H1, Gs K ρ B H ρ1 B1 H1 -> WOk K ρ1 B1 hp1 H1 -> ∀ (i : Nat) (o : Option DV) (hp2 : Hs), nxt i hp1 = some (o, hp2) -> hp2 = hp1 /\ match o with
    | none=>J.stop i H1
    | some d=>J.go i H1/\∀ x H',J.yld i H1 x H'->RepV K ρ1 B1 H' d x/\(H'=H1∨∃ p o,H1 p=none/\H'=upd H1 p o)
abbrev DXx:=En->M NX
def tDX (K:PySem.W.Frag) (f:DXx):TI:=fun σ H R=>∃ Z env ρ B hp nxt hp',SOk K Z env σ ρ B hp H/\f env hp=some (nxt,hp')/\∀ J ρ' B' H',Gr K ρ B H ρ' B' H'->WOk K ρ' B' hp' H'->QbA K ρ' B' H' nxt J->R J H'
def DX (X:Cx) (tg iter:Expr) (f:DXx):Prop:=PI X tg iter (tDX X.K f)
def nxD (ds:List DV):NX:=fun i=>if i<=ds.length then pure ds[i]? else failure
def nxW (n:Nat):NX:=fun i=>do
 match <- Jn n with
 | .lst ds=>pure ds[i]?
 | _=>failure
theorem Qct {K:PySem.W.Frag} {ρ:List Addr} {B:Addr->Prop} {H:Hp} {ds:List DV} {J:It} (h:QaC K ρ B H ds J):QbA K ρ B H (nxD ds) J:=fun ρ1 B1 hp1 H1 g W i o hp2 e=>by
  unfold nxD at e
  by_cases hi:i<=ds.length
  . rw [if_pos hi] at e
    obtain ⟨rfl,rfl⟩:=Qo e
    obtain ⟨h1,h2⟩:=h ρ1 B1 H1 g W.rb W.bt
    refine ⟨rfl,?_⟩
    cases q:ds[i]? with
    | none =>
      have:i=ds.length:=by have:=List.getElem?_eq_none_iff.mp q;omega
      subst this
      exact h2
    | some d=>exact h1 i d q
  . rw [if_neg hi] at e;cases e
theorem QfL {K:PySem.W.Frag} {ρ:List Addr} {B:Addr->Prop} {H:Hp} {n:Nat} {a:Addr} (ha:ρ[n]?=some a) (kf:∀ H1:Hp,∀ xs ys,H1 a=some (.lst xs)->SqL K H1 a ys->ys=xs):QbA K ρ B H (nxW n) (Itl K a):=fun ρ1 B1 hp1 H1 g W i o hp2 e=>by
  obtain ⟨ob,hp3,e1,e2⟩:=Qj e
  obtain ⟨e3,rfl⟩:=Jq e1
  have ha1:=Qac g.pre ha
  cases ob with
  | dic _=>cases e2
  | ins _ _=>cases e2
  | lst ds =>
    obtain ⟨rfl,rfl⟩:=Qo e2
    obtain ⟨xs,h1,l1⟩:=W.obj n a _ ha1 e3
    refine ⟨rfl,?_⟩
    cases q:ds[i]? with
    | none=>exact ⟨xs,SqL.of h1,by rw [<- l1.length];exact List.getElem?_eq_none_iff.mp q⟩
    | some d =>
      obtain ⟨x,hx,rx⟩:=l1.get q
      refine ⟨⟨xs,x,SqL.of h1,hx⟩,fun y H' ⟨eH,hy⟩=>?_⟩
      subst eH
      have:=hy xs (SqL.of h1)
      rw [hx] at this;cases this
      exact ⟨rx,.inl rfl⟩
theorem Qdh {K:PySem.W.Frag} {a:Addr} (hk:K.lookup a=none) (H:Hp) (xs ys:List V) (h:H a=some (.lst xs)) (h':SqL K H a ys):ys=xs:=by
 rcases h' with (h' | ⟨o,h'⟩) | ⟨o,_,_,h',_⟩
 ·rw [h] at h';cases h';rfl
 ·rw [h] at h';cases h'
 ·rw [hk] at h';cases h'
def xOf (f:DIx):DXx:=fun env=>do let ds <- f env;pure (nxD ds)
def xLs (f:DEx):DXx:=fun env=>do
  match <- f env with
  | .lst ds=>pure (nxD ds)
  | .ref n=>do
    match <- Jn n with
    | .lst _=>pure (nxW n)
    | _=>failure
  | _=>failure
variable {tg iter:Expr}
theorem j8 {g:DIx} (h:DI X tg iter g):DX X tg iter (xOf g):=L2.PI.imp h fun σ H R ⟨Z,env,ρ,B,hp,nxt,hp',S,e,k⟩=>by
 obtain ⟨ds,hp1,e1,e2⟩:=Qj e
 obtain ⟨rfl,rfl⟩:=Qo e2
 exact ⟨Z,env,ρ,B,hp,ds,hp1,S,e1,fun J ρ' B' H' g W it=>k J ρ' B' H' g W (Qct it)⟩
theorem j7 (h:DE X iter f):DX X tg iter (xLs f):=L2.PI.imp (Qen (L2.PE.kf h)) fun σ H R ⟨Z,env,ρ,B,hp,nxt,hp',S,e,k⟩=>by
  obtain ⟨d,hp1,e1,e2⟩:=Qj e
  refine tD.run S e1 fun v ρ1 B1 H1 g1 S1 r1 kf=>?_
  cases d with
  | lst ds =>
    obtain ⟨rfl,rfl⟩:=Qo e2
    obtain ⟨a,xs,rfl,nb,sq,rl⟩:=r1.lstI
    exact ⟨a,rfl,⟨xs,sq⟩,k _ ρ1 B1 H1 g1 S1.wo (Qct (QdZ nb sq rl))⟩
  | ref n =>
    obtain ⟨o,hp2,e3,e4⟩:=Qj (show (Jn n >>= fun o=>(match o with | .lst _=>pure (nxW n) | _=>failure:M NX)) hp1=some (nxt,hp') from e2)
    obtain ⟨e5,e6⟩:=Jq e3
    cases o with
    | lst ds =>
      obtain ⟨rfl,z⟩:=Qo e4
      rw [<- z,<- e6] at k
      obtain ⟨a,rfl,i1,xs,h1,_⟩:=RepV.refW S1.wo r1 e5
      exact ⟨a,rfl,⟨xs,SqL.of h1⟩,k _ ρ1 B1 H1 g1 S1.wo (QfL i1 (Qdh (kf a _ h1)))⟩
    | dic _=>cases e4
    | ins _ _=>cases e4
  | non=>cases e2
  | bl _=>cases e2
  | int _=>cases e2
  | str _=>cases e2
  | tup _=>cases e2
def y4 (nxt:NX) (b:DV->DSx):Nat->Nat->DSx
  | 0,_,_=>failure
  | m+1,i,env=>do
    match <- nxt i with
    | none=>pure (.nx,env)
    | some d=>do
      let r <- b d env
      match r.1 with
      | .nx=>y4 nxt b m (i+1) r.2
      | .ct=>y4 nxt b m (i+1) r.2
      | .bk=>pure (.nx,r.2)
      | .rt x=>pure (.rt x,r.2)
def Qag (f:DXx) (g:DGx) (body:DSx):DSx:=fun env=>do let nxt <- f env;y4 nxt (fun d env=>do let env' <- g d env;body env') 100000 0 env
theorem QdN {body:List Stmt} {fi:DXx} {g:DGx} {sb:DSx} (hp:PassesOwn (model X.prog X.w) X.A X.env X.xe) (hc:X.calm=true) (hi:DX X tg iter fi) (hg:PG X tg (tDG X.K g)) (hb:DSs X body sb)
    (hs:∀ x,foldedSetIterable iter X.env x=pure x:=by intro _;rfl):DS X (.For tg iter body [] pos) (Qag fi g sb) :=
  (QcP hp hc hi hg hb hs).imp fun D σ H ⟨Z,env,ρ,B,hp,fl,env',hp',S,e,k⟩=>by
    obtain ⟨nxt,hp1,e1,e2⟩:=Qj e
    refine ⟨Z,env,ρ,B,hp,nxt,hp1,S,e1,fun J ρ1 B1 H1 g1 W1 it=>?_⟩
    have k1:=k.after (g1.gs S.wo.rb)
    refine ⟨fun i m σ H=>∃ env ρ B hp,SOk X.K Z env σ ρ B hp H/\Gs X.K ρ1 B1 H1 ρ B H/\y4 nxt (fun d env=>do let env' <- g d env;sb env') m i env hp=some ((fl,env'),hp'),
      ⟨100000,env,ρ1,B1,hp1,S.grow g1 W1,Gs.refl,e2⟩,?_⟩
    rintro i m σ H ⟨env2,ρ2,B2,hp2,S2,g2,e3⟩
    cases m with
    | zero=>cases e3
    | succ m =>
      obtain ⟨o,hpo,eo,e3⟩:=Qj e3
      obtain ⟨rfl,ito⟩:=it ρ2 B2 hp2 H g2 S2.wo i o hpo eo
      cases o with
      | none =>
        obtain ⟨z,rfl⟩:=Qo e3;cases z
        exact .inl ⟨ito,k1 σ ρ2 B2 H g2 S2⟩
      | some d =>
        obtain ⟨go,yl⟩:=ito
        obtain ⟨⟨f1,env4⟩,hp4,e4,e5⟩:=Qj e3
        obtain ⟨env3,hp3,e6,e7⟩:=Qj e4
        refine .inr ⟨go,fun σ' H'=>∃ env ρ B hp,SOk X.K Z env σ' ρ B hp H'/\Gs X.K ρ1 B1 H1 ρ B H'/\y4 nxt (fun d env=>do let env' <- g d env;sb env') m (i+1) env hp=some ((fl,env'),hp'),
          fun σ' H' q=>⟨m,Nat.lt_succ_self m,q⟩,fun x H' y=>?_⟩
        obtain ⟨rx,hx⟩:=yl x H' y
        have S3:SOk X.K Z env2 σ ρ2 B2 hpo H'/\Gs X.K ρ2 B2 H ρ2 B2 H':=by
          rcases hx with rfl | ⟨p,o,hn,rfl⟩
          . exact ⟨S2,Gs.refl⟩
          . exact ⟨S2.grow (Gr.laid hn) (S2.wo.laid hn),gQ S2.wo.rb hn⟩
        refine ⟨Z,env2,ρ2,B2,hpo,d,env3,hp3,S3.1,rx,e6,fun σ5 ρ5 B5 H5 g5 S5=>⟨Z,env3,ρ5,B5,hp3,f1,env4,hp4,S5,e7,fun σ6 ρ6 B6 H6 g6 S6=>?_⟩⟩
        have G6:=g2.trans (S3.2.trans (g5.trans g6))
        cases f1 with
        | nx=>exact ⟨env4,ρ6,B6,hp4,S6,G6,e5⟩
        | ct=>exact ⟨env4,ρ6,B6,hp4,S6,G6,e5⟩
        | bk=>obtain ⟨z,rfl⟩:=Qo e5;cases z;exact k1 σ6 ρ6 B6 H6 G6 S6
        | rt d=>obtain ⟨z,rfl⟩:=Qo e5;cases z;exact k1 σ6 ρ6 B6 H6 G6 S6
def ZR (nxt:NX) (g:DV->M Bool) (f:DV->M DV):Nat->Nat->M (List DV)
  | 0,_=>failure
  | m+1,i=>do
    match <- nxt i with
    | none=>pure []
    | some d=>do
      if <- g d then
        let y <- f d
        let ys <- ZR nxt g f m (i+1)
        pure (y::ys)
      else ZR nxt g f m (i+1)
def ZN (nw:Bool) (src:DXx) (idx:List Nat) (t:DTx) (f:DEx):DEx:=fun env=>do
 let nxt <- src env
 let out <- ZR nxt (fun d=>t (cE idx env d)) (fun d=>f (cE idx env d)) lim 0
 if nw then XU (.lst out) else pure (.lst out)
variable {elt:Expr} {x:Str} {px:Pos} {ifs:List Expr} {scope:Scope} {cl:List (Str×Addr)} {caps:List Str} {idx:List Nat} {src:DXx} {te:DTx} {nw:Bool}
theorem VJ {K:PySem.W.Frag} {σ:St} {H:Hp} {Q:VK} (h:tD K (ZN nw src idx te f) σ H Q):Qat K (tDX K src) (tDT K te) (tD K f) idx σ H Q:=by
  obtain ⟨Z,env,ρ,B,hp,d,hp',S,e,k⟩:=h
  obtain ⟨nxt,hp1,e1,e2⟩:=Qj e
  obtain ⟨out,hp3,e5,e6⟩:=Qj e2
  refine ⟨Z,env,ρ,B,hp,nxt,hp1,S,e1,fun J ρ1 B1 H1 g1 W1 it D hD hK=>?_⟩
  have g1s:=g1.gs S.wo.rb
  refine ⟨fun i m ys H2=>H2 D=some (.lst ys)/\i+m=lim/\∃ ρ2 B2 hp2 don rst,Gr K ρ1 B1 H1 ρ2 B2 H2/\WOk K ρ2 B2 hp2 H2/\B2 D/\D∉ρ2/\RepL K ρ2 B2 H2 don ys/\don.length<=i /\
    ZR nxt (fun d=>te (cE idx env d)) (fun d=>f (cE idx env d)) m i hp2=some (rst,hp3)/\don++rst=out,?_,?_⟩
  . exact ⟨lim,Za,Nat.zero_add _,ρ1,jZ B1 D,hp1,[],out,Gr.banned hD hK,W1.banned hD hK,.inr rfl,fun z=>W1.bt D (W1.rb D z) hD,RepL.nil,Nat.le_refl _,e5,rfl⟩
  . rintro i m ys H2 ⟨hDs,him,ρ2,B2,hp2,don,rst,g2,W2,bD,nD,rd,dn,e7,e8⟩
    refine ⟨hDs,?_⟩
    cases m with
    | zero=>cases e7
    | succ m =>
      obtain ⟨o,hpo,eo,e7⟩:=Qj e7
      obtain ⟨rfl,ito⟩:=it ρ2 B2 hp2 H2 (g2.gs W1.rb) W2 i o hpo eo
      cases o with
      | some d0 =>
        obtain ⟨go,yl⟩:=ito
        obtain ⟨b,hp4,e9,e10⟩:=Qj e7
        refine .inr ⟨go,fun x H3 y=>?_⟩
        obtain ⟨rx,hx⟩:=yl x H3 y
        have S3:Gr K ρ2 B2 H2 ρ2 B2 H3/\WOk K ρ2 B2 hpo H3:=by
          rcases hx with rfl | ⟨p,o,hn,rfl⟩
          . exact ⟨Gr.refl,W2⟩
          . exact ⟨Gr.laid hn,W2.laid hn⟩
        have g3:=g2.trans S3.1
        have C3:=cσ_ok (idx:=idx) S (g1s.trans (g3.gs W1.rb)) S3.2 rx
        refine tDT.run C3 e9 fun ρ4 B4 H4 g4 S4=>?_
        have hD4:H4 D=some (.lst ys):=g4.keep D _ nD (S3.1.keep D _ nD hDs)
        have nD4:D∉ρ4:=fun z=>(g4.rnew D z).elim nD fun q=>by rw [S3.1.keep D _ nD hDs] at q;cases q
        cases b with
        | false =>
          exact uV ⟨m,Nat.lt_succ_self m,hD4,by omega,ρ4,B4,hp4,don,rst,g3.trans g4,S4.wo,g4.ban D bD,nD4,RepL.grow W2.rb (S3.1.trans g4) _ _ rd,by omega,e10,e8⟩
        | true =>
          obtain ⟨z,hp5,e11,e12⟩:=Qj e10
          obtain ⟨zs,hp6,e13,e14⟩:=Qj e12
          obtain ⟨rfl,rfl⟩:=Qo e14
          refine uW (tD.run S4 e11 fun v ρ5 B5 H5 g5 S5 r5=>?_)
          have hD5:H5 D=some (.lst ys):=g5.keep D _ nD4 hD4
          have nD5:D∉ρ5:=fun z=>(g5.rnew D z).elim nD4 fun q=>by rw [hD4] at q;cases q
          have bD5:B5 D:=g5.ban D (g4.ban D bD)
          have G5:=g3.trans (g4.trans g5)
          have rd5:=RepL.grow W2.rb (S3.1.trans (g4.trans g5)) _ _ rd
          have trk:∀ b,(upd H5 D (.lst (ys++[v]))) b=none->H5 b=none:=fun b q=>by
            by_cases e:b=D
            . subst e;rw [Za] at q;cases q
            . rw [QX e] at q;exact q
          have g6:Gs K ρ5 B5 H5 ρ5 B5 (upd H5 D (.lst (ys++[v]))):=⟨List.prefix_rfl,fun _ h=>.inl h,fun b o nb h=>by rw [QX (show b≠D from fun z=>nb (by rw [z];exact bD5))];exact h,trk⟩
          refine ⟨hD5,?_,m,Nat.lt_succ_self m,Za,by omega,ρ5,B5,hp5,don++[z],zs,?_,?_,bD5,nD5,RepL.gs g6 _ _ (RepL.append rd5 (RepL.one r5)),by simp;omega,e13,by rw [<- e8];simp⟩
          . have h1:=rd5.length
            have h2:lim < sizeLine:=by decide
            omega
          . exact ⟨G5.pre,G5.ban,G5.new,G5.rnew,fun b o nb h=>by rw [QX (show b≠D from fun q=>by rw [q,hD] at h;cases h)];exact G5.keep b o nb h,fun b q=>G5.trk b (trk b q)⟩
          . exact ⟨S5.wo.len,S5.wo.nd,fun j b o q1 q2=>ORep.gs g6 (QX (show b≠D from fun z=>nD5 (by rw [<- z];exact List.mem_of_getElem? q1))) (S5.wo.obj j b o q1 q2),S5.wo.rb,fun b z q=>S5.wo.bt b z (trk b q),S5.wo.bk⟩
      | none =>
        obtain ⟨z,z'⟩:=Qo e7
        subst z
        subst z'
        refine .inl ⟨ito,?_⟩
        rw [List.append_nil] at e8
        subst e8
        cases nw with
        | false =>
          obtain ⟨rfl,rfl⟩:=Qo (show (pure (.lst don):M DV) hpo=some (d,hp') from e6)
          have gU:Gs K ρ2 B2 H2 ρ2 (fun b=>B2 b/\b≠D) H2:=⟨List.prefix_rfl,fun _ h=>.inl h.1,fun _ _ _ h=>h,fun _ h=>h⟩
          refine k (.ref D) ρ2 (fun b=>B2 b/\b≠D) H2 (g1.trans ⟨g2.pre,fun b z=>⟨g2.ban b z,fun q=>W1.bt b z (q▸hD)⟩,fun b z=>g2.new b z.1,g2.rnew,g2.keep,g2.trk⟩)
            ⟨W2.len,W2.nd,fun j b o q1 q2=>ORep.gs gU rfl (W2.obj j b o q1 q2),fun b z=>⟨W2.rb b z,fun q=>nD (q▸z)⟩,fun b z=>W2.bt b z.1,fun b z=>W2.bk b z.1⟩ (Gz (fun z=>z.2 rfl) (SqL.of hDs) (RepL.gs gU _ _ rd))
        | true =>
          cases (show some (DV.ref hpo.length,hpo++[OV.lst don])=some (d,hp') from e6)
          have gU:Gs K ρ2 B2 H2 (ρ2++[D]) B2 H2:=⟨List.prefix_append _ _,fun _ h=>.inl h,fun _ _ _ h=>h,fun _ h=>h⟩
          refine k (.ref D) (ρ2++[D]) B2 H2 (g1.trans ⟨g2.pre.trans (List.prefix_append _ _),g2.ban,g2.new,fun a z=>(List.mem_append.mp z).elim (g2.rnew a) fun q=>.inr (by rw [List.mem_singleton.mp q];exact hD),g2.keep,g2.trk⟩)
            ⟨by simp [W2.len],List.nodup_append.mpr ⟨W2.nd,by simp,fun a ha b hb=>by rw [List.mem_singleton.mp hb];exact fun z=>nD (z▸ha)⟩,fun j b o q1 q2=>?_,fun b z=>(List.mem_append.mp z).elim (W2.rb b) fun q=>by rw [List.mem_singleton.mp q];exact bD,W2.bt,W2.bk⟩ ?_
          . by_cases hi:j < ρ2.length
            . rw [List.getElem?_append_left hi] at q1
              rw [List.getElem?_append_left (by rw [<- W2.len];exact hi)] at q2
              exact ORep.gs gU rfl (W2.obj j b o q1 q2)
            . rw [List.getElem?_append_right (by omega)] at q1
              rw [List.getElem?_append_right (by rw [<- W2.len];omega)] at q2
              have hi0:j - ρ2.length=0:=by
                have:=(List.getElem?_eq_some_iff.mp q1).1
                simp at this;omega
              rw [hi0] at q1
              rw [<- W2.len,hi0] at q2
              simp at q1 q2
              subst q1 q2
              exact ⟨ys,hDs,RepL.gs gU _ _ rd⟩
          . unfold RepV
            exact ⟨D,rfl,by rw [<- W2.len];simp⟩
theorem Xi (S:GS X x scope cl caps idx) (hc:X.calm=true) (hi:DX X (.Name x px) iter src)
  (ht:∀ C s₀ H₀ ex,DTs (XV X scope cl C (x::caps) s₀ H₀ ex) ifs te) (he:∀ C s₀ H₀ ex,DE (XV X scope cl C (x::caps) s₀ H₀ ex) elt f)
  (hs:∀ x,foldedSetIterable iter X.env x=pure x:=by intro _;rfl):DE X (.ListComp elt [⟨.Name x px,iter,ifs,0⟩] scope pos) (ZN nw src idx te f) :=
 L2.PE.imp (Qei (tt:=tDT X.K te) (te:=tD X.K f) S hc hi ht he hs) fun _ _ _ h=>VJ h
theorem j6 (i:Nat) {y:Str} {py spos:Pos} (hN:X.N.Nodup) (S:GS X x scope cl caps idx) (hc:X.calm=true) (hi:DX X (.Name x px) iter src)
  (ht:∀ C s₀ H₀ ex,DTs (XV X scope cl C (x::caps) s₀ H₀ ex) ifs te) (he:∀ C s₀ H₀ ex,DE (XV X scope cl C (x::caps) s₀ H₀ ex) elt f)
  (hy:X.N[i]?=some y:=by rfl) (hx:Loc X.env.scope y:=by first | exact Or.inl rfl | exact Or.inr rfl)
  (hsw:swapsWith (.ListComp elt [⟨.Name x px,iter,ifs,0⟩] scope pos) (some (.Name y py)) spos.line X.env=pure true:=by with_unfolding_all rfl)
  (hf:X.fn y=true∨X.env.scope.names.lookup y=some .local:=by first | exact .inl rfl | exact .inr rfl | assumption)
  (hs:∀ x,foldedSetIterable iter X.env x=pure x:=by intro _;rfl):DS X (.Assign [.Name y py] (.ListComp elt [⟨.Name x px,iter,ifs,0⟩] scope pos) spos) (QA i (ZN nw src idx te f)) :=
 L2.PS.imp (Qeu (tt:=tDT X.K te) (te:=tD X.K f) S hc hi ht he hN hy hx hsw hf hs) fun _ _ _ h=>vN (fun _ _ _ q=>VJ q) h
end
end D
namespace D
open PySem PySem.Spec PyProof.Rows L2
def WP {α:Type} (m:M α) (hp:Hs) (Q:α->Hs->Prop):Prop:=∃ x hp',m hp=some (x,hp')/\Q x hp'
section
variable {α β:Type} {m:M α} {k:α->M β} {hp:Hs} {Q:α->Hs->Prop} {R:β->Hs->Prop}
theorem WP_pure {x:α}:WP (pure x) hp Q↔Q x hp:=⟨fun ⟨y,h,e,q⟩=>by obtain ⟨rfl,rfl⟩:=Qo e;exact q,fun q=>⟨x,hp,rfl,q⟩⟩
theorem Vh:WP (m >>= k) hp R↔WP m hp fun x h=>WP (k x) h R:=⟨fun ⟨y,h,e,q⟩=>by obtain ⟨x,h1,e1,e2⟩:=Qj e;exact ⟨x,h1,e1,y,h,e2,q⟩,fun ⟨x,h1,e1,y,h,e2,q⟩=>⟨y,h,(Qi e1).trans e2,q⟩⟩
theorem WP.mono {Q':α->Hs->Prop} (h:WP m hp Q) (hq:∀ x h,Q x h->Q' x h):WP m hp Q':=let ⟨x,h1,e,q⟩:=h;⟨x,h1,e,hq x h1 q⟩
theorem WP.of {x:α} {hp':Hs} (e:m hp=some (x,hp')) (q:Q x hp'):WP m hp Q:=⟨x,hp',e,q⟩
end
section
variable {hp:Hs} {env:En} {Q:Fl×En->Hs->Prop}
theorem jS {b:DV->DSx} (I:Nat->En->Hs->Prop) (ds:List DV) (h0:I 0 env hp) (hs:∀ (i:Nat) d,ds[i]?=some d->∀ env hp,I i env hp->WP (b d env) hp fun r h=>match r.1 with
    | .nx=>I (i+1) r.2 h
    | .ct=>I (i+1) r.2 h
    | .bk=>Q (.nx,r.2) h
    | .rt x=>Q (.rt x,r.2) h) (he:∀ env hp,I ds.length env hp->Q (.nx,env) hp):WP (xh b ds env) hp Q:=by
  suffices h:∀ (m i:Nat) env hp,m+i=ds.length->I i env hp->WP (xh b (ds.drop i) env) hp Q by simpa using h ds.length 0 env hp rfl h0
  intro m
  induction m with
  | zero =>
    intro i env hp e hI
    have:i=ds.length:=by omega
    subst this
    rw [List.drop_length]
    exact WP_pure.mpr (he env hp hI)
  | succ m ih =>
    intro i env hp e hI
    have hlt:i < ds.length:=by omega
    rw [List.drop_eq_getElem_cons hlt,xh,Vh]
    refine (hs i ds[i] (List.getElem?_eq_getElem hlt) env hp hI).mono fun r h q=>?_
    obtain ⟨fl,env1⟩:=r
    cases fl with
    | nx=>exact ih (i+1) env1 h (by omega) q
    | ct=>exact ih (i+1) env1 h (by omega) q
    | bk=>exact WP_pure.mpr q
    | rt x=>exact WP_pure.mpr q
theorem QdF {nxt:NX} {b:DV->DSx} (ds:List DV) (I:Nat->En->Hs->Prop) (hl:ds.length < 100000) (hn:∀ (i:Nat) env hp,i<=ds.length->I i env hp->nxt i hp=some (ds[i]?,hp)) (h0:I 0 env hp) (hs:∀ (i:Nat) d,ds[i]?=some d->∀ env hp,I i env hp->WP (b d env) hp fun r h=>match r.1 with
    | .nx=>I (i+1) r.2 h
    | .ct=>I (i+1) r.2 h
    | .bk=>Q (.nx,r.2) h
    | .rt x=>Q (.rt x,r.2) h) (he:∀ env hp,I ds.length env hp->Q (.nx,env) hp):WP (y4 nxt b 100000 0 env) hp Q:=by
  suffices h:∀ (m i n:Nat) env hp,m+i=ds.length->m < n->I i env hp->WP (y4 nxt b n i env) hp Q from h ds.length 0 100000 env hp rfl hl h0
  intro m
  induction m with
  | zero =>
    intro i n env hp e hn' hI
    have:i=ds.length:=by omega
    subst this
    obtain ⟨n,rfl⟩:∃ k,n=k+1:=⟨n - 1,by omega⟩
    rw [y4,Vh]
    refine WP.of (hn _ env hp (Nat.le_refl _) hI) ?_
    rw [show ds[ds.length]?=none by simp]
    exact WP_pure.mpr (he env hp hI)
  | succ m ih =>
    intro i n env hp e hn' hI
    have hlt:i < ds.length:=by omega
    obtain ⟨n,rfl⟩:∃ k,n=k+1:=⟨n - 1,by omega⟩
    rw [y4,Vh]
    refine WP.of (hn i env hp (by omega) hI) ?_
    simp only [List.getElem?_eq_getElem hlt]
    rw [Vh]
    refine (hs i ds[i] (List.getElem?_eq_getElem hlt) env hp hI).mono fun r h q=>?_
    obtain ⟨fl,env1⟩:=r
    cases fl with
    | nx=>exact ih (i+1) n env1 h (by omega) (by omega) q
    | ct=>exact ih (i+1) n env1 h (by omega) (by omega) q
    | bk=>exact WP_pure.mpr q
    | rt x=>exact WP_pure.mpr q
theorem XY (ds:List DV) (i:Nat) (h:i<=ds.length) (hp:Hs):nxD ds i hp=some (ds[i]?,hp):=by unfold nxD;rw [if_pos h];rfl
theorem Qcu {n:Nat} {ds:List DV} {hp:Hs} (h:hp[n]?=some (.lst ds)) (i:Nat):nxW n i hp=some (ds[i]?,hp):=by
 unfold nxW
 have:Jn n hp=some (.lst ds,hp):=by unfold Jn;rw [h]
 rw [Qi this];rfl
theorem QbC {b:DV->DSx} (ds:List DV) (I:Nat->En->Hs->Prop) (hl:ds.length < 100000) (h0:I 0 env hp) (hs:∀ (i:Nat) d,ds[i]?=some d->∀ env hp,I i env hp->WP (b d env) hp fun r h=>match r.1 with
  | .nx=>I (i+1) r.2 h
  | .ct=>I (i+1) r.2 h
  | .bk=>Q (.nx,r.2) h
  | .rt x=>Q (.rt x,r.2) h) (he:∀ env hp,I ds.length env hp->Q (.nx,env) hp):WP (y4 (nxD ds) b 100000 0 env) hp Q :=
 QdF ds I hl (fun i env hp h _=>XY ds i h hp) h0 hs he
end
theorem uK {nxt:NX} {t:DV->M Bool} {f:DV->M DV} {p:Int->Bool} {g:Int->Int} {hp:Hs} (ns:List Int) (hn:∀ i,i<=ns.length->nxt i hp=some ((ns.map DV.int)[i]?,hp)) (ht:∀ x,t (.int x) hp=some (p x,hp)) (hf:∀ x,f (.int x) hp=some (.int (g x),hp)) (hl:ns.length < 100000) :
    ZR nxt t f 100000 0 hp=some (((ns.filter p).map g).map .int,hp):=by
  suffices h:∀ (m i n:Nat),m+i=ns.length->m < n->ZR nxt t f n i hp=some ((((ns.drop i).filter p).map g).map .int,hp) by simpa using h ns.length 0 100000 rfl hl
  intro m
  induction m with
  | zero =>
    intro i n e hn'
    obtain ⟨n,rfl⟩:∃ k,n=k+1:=⟨n - 1,by omega⟩
    have:i=ns.length:=by omega
    subst this
    have e1:=hn ns.length (Nat.le_refl _)
    rw [show (ns.map DV.int)[ns.length]?=none by simp] at e1
    rw [ZR,Qi e1,List.drop_length]
    rfl
  | succ m ih =>
    intro i n e hn'
    obtain ⟨n,rfl⟩:∃ k,n=k+1:=⟨n - 1,by omega⟩
    have hlt:i < ns.length:=by omega
    have e1:=hn i (by omega)
    rw [List.getElem?_map,List.getElem?_eq_getElem hlt] at e1
    have hi:=ih (i+1) n (by omega) (by omega)
    rw [ZR,Qi e1]
    simp only [Option.map_some]
    rw [Qi (ht ns[i]),List.drop_eq_getElem_cons hlt]
    cases q:p ns[i] with
    | false=>rw [List.filter_cons_of_neg (by simp [q])];simpa using hi
    | true =>
      rw [List.filter_cons_of_pos q]
      simp only [if_true]
      rw [Qi (hf ns[i]),Qi hi]
      rfl
theorem kB (n:Nat) (hp:Hs) (i:Int):drf (n+1) hp (.int i)=some (.int i):=rfl
theorem QbQ (n:Nat) (hp:Hs) (b:Bool):drf (n+1) hp (.bl b)=some (.bl b):=rfl
theorem kC (n:Nat) (hp:Hs) (b:Str):drf (n+1) hp (.str b)=some (.str b):=rfl
theorem zW {α:Type} {f:α->Option α}:∀ {xs:List α},(∀ x∈xs,f x=some x)->xs.mapM f=some xs
  | [],_=>rfl
  | x::xs,h=>by
    rw [List.mapM_cons,h x (by simp),zW fun y hy=>h y (List.mem_cons_of_mem _ hy)];rfl
theorem QbR (n:Nat) (hp:Hs) (ns:List Int):(ns.map DV.int).mapM (drf (n+1) hp)=some (ns.map .int):=zW fun x hx=>by
 obtain ⟨i,_,rfl⟩:=List.mem_map.mp hx;rfl
theorem QbS (n:Nat) (hp:Hs) (ns:List Int):drf (n+2) hp (.lst (ns.map .int))=some (.lst (ns.map .int)):=by
 show ((ns.map DV.int).mapM (drf (n+1) hp)).map DV.lst=_
 rw [QbR];rfl
theorem kA {d d':DV} {hp:Hs} (h:drf 40 hp d=some d'):QaS d hp=some (d',hp):=by unfold QaS;rw [h];rfl
theorem Vl {x y x' y':DV} {hp:Hs} (hx:drf 40 hp x=some x') (hy:drf 40 hp y=some y') (s1:okP x'=true) (s2:okP y'=true):y3 x y hp=some (PyData.eqv (toP x') (toP y'),hp):=by
 unfold y3
 simp only [okP,Bool.and_eq_true] at s1 s2
 rw [Qi (kA hx),Qi (kA hy)]
 simp only [s1.2,s2.2,Bool.and_self,QE,if_true,pure_bind]
 rfl
theorem vm (i j:Int) (hp:Hs):y3 (.int i) (.int j) hp=some (i==j,hp):=Vl (kB 39 hp i) (kB 39 hp j) (Vn i) (Vn j)
end D
namespace D
open PySem PySem.Spec PyProof.Rows L2
theorem KE (p:Key×DV) (r:List (Key×DV)) (j:Key):Jw (p::r) j=if p.1=j then some p.2 else Jw r j:=by
 by_cases e:p.1=j
 ·simp [Jw,List.find?_cons,e]
 ·simp [Jw,List.find?_cons,e]
theorem QcT (kvs:List (Key×DV)) (k:Key) (d:DV):(JT kvs k d).length<=kvs.length+1:=by
 unfold JT;split<;>simp
theorem Z2 {n:Nat} {o:OV} {hp:Hs} (h:hp[n]?=some o):Jn n hp=some (o,hp):=by unfold Jn;rw [h]
theorem zG {n:Nat} {kvs:List (Key×DV)} {hp:Hs} {i d:DV} {k:Key} (h:hp[n]?=some (.dic kvs)) (hk:X6 i=some k) (hl:kvs.length < 100000):jd (.ref n) i d hp=some ((),hp.set n (.dic (JT kvs k d))):=by
 show (Jn n >>= _) hp=_
 rw [Qi (Z2 h)]
 have e1:J4 i hp=some (k,hp):=by unfold J4;rw [hk];rfl
 have e2:QE (decide (kvs.length < lim)) hp=some ((),hp):=by rw [show decide (kvs.length < lim)=true from decide_eq_true hl];rfl
 show (J4 i >>= fun k=>QE (decide (kvs.length < lim)) >>= fun _=>jL n (.dic (JT kvs k d))) hp=_
 rw [Qi e1,Qi e2];rfl
theorem YC {f:DEx} {g:DGx} {env env':En} {d:DV} {hp hp1 hp2:Hs} (h:f env hp=some (d,hp1)) (h':g d env hp1=some (env',hp2)):Zo f g env hp=some ((.nx,env'),hp2):=by
 unfold Zo
 rw [Qi h,Qi h'];rfl
theorem Zc {α:Type} {m:M α} {x:α} (h:m=pure x) (hp:Hs):m hp=some (x,hp):=by rw [h];rfl
theorem Qc1 {c:DTx} {f g:DSx} {env:En} {b:Bool} {hp hp1:Hs} (h:c env hp=some (b,hp1)):sIf c f g env hp=if b=true then f env hp1 else g env hp1:=by
 unfold sIf
 rw [Qi h]
 cases b<;>rfl
theorem QR {f:DEx} {env:En} {b:Bool} {hp hp1:Hs} (h:f env hp=some (.bl b,hp1)):eB f env hp=some (b,hp1):=by
 unfold eB
 rw [Qi h];rfl
theorem Qh {g:DV->DV->M DV} {f f':DEx} {env:En} {x y d:DV} {hp hp1 hp2 hp3:Hs} (h:f env hp=some (x,hp1)) (h':f' env hp1=some (y,hp2)) (hg:g x y hp2=some (d,hp3)):Qf g f f' env hp=some (d,hp3):=by
 unfold Qf
 rw [Qi h,Qi h',hg]
theorem QD {f:DEx} {env:En} {d:DV} {hp hp1:Hs} (h:f env hp=some (d,hp1)):QJ f env hp=some ((.rt d,env),hp1):=by
 unfold QJ
 rw [Qi h];rfl
theorem QT {f g:DSx} {env env1:En} {d:DV} {hp hp1:Hs} (h:f env hp=some ((.rt d,env1),hp1)):Qq f g env hp=some ((.rt d,env1),hp1):=by
 unfold Qq
 rw [Qi h];rfl
theorem Xu {f:DEx} {env:En} {d:DV} {hp hp1:Hs} (h:f env hp=some (d,hp1)):Jk f env hp=some ((.nx,env),hp1):=by
 unfold Jk
 rw [Qi h];rfl
theorem Qz {n:Nat} {body:DSx} {ds:List DV} {d:DV} {env:En} {hp hp1:Hs} (h:body (ds.map .val++List.replicate (n - ds.length) .un) hp=some ((.rt d,env),hp1)):Zb n body ds hp=some (d,hp1):=by
 unfold Zb
 rw [Qi h];rfl
theorem XI {c:DTx} {env:En} {b:Bool} {hp hp1:Hs} (h:c env hp=some (b,hp1)):JY c env hp=some (!b,hp1):=by
 unfold JY
 rw [Qi h];rfl
theorem VI {f g:DEx} {env:En} {b:Bool} {hp hp1:Hs} (h:f env hp=some (.bl b,hp1)):J3 f g env hp=if b=true then g env hp1 else some (.bl false,hp1):=by
 unfold J3
 rw [Qi h]
 cases b<;>rfl
end D
namespace D
open PySem PySem.Spec PyProof.Rows L2
variable {X:Cx}
def srt (ns:List Int):List Int:=ns.mergeSort (fun a b=>decide (a<=b))
theorem Ur (ns:List Int):(srt ns).Perm ns:=List.mergeSort_perm _ _
theorem gL (ns:List Int):(srt ns).Pairwise (· <= ·):=by
 have:=List.pairwise_mergeSort (le:=fun a b:Int=>decide (a<=b)) (fun a b c h1 h2=>by simp at *;omega) (fun a b=>by simp;omega) ns
 exact this.imp fun h=>by simpa using h
theorem Us {ns ms:List Int} (p:ms.Perm ns) (h:ms.Pairwise (· <= ·)):ms=srt ns :=
 (p.trans (Ur ns).symm).eq_of_pairwise (fun a b _ _ h1 h2=>Int.le_antisymm h1 h2) h (gL ns)
theorem Kh:∀ {ns:List Int} {us:List Value},Vals (ns.map V.int) us->IntsAre us ns
 | [],_,.nil=>.nil
 | n::ns,_,.cons ⟨t,e⟩ r=>by subst e;exact .cons n t (Kh r)
theorem qm:∀ {us:List Value} {ns:List Int},IntsAre us ns->Vals (ns.map V.int) us
 | _,_,.nil=>.nil
 | _,_,.cons n t r=>.cons ⟨t,rfl⟩ (qm r)
theorem kN:∀ {us:List Value} {ns:List Int},us.length=ns.length->(∀ (j:Nat) (u:Value) (n:Int),us[j]?=some u->ns[j]?=some n->∃ t,u=.int n t)->IntsAre us ns
  | [],[],_,_=>.nil
  | u::us,n::ns,hl,h=>by
    obtain ⟨t,rfl⟩:=h 0 u n rfl rfl
    exact .cons n t (kN (by simpa using hl) fun j u n a b=>h (j+1) u n a b)
theorem kR:∀ {kvs:List (Key×V)} {vs:List (Key×Value)},KV kvs vs->vs.map (·.1)=kvs.map (·.1)
 | _,_,.nil=>rfl
 | _,_,.cons a b=>by rw [List.map_cons,List.map_cons,kR b,a.1]
def Qbz (K:PySem.W.Frag) (H:Hp) (p:Addr) (ns:List Int):Prop:=SqL K H p (ns.map .int)∨∃ kvs:List (Key×V),H p=some (.dK kvs)/\kvs.map (·.1)=ns.map .inl
def U8:List DV->Option (List Int)
 | []=>some []
 | .int n::r=>(U8 r).map (n :: ·)
 | _=>none
def xp:List (Key×DV)->Option (List Int)
 | []=>some []
 | (.inl n,_)::r=>(xp r).map (n :: ·)
 | _=>none
def gj {α:Type}:Option α->M α
 | some d=>pure d
 | none=>failure
theorem yi {α:Type} {o:Option α} {d:α} {hp hp':Hs} (h:gj o hp=some (d,hp')):o=some d/\hp=hp':=by
 cases o with
 | none=>cases h
 | some x=>obtain ⟨rfl,rfl⟩:=Qo h;exact ⟨rfl,rfl⟩
def Qb6:DV->M (List Int)
  | .lst ds=>gj (U8 ds)
  | .ref n=>do
    match <- Jn n with
    | .lst ds=>gj (U8 ds)
    | .dic kvs=>gj (xp kvs)
    | _=>failure
  | _=>failure
variable {K:PySem.W.Frag} {ρ:List Addr} {B:Addr->Prop} {H:Hp}
theorem xZ:∀ {ds:List DV} {ns:List Int} {xs:List V},U8 ds=some ns->RepL K ρ B H ds xs->xs=ns.map .int
  | [],_,xs,h,r=>by cases h;exact r
  | .int n::ds,ns,xs,h,⟨x,q,e,r1,r2⟩=>by
    obtain ⟨ms,h1,rfl⟩:=Option.map_eq_some_iff.mp (show (U8 ds).map (n :: ·)=some ns from h)
    rw [e,r1.intI,xZ h1 r2];rfl
theorem Kg:∀ ns:List Int,RepL K ρ B H (ns.map .int) (ns.map .int)
 | []=>rfl
 | n::ns=>⟨_,_,rfl,JH,Kg ns⟩
theorem VP:∀ {kvs:List (Key×DV)} {ns:List Int},xp kvs=some ns->kvs.map (·.1)=ns.map .inl
  | [],_,h=>by cases h;rfl
  | (.inl n,d)::kvs,ns,h=>by
    obtain ⟨ms,h1,rfl⟩:=Option.map_eq_some_iff.mp (show (xp kvs).map (n :: ·)=some ns from h)
    rw [List.map_cons,List.map_cons,VP h1]
end D
namespace D
open PySem PySem.Spec PyProof.Rows L2
abbrev ClsN (K:PySem.W.Frag) (c:Str) (C:Addr):Prop:=PySem.W.nsIn K mainGlobals c=some (some (.ref C))
theorem ClsN.uniq {K:PySem.W.Frag} {c:Str} {C C':Addr} (h:ClsN K c C) (h':ClsN K c C'):C=C':=by
 have e:=h.symm.trans h';cases e;rfl
structure qx (K:PySem.W.Frag) (c f:Str):Prop where
 ex:∃ C,ClsN K c C/\Cls K C/\NoAttr K C f
structure XM (P:Program) (w:World) (K:PySem.W.Frag) (mg:Str->Option Value) (base:Heap) (c m:Str) (k n:Nat) (F:List DV->M DV):Prop where
 ex:∃ (C f:Addr) (fd:FuncData) (ps:List Str),ClsN K c C/\Cls K C/\uy K C m f/\zh P w K mg base CX0 k f fd ps (spD K n F)/\Binds K fd ps []
structure Qby (P:Program) (w:World) (K:PySem.W.Frag) (mg:Str->Option Value) (base:Heap) (c:Str) (k n:Nat) (F:List DV->M DV):Prop where
 ex:∃ (C f:Addr) (fd:FuncData) (ps:List Str),ClsN K c C/\mg c=some (.ref C)/\Mk K C f/\zh P w K mg base CX0 k f fd ps (spD K n F)/\Binds K fd ps []
section
variable {K:PySem.W.Frag} {ρ:List Addr} {B:Addr->Prop} {H:Hp} {hp:Hs}
abbrev RepF (K:PySem.W.Frag) (ρ:List Addr) (B:Addr->Prop) (H:Hp):List (Str×DV)->List (Str×V)->Prop:=Paired fun p q=>p.1=q.1/\RepV K ρ B H p.2 q.2
theorem Qad:∀ {fs:List (Str×DV)} {xs:List (Str×V)},xs.map (·.1)=fs.map (·.1)->RepL K ρ B H (fs.map (·.2)) (xs.map (·.2))->RepF K ρ B H fs xs
  | [],[],_,_=>.nil
  | [],_::_,e,_=>by simp at e
  | _::_,[],e,_=>by simp at e
  | p::fs,q::xs,e,r=>by
    simp only [List.map_cons,List.cons.injEq] at e
    simp only [List.map_cons] at r
    unfold RepL at r
    obtain ⟨x,t,e2,h1,h2⟩:=r
    simp only [List.cons.injEq] at e2
    obtain ⟨rfl,rfl⟩:=e2
    exact .cons ⟨e.1.symm,h1⟩ (Qad e.2 h2)
theorem RepF.to {fs:List (Str×DV)} {xs:List (Str×V)} (r:RepF K ρ B H fs xs):xs.map (·.1)=fs.map (·.1)/\RepL K ρ B H (fs.map (·.2)) (xs.map (·.2)):=by
 induction r with
 | nil=>exact ⟨rfl,RepL.nil⟩
 | cons h _ ih=>exact ⟨by simp [ih.1,h.1],by simpa using RepL.cons h.2 ih.2⟩
theorem RepF.look {fs:List (Str×DV)} {xs:List (Str×V)} (r:RepF K ρ B H fs xs) (f:Str):(fs.lookup f=none/\xs.lookup f=none)∨∃ d v,fs.lookup f=some d/\xs.lookup f=some v/\RepV K ρ B H d v:=by
  induction r with
  | nil=>exact .inl ⟨rfl,rfl⟩
  | @cons p q _ _ h _ ih =>
    obtain ⟨p1,p2⟩:=p
    obtain ⟨q1,q2⟩:=q
    obtain ⟨h1,h2⟩:=h
    have h1:p1=q1:=h1
    subst h1
    cases e:f==p1 with
    | true=>exact .inr ⟨p2,q2,by simp [List.lookup,e],by simp [List.lookup,e],h2⟩
    | false=>simpa [List.lookup,e] using ih
def Xp (f:Str) (d:DV):List (Str×DV)->List (Str×DV)
 | []=>[(f,d)]
 | (g,x)::r=>if g=f then (g,d)::r else (g,x)::Xp f d r
theorem RepF.put {fs:List (Str×DV)} {xs:List (Str×V)} (r:RepF K ρ B H fs xs) (f:Str) {d:DV} {v:V} (rd:RepV K ρ B H d v):RepF K ρ B H (Xp f d fs) (YV f v xs):=by
  induction r with
  | nil=>exact .cons ⟨rfl,rd⟩ .nil
  | @cons p q _ _ h t ih =>
    obtain ⟨p1,p2⟩:=p
    obtain ⟨q1,q2⟩:=q
    obtain ⟨h1,h2⟩:=h
    have h1:p1=q1:=h1
    subst h1
    unfold Xp YV
    by_cases e:p1=f
    . rw [if_pos e,if_pos e];exact .cons ⟨rfl,rd⟩ t
    . rw [if_neg e,if_neg e];exact .cons ⟨rfl,h2⟩ ih
theorem RepF.len {fs:List (Str×DV)} {xs:List (Str×V)} (r:RepF K ρ B H fs xs):fs.length=xs.length:=Paired.length r
theorem RepF.gs {ρ':List Addr} {B':Addr->Prop} {H':Hp} {fs:List (Str×DV)} {xs:List (Str×V)} (g:Gs K ρ B H ρ' B' H') (r:RepF K ρ B H fs xs):RepF K ρ' B' H' fs xs:=L2.Paired.mapP r fun _ _ h=>⟨h.1,RepV.gs g _ _ h.2⟩
theorem ORep.ins {a:Addr} {c:Str} {fs:List (Str×DV)} (h:ORep K ρ B H a (.ins c fs)):∃ C dx xs,ClsN K c C/\H a=some (.ins C dx xs)/\RepF K ρ B H fs xs:=by
 obtain ⟨C,dx,xs,nc,e,ek,rl⟩:=h
 exact ⟨C,dx,xs,nc,e,Qad ek rl⟩
theorem RepF.orep {a C dx:Addr} {c:Str} {fs:List (Str×DV)} {xs:List (Str×V)} (nc:ClsN K c C) (r:RepF K ρ B H fs xs) (e:H a=some (.ins C dx xs)):ORep K ρ B H a (.ins c fs):=⟨C,dx,xs,nc,e,r.to.1,r.to.2⟩
theorem Qdz {n:Nat} {a C dx:Addr} {c:Str} {xs xs':List (Str×V)} {fs':List (Str×DV)} (W:WOk K ρ B hp H) (i:ρ[n]?=some a) (nc:ClsN K c C) (e:H a=some (.ins C dx xs)) (r:RepF K ρ B H fs' xs'):Gr K ρ B H ρ B (upd H a (.ins C dx xs'))/\WOk K ρ B (hp.set n (.ins c fs')) (upd H a (.ins C dx xs')):=by
 have g:Gr K ρ B H ρ B (upd H a (.ins C dx xs')):=Gr.wset i e
 exact ⟨g,W.wset (o':=.ins C dx xs') (v:=.ins c fs') i e ((r.gs (g.gs W.rb)).orep nc Za)⟩
end
def onI {α:Type} (c:Str) (x:DV) (k:Nat->List (Str×DV)->M α):M α:=match x with
  | .ref n=>do
    match <- Jn n with
    | .ins c' fs=>do QE (decide (c'=c));k n fs
    | _=>failure
  | _=>failure
theorem xw {α:Type} {c:Str} {x:DV} {d:α} {k:Nat->List (Str×DV)->M α} {hp hp':Hs} (h:onI c x k hp=some (d,hp')):∃ n fs,x=.ref n/\hp[n]?=some (.ins c fs)/\k n fs hp=some (d,hp'):=by
  cases x with
  | ref n =>
    obtain ⟨o,hp1,e1,e2⟩:=Qj (show (Jn n >>= fun o=>(match o with | .ins c' fs=>do QE (decide (c'=c));k n fs | _=>failure:M α)) hp=some (d,hp') from h)
    obtain ⟨e3,rfl⟩:=Jq e1
    cases o with
    | ins c' fs =>
      obtain ⟨_,hp2,e4,e5⟩:=Qj e2
      obtain ⟨hl,rfl⟩:=QL e4
      obtain rfl:=of_decide_eq_true hl
      exact ⟨n,fs,rfl,e3,e5⟩
    | lst _=>cases e2
    | dic _=>cases e2
  | non=>cases h
  | bl _=>cases h
  | int _=>cases h
  | str _=>cases h
  | tup _=>cases h
  | lst _=>cases h
def jC (c f:Str) (x:DV):M DV:=onI c x fun _ fs=>YT (fs.lookup f)
def jK (c f:Str) (x d:DV):M Unit:=onI c x fun n fs=>do QE (decide (fs.length < 1000));jL n (.ins c (Xp f d fs))
def QS (c f:Str) (g:DEx):DEx:=fun env=>do let x <- g env;jC c f x
def Zp (c f:Str) (fo fv:DEx):DSx:=fun env=>do let y <- fv env;let x <- fo env;jK c f x y;pure (.nx,env)
def Yq (c f:Str) (op:DV->DV->M DV) (fo fv:DEx):DSx:=fun env=>do let x <- fo env;let v <- jC c f x;let y <- fv env;let z <- op v y;jK c f x z;pure (.nx,env)
def ja:DV->DV->M DV
 | .int i,.int j=>pure (.int (i+j))
 | _,_=>failure
def Uv:DV->DV->M DV
 | .int i,.int j=>pure (.int (i - j))
 | _,_=>failure
def QF (c m:Str) (n:Nat) (F:List DV->M DV) (fo:DEx) (fa:DAx):DEx:=fun env=>do
 let x <- fo env
 onI c x fun _ fs=>QE (fs.lookup m).isNone
 let ds <- fa env
 QE (decide (ds.length+1=n))
 F (x::ds)
def JZ (c:Str) (n:Nat) (F:List DV->M DV) (fa:DAx):DEx:=fun env=>do
 let ds <- fa env
 QE (decide (ds.length+1=n))
 let x <- XU (.ins c [])
 let r <- F (x::ds)
 match r with
 | .non=>pure x
 | _=>failure
section
variable {X:Cx} {o e value:Expr} {c f m:Str} {pos pos' tpos apos:Pos} {fo fv:DEx}
theorem vo {K:PySem.W.Frag} {ρ:List Addr} {B:Addr->Prop} {H:Hp} {hp hp':Hs} {x d:DV} {v:V} (W:WOk K ρ B hp H) (r:RepV K ρ B H x v) (h:jC c f x hp=some (d,hp')):hp=hp'/\∃ a C dx xs u,v=.ref a/\ClsN K c C/\H a=some (.ins C dx xs)/\xs.lookup f=some u/\RepV K ρ B H d u:=by
 obtain ⟨n,fs,rfl,e1,e2⟩:=xw h
 obtain ⟨hl,rfl⟩:=yj e2
 obtain ⟨a,rfl,i,ro⟩:=RepV.refW W r e1
 obtain ⟨C,dx,xs,nc,e,rf⟩:=ro.ins
 rcases rf.look f with ⟨z,_⟩ | ⟨d',u,z,zu,ru⟩
 ·rw [hl] at z;cases z
 ·rw [hl] at z;cases z
  exact ⟨rfl,a,C,dx,xs,u,rfl,nc,e,zu,ru⟩
theorem vS {K:PySem.W.Frag} {ρ:List Addr} {B:Addr->Prop} {H:Hp} {hp hp':Hs} {x d:DV} {v y:V} {z:Unit} (W:WOk K ρ B hp H) (r:RepV K ρ B H x v) (rd:RepV K ρ B H d y) (h:jK c f x d hp=some (z,hp')):∃ a C dx xs,v=.ref a/\ClsN K c C/\H a=some (.ins C dx xs)/\xs.length < 1000/\Gr K ρ B H ρ B (upd H a (.ins C dx (YV f y xs)))/\WOk K ρ B hp' (upd H a (.ins C dx (YV f y xs))):=by
 obtain ⟨n,fs,rfl,e1,e2⟩:=xw h
 obtain ⟨_,hp1,e3,e4⟩:=Qj e2
 obtain ⟨hl,rfl⟩:=QL e3
 cases e4
 obtain ⟨a,rfl,i,ro⟩:=RepV.refW W r e1
 obtain ⟨C,dx,xs,nc,e,rf⟩:=ro.ins
 obtain ⟨g,W'⟩:=Qdz W i nc e (rf.put f rd)
 exact ⟨a,C,dx,xs,rfl,nc,e,by rw [<- rf.len];exact of_decide_eq_true hl,g,W'⟩
theorem QM (hk:qx X.K c f) (ho:DE X o fo) (hb:attributeBase o f X.env (eval o X.env)=eval o X.env:=by rfl):DE X (.Attribute o f pos) (QS c f fo) :=
 L2.PE.imp (QfU ho hb) fun σ H Q ⟨Z,env,ρ,B,hp,d,hp',S,e,k⟩=>by
  obtain ⟨x,hp1,e1,e2⟩:=Qj e
  refine tD.run S e1 fun v ρ1 B1 H1 g1 S1 r1=>?_
  obtain ⟨rfl,a,C,dx,xs,u,rfl,nc,ea,hl,ru⟩:=vo S1.wo r1 e2
  obtain ⟨C',nc',cl,na⟩:=hk.ex
  obtain rfl:=nc.uniq nc'
  exact ⟨a,C,dx,xs,u,rfl,ea,cl,na,hl,k u ρ1 B1 H1 g1 S1.wo ru⟩
theorem ZB (hk:qx X.K c f) (ho:DE X o fo) (hv:DE X value fv) (hs:swapsWith value (some (.Attribute o f pos')) pos.line X.env=pure false:=by rfl):DS X (.Assign [.Attribute o f pos'] value pos) (Zp c f fo fv) :=
 L2.PS.imp (Qga ho hv hs) fun D σ H ⟨Z,env,ρ,B,hp,fl,env',hp',S,e,k⟩=>by
  obtain ⟨y,hp1,e1,e⟩:=Qj e
  obtain ⟨x,hp2,e2,e⟩:=Qj e
  obtain ⟨z,hp3,e3,e⟩:=Qj e
  obtain ⟨q,rfl⟩:=Qo e
  cases q
  refine tD.run S e1 fun u ρ1 B1 H1 g1 S1 r1=>tD.run S1 e2 fun v ρ2 B2 H2 g2 S2 r2=>?_
  obtain ⟨a,C,dx,xs,rfl,nc,ea,hl,g,W⟩:=vS S2.wo r2 (RepV.grow S1.wo.rb g2 _ _ r1) e3
  obtain ⟨C',nc',cl,na⟩:=hk.ex
  obtain rfl:=nc.uniq nc'
  exact ⟨a,C,dx,xs,rfl,ea,cl,na,hl,k σ ρ2 B2 _ ((g1.trans (g2.trans g)).gs S.wo.rb) (S2.grow g W)⟩
theorem x8 (hk:qx X.K c f) (ho:DE X o fo) (hv:DE X value fv):DS X (.AugAssign (.Attribute o f tpos) .Add value pos) (Yq c f ja fo fv) :=
 L2.PS.imp (Qbf ho hv Qfw) fun D σ H ⟨Z,env,ρ,B,hp,fl,env',hp',S,e,k⟩=>by
  obtain ⟨x,hp1,e1,e⟩:=Qj e
  obtain ⟨v,hp2,e2,e⟩:=Qj e
  obtain ⟨y,hp3,e3,e⟩:=Qj e
  obtain ⟨z,hp4,e4,e⟩:=Qj e
  obtain ⟨_,hp5,e5,e⟩:=Qj e
  obtain ⟨q,rfl⟩:=Qo e
  cases q
  refine tD.run S e1 fun vx ρ1 B1 H1 g1 S1 r1=>?_
  obtain ⟨rfl,a,C,dx,xs,u,rfl,nc,ea,hl,ru⟩:=vo S1.wo r1 e2
  obtain ⟨C',nc',cl,na⟩:=hk.ex
  obtain rfl:=nc.uniq nc'
  refine ⟨a,C,dx,xs,u,rfl,ea,cl,na,hl,tD.run S1 e3 fun w ρ2 B2 H2 g2 S2 r2=>?_⟩
  have ru2:=RepV.grow S1.wo.rb g2 _ _ ru
  have r12:=RepV.grow S1.wo.rb g2 _ _ r1
  unfold ja at e4
  split at e4
  ·obtain ⟨rfl,rfl⟩:=Qo e4
   refine ⟨_,_,ru2.intI,r2.intI,?_⟩
   obtain ⟨a',C2,dx',xs',q1,nc2,ea',hl',g,W⟩:=vS S2.wo r12 JH e5
   cases q1
   obtain rfl:=nc2.uniq nc
   exact ⟨dx',xs',ea',hl',k σ ρ2 B2 _ ((g1.trans (g2.trans g)).gs S.wo.rb) (S2.grow g W)⟩
  ·cases e4
theorem Qco {C:Addr} {n:Nat} {F:List DV->M DV} {fa:DAx} {σ:St} {H:Hp} {Q:VK} (nc:ClsN X.K c C) (h:tD X.K (QF c m n F fo fa) σ H Q):Qdo C m (spD X.K n F) [] E0 (tD X.K fo) (tDA X.K fa) σ H Q:=by
 obtain ⟨Z,env,ρ,B,hp,d,hp',S,e,k⟩:=h
 obtain ⟨x,hp1,e1,e⟩:=Qj e
 obtain ⟨_,hp2,e2,e⟩:=Qj e
 obtain ⟨ds,hp3,e3,e⟩:=Qj e
 obtain ⟨_,hp4,e4,ef⟩:=Qj e
 obtain ⟨hl,rfl⟩:=QL e4
 refine tD.run S e1 fun v ρ1 B1 H1 g1 S1 r1=>?_
 obtain ⟨i,fs,rfl,w1,w2⟩:=xw e2
 obtain ⟨hn,rfl⟩:=QL w2
 obtain ⟨a,rfl,_,ro⟩:=RepV.refW S1.wo r1 w1
 obtain ⟨C',dx,xs,nc',ea,rf⟩:=ro.ins
 obtain rfl:=nc'.uniq nc
 have hx:xs.lookup m=none:=by
  rcases rf.look m with ⟨_,z⟩ | ⟨_,_,z,_,_⟩
  ·exact z
  ·rw [z] at hn;cases hn
 refine ⟨a,dx,xs,rfl,ea,hx,tDA.run S1 e3 fun vs ρ2 B2 H2 g2 S2 r2=>?_⟩
 refine ⟨?_,ρ2,B2,hp3,_,d,hp',S2.wo,?_,ef,k.after (g1.trans g2)⟩
 ·rw [List.append_nil,List.length_cons,<- r2.length];exact of_decide_eq_true hl
 ·rw [List.append_nil];exact RepL.cons (RepV.grow S1.wo.rb g2 _ _ r1) r2
theorem ZE {k j n:Nat} {F:List DV->M DV} {es:List Expr} {fa:DAx} {pl:Sem Bool} (h:XM X.prog X.w X.K X.mg X.base c m j n F) (hr:Room k X.A) (hj:j<=k) (hx:YK CX0 X E0) (ho:DE X o fo) (ha:DA X (e::es) fa)
  (hst:starEach (e::es) X.env=(false,eval e X.env)::starEach es X.env:=by rfl) (hpl:(backTo pos (starEach es X.env)).any (·.1)=false:=by rfl)
  (ht:eval (.Call (.Attribute o m apos) (e::es) [] pos) X.env=(do
   let ov <- eval o X.env
   standAt apos.atName
   let (f,first) <- holding [ov] (getMethod ov m pl)
   callWith pos f first (backTo pos (starEach (e::es) X.env)) (backToKw pos (keywordEach [] X.env))):=by rfl):DE X (.Call (.Attribute o m apos) (e::es) [] pos) (QF c m n F fo fa):=by
 obtain ⟨C,g,fd,ps,nc,cl,hm,F',hb⟩:=h.ex
 exact L2.PE.imp (Qej (pl:=pl) ho cl hm F' (hr.mono hj) hb .nil hx ha hst hpl ht) fun σ H Q q=>Qco nc q
theorem ZL {k j n:Nat} {F:List DV->M DV} {pl:Sem Bool} (h:XM X.prog X.w X.K X.mg X.base c m j n F) (hr:Room k X.A) (hj:j<=k) (hx:YK CX0 X E0) (ho:DE X o fo)
  (ht:eval (.Call (.Attribute o m apos) [] [] pos) X.env=(do
   let ov <- eval o X.env
   standAt apos.atName
   let (f,first) <- holding [ov] (getMethod ov m pl)
   callWith pos f first (backTo pos (starEach [] X.env)) (backToKw pos (keywordEach [] X.env))):=by rfl):DE X (.Call (.Attribute o m apos) [] [] pos) (QF c m n F fo Qm):=by
 obtain ⟨C,g,fd,ps,nc,cl,hm,F',hb⟩:=h.ex
 refine L2.PE.imp (QcG (pl:=pl) ho cl hm F' (hr.mono hj) hb .nil hx ht) fun σ H Q q=>?_
 obtain ⟨Z,env,ρ,B,hp,d,hp',S,e,k⟩:=q
 obtain ⟨x,hp1,e1,e⟩:=Qj e
 obtain ⟨_,hp2,e2,e⟩:=Qj e
 obtain ⟨ds,hp3,e3,e⟩:=Qj e
 obtain ⟨_,hp4,e4,ef⟩:=Qj e
 obtain ⟨hl,rfl⟩:=QL e4
 obtain ⟨rfl,rfl⟩:=Qo e3
 refine tD.run S e1 fun v ρ1 B1 H1 g1 S1 r1=>?_
 obtain ⟨i,fs,rfl,w1,w2⟩:=xw e2
 obtain ⟨hn,rfl⟩:=QL w2
 obtain ⟨a,rfl,_,ro⟩:=RepV.refW S1.wo r1 w1
 obtain ⟨C',dx,xs,nc',ea,rf⟩:=ro.ins
 obtain rfl:=nc'.uniq nc
 have hx:xs.lookup m=none:=by
  rcases rf.look m with ⟨_,z⟩ | ⟨_,_,z,_,_⟩
  ·exact z
  ·rw [z] at hn;cases hn
 exact ⟨a,dx,xs,rfl,ea,hx,of_decide_eq_true hl,ρ1,B1,hp1,_,d,hp',S1.wo,RepL.cons r1 RepL.nil,ef,k.after g1⟩
theorem Qbk {k:Nat} {C g:Addr} {fd:FuncData} {ps:List Str} {sp:Sp} {pins:List (Addr×Obj)} {σ:St} {H:Hp} {s:Shared} {Q:VK} {us:List Value} {vs:List V} (M:Mk X.K C g) (F:zh X.prog X.w X.K X.mg X.base CX0 k g fd ps sp) (hr:Room (k+1) X.A) (hb:Binds X.K fd ps [])
    (hx:YK CX0 X E0) (I:Inv X pins σ H s) (r:Vals vs us)
    (h:∀ x dx,H x=none->H dx=none->dx≠x->X.K.lookup x=none->sp (.ref x::vs) (upd (upd H dx (.own x)) x (.ins C dx [])) (fun v H2=>v=.non/\Q (.ref x) H2) E0) :
    wpAny (model X.prog X.w) X.A (call (.ref C) us) (EP X pins σ Q) X.xe s:=by
  have kf:X.K.lookup (s.heap.objs.size+1)=none:=by
    cases q:X.K.lookup (s.heap.objs.size+1) with
    | none=>rfl
    | some o=>exact absurd (Heap.lt_size (I.kIn _ _ q)) (Nat.not_lt.mpr (Nat.le_succ _))
  have hq:=h _ _ (I.hok.fresh (Nat.le_succ _)) (I.hok.fresh (Nat.le_refl _)) (Nat.ne_of_lt (Nat.lt_succ_self _)) kf
  have J:=Inv.made (C:=C) I
  have rr:Vals (V.ref (s.heap.objs.size+1)::vs) (Value.ref (s.heap.objs.size+1)::us):=.cons rfl r
  have ll:((Value.ref (s.heap.objs.size+1)::us)++[]).length=ps.length:=by
    rw [List.append_nil,<- rr.length];exact F.len _ _ _ _ hq
  have bb:=hb _ (Value.ref (s.heap.objs.size+1)::us) J.kIn ll
  rw [List.append_nil] at bb
  refine wpAny_call (Qcm (f:=g) I.kIn M.makes M.init (beq_iff_eq.mp M.fn) (codeAny_mono (F.run _ X.stack _ _ ⟨Value.ref (s.heap.objs.size+1)::us,[]⟩ _ _ _ E0 (hr.make C us []) (J.env0.make C us []) bb rr hq) fun q s' z=>?_))
  cases q with
  | error e=>exact hx pins σ _ _ e s' J z
  | ok fl =>
    cases fl with
    | ret u =>
      obtain ⟨v,H',I3,rv,ev,q3⟩:=J.after z
      subst ev
      exact ⟨rv,⟨V.ref (s.heap.objs.size+1),H',I3,rfl,q3⟩⟩
    | next=>exact z.elim
    | brk=>exact z.elim
    | cont=>exact z.elim
theorem Qcl {C:Addr} {n:Nat} {F:List DV->M DV} {vs:List V} {K:PySem.W.Frag} {ρ:List Addr} {B:Addr->Prop} {hp hp':Hs} {H:Hp} {ds:List DV} {d:DV} {Q:VK} (nc:ClsN K c C) (hl:ds.length+1=n) (W:WOk K ρ B hp H) (r:RepL K ρ B H ds vs)
  (e:(do let x <- XU (.ins c []);let r <- F (x::ds);match r with | .non=>pure x | _=>failure:M DV) hp=some (d,hp')) (k:Fol K ρ B H d hp' Q) :
  ∀ x dx,H x=none->H dx=none->dx≠x->K.lookup x=none->spD K n F (.ref x::vs) (upd (upd H dx (.own x)) x (.ins C dx [])) (fun v H2=>v=.non/\Q (.ref x) H2) E0:=by
 intro x dx hx hdx ne kf
 have e1:F (.ref hp.length::ds) (hp++[.ins c []])=some (.non,hp')/\d=.ref hp.length:=by
  obtain ⟨y,hp1,a1,a2⟩:=Qj e
  cases a1
  obtain ⟨y,hp2,a3,a4⟩:=Qj a2
  cases y with
  | non=>obtain ⟨rfl,rfl⟩:=Qo a4;exact ⟨a3,rfl⟩
  | bl _=>cases a4
  | int _=>cases a4
  | str _=>cases a4
  | tup _=>cases a4
  | lst _=>cases a4
  | ref _=>cases a4
 obtain ⟨e1,rfl⟩:=e1
 have hx':upd H dx (.own x) x=none:=by rw [QX (Ne.symm ne)];exact hx
 have g0:Gr K ρ B H ρ B (upd H dx (.own x)):=Gr.laid hdx
 have g1:Gr K ρ B (upd H dx (.own x)) (ρ++[x]) (jZ B x) (upd (upd H dx (.own x)) x (.ins C dx [])):=Gr.wnew hx' kf
 have W1:WOk K (ρ++[x]) (jZ B x) (hp++[.ins c []]) (upd (upd H dx (.own x)) x (.ins C dx [])):=(W.laid hdx).wnew hx' kf (RepF.orep nc .nil Za)
 have rx:RepV K (ρ++[x]) (jZ B x) (upd (upd H dx (.own x)) x (.ins C dx [])) (.ref hp.length) (.ref x):=by
  unfold RepV
  exact ⟨x,rfl,by rw [<- W.len];simp⟩
 refine ⟨?_,ρ++[x],jZ B x,hp++[.ins c []],.ref hp.length::ds,.non,hp',W1,RepL.cons rx (RepL.grow W.rb (g0.trans g1) _ _ r),e1,fun v ρ' B' H' g' W' r'=>?_⟩
 ·rw [List.length_cons,<- r.length];exact hl
 ·exact ⟨r'.nonI,k _ ρ' B' H' ((g0.trans g1).trans g') W' (RepV.grow W1.rb g' _ _ rx)⟩
theorem K0 {k j n:Nat} {F:List DV->M DV} {es:List Expr} {fa:DAx} {p:Pos} (h:Qby X.prog X.w X.K X.mg X.base c j n F) (hr:Room k X.A) (hj:j+1<=k) (hx:YK CX0 X E0) (ha:DA X (e::es) fa) (hg:Gl X c:=by rfl)
  (hdb:(c==("__debug__" : Str))=false:=by decide) (he:starEach (e::es) X.env=(false,eval e X.env)::starEach es X.env:=by rfl) (hpl:(backTo pos (starEach es X.env)).any (·.1)=false:=by rfl):DE X (.Call (.Name c p) (e::es) [] pos) (JZ c n F fa):=by
 obtain ⟨C,g,fd,ps,nc,hm,M,F',hb⟩:=h.ex
 intro pins s σ H Q I q
 obtain ⟨Z,env,ρ,B,hp,d,hp',S,e,k⟩:=q
 obtain ⟨ds,hp1,e1,e2⟩:=Qj e
 obtain ⟨_,hp2,e3,e4⟩:=Qj e2
 obtain ⟨hl,rfl⟩:=QL e3
 refine wpAny_Call_Name_kw (Gn I hg hm ?_ hdb)
 refine PySem.W.callWith_K (h₀:=X.base) I.ok.mod.kin M.kp (thn (ha pos pins s σ H _ I (tDA.run S e1 fun vs ρ1 B1 H1 g1 S1 r1=>Qcl (Q:=Q) nc (of_decide_eq_true hl) S1.wo r1 e4 (k.after g1))) fun us s1 ⟨vs,H1,I1,r,q⟩=>⟨I1.kIn,?_⟩) he hpl
 exact Qbk M F' (hr.mono hj) hb hx I1 r q
end
theorem QbX {P:Program} {w:World} {K:PySem.W.Frag} {mg:Str->Option Value} {base:Heap} {x qual:Str} {stm:Stmt} {g:Addr} {fd:FuncData} {N ps:List Str} {k:Nat} {body:DSx} (F:Fun K x qual stm g fd) (Sc:Qy N ps (Qs stm))
  (h:∀ (cdv:Value) (A:Around) (outer:List Env) (s:Shared) (H:Hp) (E:XK),Room k (A.deeper (envOfC qual (Qs stm) s.heap.objs.size g cdv))->DSs (y0 CX0 P w K mg base N qual (Qs stm) g cdv A outer s H E).nox (ZY stm) body) :
  zh P w K mg base CX0 (k+1) g fd ps (spD K ps.length (Zb N.length body)):=by
 refine F.ok Sc (fun vs H Q E h=>h.1) (fun cdv A outer s H vs Q E hr sp=>?_)
 obtain ⟨hn,ρ,B,hp,ds,d,hp',W,r,e,k⟩:=sp
 obtain ⟨⟨fl,env'⟩,hp1,e1,e2⟩:=Qj e
 refine ⟨_,h cdv A outer s H E hr,⟨ρ,B,H⟩,_,ρ,B,hp,fl,env',hp1,ym W r,e1,fun σ' ρ' B' H' g' S'=>?_⟩
 cases fl with
 | nx=>obtain ⟨rfl,rfl⟩:=Qo e2;exact k .non ρ' B' H' S'.gr S'.wo zX
 | rt x=>obtain ⟨rfl,rfl⟩:=Qo e2;exact fun v rv=>k v ρ' B' H' S'.gr S'.wo rv
 | bk=>cases e2
 | ct=>cases e2
theorem Qcn {P:Program} {w:World} {K:PySem.W.Frag} {mg:Str->Option Value} {base:Heap} {c m qual:Str} {stm:Stmt} {C g:Addr} {fd:FuncData} {N ps:List Str} {k:Nat} {body:DSx} (nc:ClsN K c C) (cl:Cls K C) (me:uy K C m g) (F:Fun K m qual stm g fd) (Sc:Qy N ps (Qs stm))
  (hb:∀ (kV doc pm:Value) (an:Option Addr) (cdv ct:Value) (us:List Value),us.length=ps.length->bindArgs (PySem.W.fnOf m qual (JP stm) (ZY stm) (Qs stm) .none kV doc pm an cdv ct) ⟨us,[]⟩=pure (ps.zip us))
  (h:∀ (cdv:Value) (A:Around) (outer:List Env) (s:Shared) (H:Hp) (E:XK),Room k (A.deeper (envOfC qual (Qs stm) s.heap.objs.size g cdv))->DSs (y0 CX0 P w K mg base N qual (Qs stm) g cdv A outer s H E).nox (ZY stm) body) :
  XM P w K mg base c m (k+1) ps.length (Zb N.length body):=⟨C,g,fd,ps,nc,cl,me,QbX F Sc h,F.binds hb⟩
theorem Qb5 {P:Program} {w:World} {K:PySem.W.Frag} {mg:Str->Option Value} {base:Heap} {c qual:Str} {stm:Stmt} {C g:Addr} {fd:FuncData} {N ps:List Str} {k:Nat} {body:DSx} (nc:ClsN K c C) (hm:mg c=some (.ref C)) (me:Mk K C g) (F:Fun K "__init__" qual stm g fd) (Sc:Qy N ps (Qs stm))
  (hb:∀ (kV doc pm:Value) (an:Option Addr) (cdv ct:Value) (us:List Value),us.length=ps.length->bindArgs (PySem.W.fnOf "__init__" qual (JP stm) (ZY stm) (Qs stm) .none kV doc pm an cdv ct) ⟨us,[]⟩=pure (ps.zip us))
  (h:∀ (cdv:Value) (A:Around) (outer:List Env) (s:Shared) (H:Hp) (E:XK),Room k (A.deeper (envOfC qual (Qs stm) s.heap.objs.size g cdv))->DSs (y0 CX0 P w K mg base N qual (Qs stm) g cdv A outer s H E).nox (ZY stm) body) :
  Qby P w K mg base c (k+1) ps.length (Zb N.length body):=⟨C,g,fd,ps,nc,hm,me,QbX F Sc h,F.binds hb⟩
section
variable {X:Cx}
def Qfc:DSx:=fun _=>failure
theorem QdM {st:Stmt}:DS X st Qfc:=L2.PS.imp QcQ fun D σ H ⟨Z,env,ρ,B,hp,fl,env',hp',S,e,k⟩=>by cases e
def V6 (i:Nat) (op:DV->DV->M DV) (fe:DEx):DSx:=fun env=>do let v <- Qb i env;let y <- fe env;let z <- op v y;pure (.nx,env.set i (.val z))
end
end D
namespace D
open PySem PySem.Spec PyProof.Rows L2
theorem ZW {α β:Type} (m:M α) (k:α->M β) (hp:Hs):(m >>= k) hp=(m hp).bind fun p=>k p.1 p.2:=by
 show (StateT.bind m k hp)=_
 unfold StateT.bind
 cases m hp with
 | none=>rfl
 | some p=>obtain ⟨a,h⟩:=p;rfl
theorem Xr {α β:Type} (f:α->β) (m:M α) (hp:Hs):(f <$> m) hp=(m hp).map fun p=>(f p.1,p.2):=by
 show (StateT.map f m hp)=_
 unfold StateT.map
 cases m hp with
 | none=>rfl
 | some p=>obtain ⟨a,h⟩:=p;rfl
theorem JB {α:Type} (a:α) (hp:Hs):(pure a:M α) hp=some (a,hp):=rfl
theorem JU {α:Type} (hp:Hs):(failure:M α) hp=none:=rfl
theorem JA (b:Bool) (hp:Hs):QE b hp=if b=true then some ((),hp) else none:=by cases b<;>rfl
theorem Xq (n:Nat) (hp:Hs):Jn n hp=(hp[n]?).map fun o=>(o,hp):=by unfold Jn;cases hp[n]?<;>rfl
theorem Xt (n:Nat) (o:OV) (hp:Hs):jL n o hp=some ((),hp.set n o):=rfl
theorem Xs (o:OV) (hp:Hs):XU o hp=some (.ref hp.length,hp++[o]):=rfl
theorem Zi (hp:Hs) (k:Nat) (X:OV) (h:(hp[k]?).isSome=true):(hp.set k X)[k]?=some X:=by
 have:k < hp.length:=by
  rcases Nat.lt_or_ge k hp.length with q | q
  ·exact q
  ·rw [List.getElem?_eq_none q] at h;cases h
 rw [List.getElem?_set_self this]
theorem QU (hp:Hs) (k n:Nat) (X:OV) (h:k≠n):(hp.set k X)[n]?=hp[n]?:=List.getElem?_set_ne h
theorem Ji (hp:Hs) (X:OV):(hp++[X])[hp.length]?=some X:=by simp
end D
namespace D
open PySem PySem.Spec PyProof.Rows L2
mutual
def KRep (K:PySem.W.Frag):DV->V->Prop
 | .non,v=>v=.non
 | .bl b,v=>v=.bl b
 | .int i,v=>v=.int i
 | .str x,v=>v=.str x
 | .tup ds,v=>∃ (a:Addr) (o:Obj) (its:Array Value) (n:Nat) (xs:List V),v=.ref a/\K.lookup a=some o/\o.cls=.type "tuple" /\ o.data=.seq its n/\its.size<=sizeLine/\Vals xs its.toList/\KRepL K ds xs
 | _,_=>False
def KRepL (K:PySem.W.Frag):List DV->List V->Prop
 | [],xs=>xs=[]
 | d::ds,xs=>∃ x r,xs=x::r/\KRep K d x/\KRepL K ds r
end
mutual
theorem KRep.rep {K:PySem.W.Frag} {ρ:List Addr} {B:Addr->Prop} {H:Hp} (hb:∀ a,B a->K.lookup a=none):∀ (d:DV) (v:V),KRep K d v->RepV K ρ B H d v
  | .non,_,h=>by unfold KRep at h;unfold RepV;exact h
  | .bl _,_,h=>by unfold KRep at h;unfold RepV;exact h
  | .int _,_,h=>by unfold KRep at h;unfold RepV;exact h
  | .str _,_,h=>by unfold KRep at h;unfold RepV;exact h
  | .lst _,_,h=>by unfold KRep at h;exact h.elim
  | .ref _,_,h=>by unfold KRep at h;exact h.elim
  | .tup ds,_,h=>by
    unfold KRep at h;unfold RepV
    obtain ⟨a,o,its,n,xs,rfl,h1,h2,h3,h4,h5,h6⟩:=h
    exact ⟨a,xs,rfl,fun z=>(by rw [hb a z] at h1;cases h1),.inr ⟨o,its,n,h1,h2,h3,h4,h5⟩,KRepL.rep hb ds xs h6⟩
theorem KRepL.rep {K:PySem.W.Frag} {ρ:List Addr} {B:Addr->Prop} {H:Hp} (hb:∀ a,B a->K.lookup a=none):∀ (ds:List DV) (xs:List V),KRepL K ds xs->RepL K ρ B H ds xs
  | [],_,h=>by unfold KRepL at h;unfold RepL;exact h
  | d::ds,_,h=>by
    unfold KRepL at h;unfold RepL
    obtain ⟨x,r,e,h1,h2⟩:=h
    exact ⟨x,r,e,KRep.rep hb d x h1,KRepL.rep hb ds r h2⟩
end
theorem uX {K:PySem.W.Frag} {ds:List DV} {a:Addr} {od:Option Addr} {its:Array Value} {n:Nat} {sl:Array (Option Value)} {xs:List V} (h:K.lookup a=some ⟨.type "tuple", od,.seq its n,sl⟩) (hs:its.size<=sizeLine) (hv:Vals xs its.toList) (hl:KRepL K ds xs):KRep K (.tup ds) (.ref a):=by
 unfold KRep;exact ⟨a,_,its,n,xs,rfl,h,rfl,rfl,hs,hv,hl⟩
theorem Qca {K:PySem.W.Frag}:KRep K .non .non:=by unfold KRep;rfl
theorem QfE {K:PySem.W.Frag} {i:Int}:KRep K (.int i) (.int i):=by unfold KRep;rfl
theorem Gi {K:PySem.W.Frag}:KRepL K [] []:=by unfold KRepL;rfl
theorem zw {K:PySem.W.Frag} {d:DV} {ds:List DV} {x:V} {r:List V} (h:KRep K d x) (h':KRepL K ds r):KRepL K (d::ds) (x::r):=by unfold KRepL;exact ⟨x,r,rfl,h,h'⟩
theorem QdK {X:Cx} {x:Str} {ds:List DV} {a:Addr} {pos:Pos} (hg:Gl X x) (hm:X.mg x=some (.ref a)) (hk:KRep X.K (.tup ds) (.ref a)) (hd:(x==("__debug__" : Str))=false:=by decide):DE X (.Name x pos) (eC (.tup ds)) :=
 (Qab (v:=.ref a) hg hm rfl hd).imp fun σ H Q ⟨Z,env,ρ,B,hp,d',hp',S,e,k⟩=>by
  obtain ⟨rfl,rfl⟩:=Qo e
  exact k _ ρ B H Gr.refl S.wo (KRep.rep S.wo.bk _ _ hk)
end D
namespace D
open PySem PySem.Spec PyProof.Rows L2
theorem QbY (hp:Hs) (x:OV) (t:Hs):(hp++x::t)[hp.length]?=some x:=by simp
theorem gJ (hp:Hs) (x y:OV) (t:Hs):(hp++x::t).set hp.length y=hp++y::t:=by
 rw [List.set_append_right _ _ (Nat.le_refl _)];simp
theorem Vq {hp:Hs} {n:Nat} {x:OV} (h:hp[n]?=some x):hp.set n x=hp:=by
 obtain ⟨hl,rfl⟩:=List.getElem?_eq_some_iff.mp h
 exact List.set_getElem_self hl
theorem xA {n i:Nat} {d:DV} (h:(Ze 0 n)[i]?=some d):i < n/\d=.int (i:Int):=by
 obtain ⟨h1,h2⟩:=gB h
 exact ⟨h1,by rw [h2];simp⟩
theorem yq {n:Nat} (h:n<=1000000):Ys (n:Int)=true:=Qdf (by omega) (by omega)
theorem yh {i:Int} (h:0<=i):∃ j:Nat,i=j:=⟨i.toNat,by omega⟩
theorem Gg {n i:Nat} (h:i < n):ixN n (i:Int)=some i:=by unfold ixN;rw [if_pos (by omega),if_pos (by omega)];simp
theorem gF {f:DXx} {g:DGx} {body:DSx} {env:En} {hp hp1:Hs} {ds:List DV} {r:(Fl×En)×Hs} (h:f env hp=some (nxD ds,hp1)) (h':y4 (nxD ds) (fun d env=>do let env' <- g d env;body env') 100000 0 env hp1=some r):Qag f g body env hp=some r:=by
 unfold Qag
 rw [Qi h];exact h'
theorem qc {f:DIx} {g:DGx} {body:DSx} {env:En} {hp hp1:Hs} {ds:List DV} {r:(Fl×En)×Hs} (h:f env hp=some (ds,hp1)) (h':xh (fun d env=>do let env' <- g d env;body env') ds env hp1=some r):vM f g body env hp=some r:=by
 unfold vM
 rw [Qi h];exact h'
theorem QeF {m:Nat} (h:m<=1000000) (hp:Hs):Qbh [.int (m:Int)] hp=some (Ze 0 m,hp):=by
 have e:Qbh [.int (m:Int)]=pure (Ze 0 (m:Int).toNat):=by
  simp only [Qbh,yq h,QE,if_true,pure_bind]
 rw [e,Int.toNat_natCast];rfl
theorem zU {f:DAx} {env:En} {hp hp1:Hs} {m:Nat} (h:f env hp=some ([.int (m:Int)],hp1)) (hm:m<=1000000):Vc f env hp=some (Ze 0 m,hp1):=by
 unfold Vc
 rw [Qi h];exact QeF hm hp1
theorem xT {f:DEx} {env:En} {hp hp1:Hs} {ds:List DV} (h:f env hp=some (.lst ds,hp1)):xLs f env hp=some (nxD ds,hp1):=by
 unfold xLs
 rw [Qi h];rfl
end D
namespace D
open PySem PySem.Spec PyProof.Rows L2
section
variable {X:Cx}
def xr (x:DV):List DV->M DV
 | [y]=>onL x fun n ds=>onL y fun _ es=>do QE (decide (ds.length+es.length<=lim));jL n (.lst (ds++es));pure .non
 | _=>failure
theorem Qck:MtR X "list.extend" (tPm X.K xr):=by
 intro pins s σ H x vs v us Q I rx rv h
 obtain ⟨ρ,B,hp,dx,es,d,hp',W,r1,r2,e,k⟩:=h
 unfold xr at e
 split at e
 ·rename_i y
  obtain ⟨n,ds,rfl,h0,e⟩:=VZ e
  obtain ⟨m,zs,rfl,h0',e⟩:=VZ e
  obtain ⟨_,hp1,e1,e2⟩:=Qj e
  obtain ⟨hl,rfl⟩:=QL e1
  cases e2
  obtain ⟨a,rfl,i1,xs,h1,l1⟩:=RepV.refW W r1 h0
  obtain ⟨w,rfl,rw'⟩:=r2.oneI
  obtain ⟨b,rfl,i2,ys,h2,l2⟩:=RepV.refW W rw' h0'
  obtain ⟨g,W'⟩:=UA W i1 h1 (RepL.append l1 l2)
  exact Qa5 pins s σ H _ _ v us Q I rx rv ⟨a,b,xs,ys,rfl,rfl,h1,h2,by rw [<- l1.length,<- l2.length];exact Nat.le_trans (of_decide_eq_true hl) Go,k _ ρ B _ g W' zX⟩
 ·cases e
end
end D
namespace L2
open PySem PySem.Spec PyProof.Rows
abbrev XT (h:Heap) (z p o:Addr) (f:Value) (b:Bool):Prop:=h.get? z=some { cls:=Value.type "zip", data:=Data.fields #[f,Value.bool b,Value.bool false,Value.ref p,Value.ref o] }
structure ZU (h:Heap) (z p o i j a b:Addr) (n:Nat):Prop where
 zz:∃ f fl,XT h z p o f fl/\(f=.none∨∃ T:Nat,f=rawInt T)
 pp:IsPair h p (.ref i) (.ref j)
 oo:∃ x y,IsPair h o x y
 ii:h.IsTupleIter i a n
 jj:h.IsTupleIter j b n
section
variable {prog:Program} {w:World} {A:Around} {E:Value->Shared->Prop} {s:Shared}
theorem ul {a:Addr} {Q:Option Obj->Shared->Prop} (h:Q (s.heap.get? a) s):wpAny (model prog w) A (loadIfAlive a) Q E s:=by
 intro Γ p hΓ
 unfold loadIfAlive
 rw [Sem.wp_loadIfAlive]
 exact wpAny_pure (M:=model prog w) (A:=A) (E:=E) h Γ p hΓ
theorem Qay {z p o:Addr} {f:Value} {fl:Bool} {Q:Bool->Shared->Prop} (zz:XT s.heap z p o f fl) (hf:f=.none∨∃ T:Nat,f=rawInt T) (q1:Q true s) (q2:∀ g,XT g z p o f true->Heap.ExtBut z s.heap g->g.objs.size=s.heap.objs.size->Q false { s with heap:=g }) :
    wpAny (model prog w) A (Builtin.SmallTypes.ownedTupleIsFree (.ref z)) Q E s:=by
  unfold Builtin.SmallTypes.ownedTupleIsFree
  rcases hf with rfl | ⟨T,rfl⟩
  . exact wpAny_bind (wpAny_field zz rfl (x:=.none) rfl (wpAny_pure q1))
  . refine wpAny_bind (wpAny_field zz rfl (x:=rawInt T) rfl ?_)
    show wpAny _ _ (loadIfAlive (T:Int).toNat >>= _) _ _ _
    refine wpAny_bind (ul ?_)
    cases hT:s.heap.get? (T:Int).toNat with
    | none=>exact wpAny_pure q1
    | some ob =>
      show wpAny _ _ (field (.ref z) 1 >>= _) _ _ _
      refine wpAny_bind (wpAny_field zz rfl (x:=.bool fl) rfl ?_)
      cases fl with
      | true=>exact wpAny_pure (q2 _ zz (fun _ _ _ e=>e) rfl)
      | false =>
        show wpAny _ _ (setField (.ref z) 1 (.bool true) >>= _) _ _ _
        exact wpAny_bind (wpAny_setField_rec zz (by simp) fun g z1 k1=>wpAny_pure (q2 g z1 k1.extBut k1.1))
theorem QaA {z p o i j a b:Addr} {n:Nat} {xs ys:Array Value} {x y:Value} {Q:Value->Shared->Prop} (D:ZA z p o i j a b) (S:ZU s.heap z p o i j a b n) (ha:s.heap.IsTuple a xs) (hb:s.heap.IsTuple b ys) (hx:xs[n]?=some x) (hy:ys[n]?=some y)
  (k:∀ g,ZU g z p o i j a b (n+1)->IsPair g s.heap.objs.size x y->g.objs.size=s.heap.objs.size+1->(∀ c u,c≠z->c≠o->c≠i->c≠j->s.heap.get? c=some u->g.get? c=some u)->Q (.ref s.heap.objs.size) { s with heap:=g }) :
  wpAny (model prog w) A (Builtin.«zip.__next__» ⟨[.ref z],[]⟩) (fun fin s'=>∃ v,fin=.done (.ret v)/\Q v s') E s:=by
 obtain ⟨⟨f,fl,zz,hf⟩,pp,⟨u1,u2,oo⟩,ii,jj⟩:=S
 have ht:∀ {g g':Heap} {q c:Addr} {vs:Array Value},Heap.SameBut q g g'->c≠q->g.IsTuple c vs->g'.IsTuple c vs:=fun {g g' q c vs} sb hc ⟨ob,e,r⟩=>⟨ob,sb.extBut _ _ hc e,r⟩
 show wpAny _ _ (field (.ref z) 2 >>= _) _ _ _
 refine wpAny_bind (wpAny_field zz rfl (x:=.bool false) rfl ?_)
 show wpAny _ _ (field (.ref z) 3 >>= _) _ _ _
 refine wpAny_bind (wpAny_field zz rfl (x:=.ref p) rfl ?_)
 refine wpAny_bind (wpAny_seqItems pp rfl ?_)
 show wpAny _ _ (Builtin.SmallTypes.ownedTupleIsFree (.ref z) >>= _) _ _ _
 refine wpAny_bind (Qay zz hf ?_ ?_)
 ·simp only [if_true]
  refine wpAny_bind (wpAny_rule ?_)
  refine wpAny_bind (wpAny_field zz rfl (x:=.ref o) rfl ?_)
  refine wpAny_bind (wpAny_setField_rec zz (by simp) fun g1 z1 k1=>?_)
  replace z1:XT g1 z p o .ellipsis fl:=z1
  refine wpAny_bind ?_
  simp only [List.zipIdx_cons,List.zipIdx_nil,List.forIn_cons,List.forIn_nil]
  refine wpAny_bind (wpAny_bind (wpAny_onRaise ?_))
  show wpAny _ _ (Builtin.SmallTypes.nextOf (.ref i) >>= _) _ _ _
  refine wpAny_bind (Yc (ii.extBut k1.extBut D.iz) (ht k1 D.az ha) hx fun g2 i2 k2=>wpAny_pure ?_)
  have o2:IsPair g2 o u1 u2:=k2.extBut _ _ D.oi (k1.extBut _ _ D.oz oo)
  refine wpAny_bind (wpAny_seqItems o2 rfl ?_)
  refine wpAny_bind (wpAny_updateSeq_pair o2 fun g3 o3 k3=>?_)
  replace o3:IsPair g3 o x u2:=o3
  refine wpAny_bind (wpAny_letGo (wpAny_pure ?_))
  refine wpAny_bind (wpAny_bind (wpAny_onRaise ?_))
  show wpAny _ _ (Builtin.SmallTypes.nextOf (.ref j) >>= _) _ _ _
  refine wpAny_bind (Yc (((jj.extBut k1.extBut D.jz).extBut k2.extBut D.ij.symm).extBut k3.extBut D.oj.symm) (ht k3 D.bo (ht k2 D.bi (ht k1 D.bz hb))) hy fun g4 j4 k4=>wpAny_pure ?_)
  have o4:IsPair g4 o x u2:=k4.extBut _ _ D.oj o3
  refine wpAny_bind (wpAny_seqItems o4 rfl ?_)
  refine wpAny_bind (wpAny_updateSeq_pair o4 fun g5 o5 k5=>?_)
  replace o5:IsPair g5 o x y:=o5
  refine wpAny_bind (wpAny_letGo (wpAny_pure (wpAny_pure ?_)))
  refine wpAny_bind (wpAny_seqItems o5 rfl ?_)
  refine wpAny_bind (wpAny_newTuple ?_)
  have sz:g5.objs.size=s.heap.objs.size:=by rw [k5.1,k4.1,k3.1,k2.1,k1.1]
  have z5:XT g5 z p o .ellipsis fl:=k5.extBut _ _ D.oz.symm (k4.extBut _ _ D.jz.symm (k3.extBut _ _ D.oz.symm (k2.extBut _ _ D.iz.symm z1)))
  have kk:∀ c u,c≠z->c≠o->c≠i->c≠j->s.heap.get? c=some u->g5.get? c=some u:=fun c u c1 c2 c3 c4 e=>k5.extBut _ _ c2 (k4.extBut _ _ c4 (k3.extBut _ _ c2 (k2.extBut _ _ c3 (k1.extBut _ _ c1 e))))
  have i5:g5.IsTupleIter i a (n+1):=((i2.extBut k3.extBut D.oi.symm).extBut k4.extBut D.ij).extBut k5.extBut D.oi.symm
  have j5:g5.IsTupleIter j b (n+1):=j4.extBut k5.extBut D.oj.symm
  have zl:z < g5.objs.size:=Heap.lt_size z5
  show wpAny _ _ (Builtin.SmallTypes.ownedTupleHandOut (.ref z) (.ref g5.objs.size) >>= _) _ _ _
  refine wpAny_bind ?_
  unfold Builtin.SmallTypes.ownedTupleHandOut
  have z6:XT (g5.push { cls:=.type "tuple", data:=.seq #[x,y] }) z p o .ellipsis fl:=Heap.get?_push_of_some _ z5
  refine wpAny_bind (wpAny_setField_rec z6 (by simp) fun g7 z7 k7=>?_)
  replace z7:XT g7 z p o (rawInt g5.objs.size) fl:=z7
  refine wpAny_setField_rec z7 (by simp) fun g8 z8 k8=>?_
  replace z8:XT g8 z p o (rawInt g5.objs.size) false:=z8
  have up:∀ c u,c≠z->g5.get? c=some u->g8.get? c=some u:=fun c u c1 e=>k8.extBut _ _ c1 (k7.extBut _ _ c1 (Heap.get?_push_of_some _ e))
  have t8:IsPair g8 g5.objs.size x y:=k8.extBut _ _ (Nat.ne_of_gt zl) (k7.extBut _ _ (Nat.ne_of_gt zl) (Heap.get?_push_size _ rfl))
  have s8:g8.objs.size=g5.objs.size+1:=by rw [k8.1,k7.1,Heap.size_push]
  refine wpAny_pure ⟨_,rfl,?_⟩
  show Q (.ref g5.objs.size) _
  rw [sz] at z8 t8 s8
  rw [sz]
  exact k g8 ⟨⟨_,_,z8,.inr ⟨_,rfl⟩⟩,up _ _ D.pz (kk _ _ D.pz D.po D.pi D.pj pp),⟨x,y,up _ _ D.oz o5⟩,i5.at fun u e=>up _ u D.iz e,j5.at fun u e=>up _ u D.jz e⟩ t8 s8 fun c u c1 c2 c3 c4 e=>up c u c1 (kk c u c1 c2 c3 c4 e)
 ·intro g1 z1 k1 sz1
  simp only [Bool.false_eq_true,if_false]
  refine wpAny_bind ?_
  have ia1:g1.IsTuple a xs:=let ⟨ob,e,r⟩:=ha;⟨ob,k1 _ _ D.az e,r⟩
  have ib1:g1.IsTuple b ys:=let ⟨ob,e,r⟩:=hb;⟨ob,k1 _ _ D.bz e,r⟩
  simp only [List.forIn_toArray,List.forIn_cons,List.forIn_nil]
  refine wpAny_bind (wpAny_bind (wpAny_holding ?_))
  show wpAny _ _ (Builtin.SmallTypes.nextOf (.ref i) >>= _) _ _ _
  refine wpAny_bind (Yc (s:={ s with heap:=g1 }) (ii.extBut k1 D.iz) ia1 hx fun g2 i2 k2=>wpAny_pure (wpAny_pure ?_))
  refine wpAny_bind (wpAny_bind (wpAny_holding ?_))
  show wpAny _ _ (Builtin.SmallTypes.nextOf (.ref j) >>= _) _ _ _
  refine wpAny_bind (Yc (s:={ s with heap:=g2 }) ((jj.extBut k1 D.jz).extBut k2.extBut D.ij.symm) (ht k2 D.bi ib1) hy fun g3 j3 k3=>wpAny_pure (wpAny_pure ?_))
  refine wpAny_pure ?_
  refine wpAny_bind (wpAny_newTuple ?_ (show (2:Nat)<=sizeLine by decide))
  have sz:g3.objs.size=s.heap.objs.size:=by rw [k3.1,k2.1,sz1]
  have kk:∀ c u,c≠z->c≠i->c≠j->s.heap.get? c=some u->(g3.push { cls:=.type "tuple", data:=.seq #[x,y] }).get? c=some u:=fun c u c1 c3 c4 e=>Heap.get?_push_of_some _ (k3.extBut _ _ c4 (k2.extBut _ _ c3 (k1 _ _ c1 e)))
  have z3:XT (g3.push { cls:=.type "tuple", data:=.seq #[x,y] }) z p o f true:=Heap.get?_push_of_some _ (k3.extBut _ _ D.jz.symm (k2.extBut _ _ D.iz.symm z1))
  refine wpAny_pure ⟨_,rfl,?_⟩
  show Q (.ref g3.objs.size) _
  rw [sz]
  refine k _ ⟨⟨f,true,z3,hf⟩,kk _ _ D.pz D.pi D.pj pp,⟨u1,u2,kk _ _ D.oz D.oi D.oj oo⟩,(i2.extBut k3.extBut D.ij).at fun u e=>Heap.get?_push_of_some _ e,j3.at fun u e=>Heap.get?_push_of_some _ e⟩ ?_ (by rw [Heap.size_push,sz]) fun c u c1 _ c3 c4 e=>kk c u c1 c3 c4 e
  rw [<- sz];exact Heap.get?_push_size _ rfl
theorem QaB {z p o i j a b:Addr} {n:Nat} {xs ys:Array Value} {Q:PySem.Fin->Shared->Prop} (hh:A.handled=none) (D:ZA z p o i j a b) (S:ZU s.heap z p o i j a b n) (ha:s.heap.IsTuple a xs) (hb:s.heap.IsTuple b ys) (he:xs[n]?=none∨ys[n]?=none)
    (k:∀ g x,(∀ c u,c≠z->c≠o->c≠i->c≠j->s.heap.get? c=some u->g.get? c=some u)->(∃ u,g.get? x=some u/\u.cls=.type "StopIteration")->E (.ref x) { s with heap:=g }) :
    wpAny (model prog w) A (Builtin.«zip.__next__» ⟨[.ref z],[]⟩) Q E s:=by
  obtain ⟨⟨f,fl,zz,hf⟩,pp,⟨u1,u2,oo⟩,ii,jj⟩:=S
  have ht:∀ {g g':Heap} {q c:Addr} {vs:Array Value},Heap.SameBut q g g'->c≠q->g.IsTuple c vs->g'.IsTuple c vs:=fun {g g' q c vs} sb hc ⟨ob,e,r⟩=>⟨ob,sb.extBut _ _ hc e,r⟩
  show wpAny _ _ (field (.ref z) 2 >>= _) _ _ _
  refine wpAny_bind (wpAny_field zz rfl (x:=.bool false) rfl ?_)
  show wpAny _ _ (field (.ref z) 3 >>= _) _ _ _
  refine wpAny_bind (wpAny_field zz rfl (x:=.ref p) rfl ?_)
  refine wpAny_bind (wpAny_seqItems pp rfl ?_)
  show wpAny _ _ (Builtin.SmallTypes.ownedTupleIsFree (.ref z) >>= _) _ _ _
  refine wpAny_bind (Qay zz hf ?_ ?_)
  . simp only [if_true]
    refine wpAny_bind (wpAny_rule ?_)
    refine wpAny_bind (wpAny_field zz rfl (x:=.ref o) rfl ?_)
    refine wpAny_bind (wpAny_setField_rec zz (by simp) fun g1 z1 k1=>?_)
    replace z1:XT g1 z p o .ellipsis fl:=z1
    refine wpAny_bind ?_
    simp only [List.zipIdx_cons,List.zipIdx_nil,List.forIn_cons,List.forIn_nil]
    refine wpAny_bind (wpAny_bind (wpAny_onRaise ?_))
    show wpAny _ _ (Builtin.SmallTypes.nextOf (.ref i) >>= _) _ _ _
    cases hx:xs[n]? with
    | none =>
      refine wpAny_bind (yv hh (ii.extBut k1.extBut D.iz) (ht k1 D.az ha) hx fun g2 x k2 h2=>?_)
      obtain ⟨oe,h3,h4⟩:=h2
      have z2:XT g2 z p o .ellipsis fl:=k2 _ _ D.iz.symm z1
      have xz:x≠z:=fun q=>by subst q;rw [z2] at h3;cases h3;simp at h4
      exact wpAny_setField_rec z2 (by simp) fun g3 _ k3=>k g3 x (fun c u c1 _ c3 _ e=>k3.extBut _ _ c1 (k2 _ _ c3 (k1.extBut _ _ c1 e))) ⟨oe,k3.extBut _ _ xz h3,h4⟩
    | some x0 =>
      have hy:ys[n]?=none:=by rcases he with h | h;rw [hx] at h;cases h;exact h
      refine wpAny_bind (Yc (ii.extBut k1.extBut D.iz) (ht k1 D.az ha) hx fun g2 i2 k2=>wpAny_pure ?_)
      have o2:IsPair g2 o u1 u2:=k2.extBut _ _ D.oi (k1.extBut _ _ D.oz oo)
      refine wpAny_bind (wpAny_seqItems o2 rfl ?_)
      refine wpAny_bind (wpAny_updateSeq_pair o2 fun g3 o3 k3=>?_)
      refine wpAny_bind (wpAny_letGo (wpAny_pure ?_))
      refine wpAny_bind (wpAny_bind (wpAny_onRaise ?_))
      show wpAny _ _ (Builtin.SmallTypes.nextOf (.ref j) >>= _) _ _ _
      refine wpAny_bind (yv hh (((jj.extBut k1.extBut D.jz).extBut k2.extBut D.ij.symm).extBut k3.extBut D.oj.symm) (ht k3 D.bo (ht k2 D.bi (ht k1 D.bz hb))) hy fun g4 x k4 h2=>?_)
      obtain ⟨oe,h3,h4⟩:=h2
      have z4:XT g4 z p o .ellipsis fl:=k4 _ _ D.jz.symm (k3.extBut _ _ D.oz.symm (k2.extBut _ _ D.iz.symm z1))
      have xz:x≠z:=fun q=>by subst q;rw [z4] at h3;cases h3;simp at h4
      exact wpAny_setField_rec z4 (by simp) fun g5 _ k5=>k g5 x (fun c u c1 c2 c3 c4 e=>k5.extBut _ _ c1 (k4 _ _ c4 (k3.extBut _ _ c2 (k2.extBut _ _ c3 (k1.extBut _ _ c1 e))))) ⟨oe,k5.extBut _ _ xz h3,h4⟩
  . intro g1 z1 k1 sz1
    simp only [Bool.false_eq_true,if_false]
    refine wpAny_bind ?_
    have ia1:g1.IsTuple a xs:=let ⟨ob,e,r⟩:=ha;⟨ob,k1 _ _ D.az e,r⟩
    have ib1:g1.IsTuple b ys:=let ⟨ob,e,r⟩:=hb;⟨ob,k1 _ _ D.bz e,r⟩
    simp only [List.forIn_toArray,List.forIn_cons,List.forIn_nil]
    refine wpAny_bind (wpAny_bind (wpAny_holding ?_))
    show wpAny _ _ (Builtin.SmallTypes.nextOf (.ref i) >>= _) _ _ _
    cases hx:xs[n]? with
    | none =>
      exact wpAny_bind (yv (s:={ s with heap:=g1 }) hh (ii.extBut k1 D.iz) ia1 hx fun g2 x k2 h2=>k g2 x (fun c u c1 _ c3 _ e=>k2 _ _ c3 (k1 _ _ c1 e)) h2)
    | some x0 =>
      have hy:ys[n]?=none:=by rcases he with h | h;rw [hx] at h;cases h;exact h
      refine wpAny_bind (Yc (s:={ s with heap:=g1 }) (ii.extBut k1 D.iz) ia1 hx fun g2 i2 k2=>wpAny_pure (wpAny_pure ?_))
      refine wpAny_bind (wpAny_bind (wpAny_holding ?_))
      show wpAny _ _ (Builtin.SmallTypes.nextOf (.ref j) >>= _) _ _ _
      exact wpAny_bind (yv (s:={ s with heap:=g2 }) hh ((jj.extBut k1 D.jz).extBut k2.extBut D.ij.symm) (ht k2 D.bi ib1) hy fun g3 x k3 h2=>k g3 x (fun c u c1 _ c3 c4 e=>k3 _ _ c4 (k2.extBut _ _ c3 (k1 _ _ c1 e))) h2)
end
theorem ZU.at {h h':Heap} {z p o i j a b:Addr} {n:Nat} (S:ZU h z p o i j a b n) (k:∀ c∈[z,p,o,i,j],∀ u,h.get? c=some u->h'.get? c=some u):ZU h' z p o i j a b n:=by
 obtain ⟨⟨f,fl,zz,hf⟩,pp,⟨u1,u2,oo⟩,ii,jj⟩:=S
 exact ⟨⟨f,fl,k z (by simp) _ zz,hf⟩,k p (by simp) _ pp,⟨u1,u2,k o (by simp) _ oo⟩,ii.at fun u e=>k i (by simp) u e,jj.at fun u e=>k j (by simp) u e⟩
inductive QbB:Expr->Prop
 | nm (x:Str) (p:Pos):QbB (.Name x p)
 | tp (l:List Expr) (k:Nat) (p:Pos):QbB (.Tuple l k p)
theorem Qhv {prog:Program} {w:World} {A:Around} {E:Value->Shared->Prop} {s:Shared} {tg:Expr} (ht:QbB tg) {z p o i j a b T:Addr} {n:Nat} {Q:Unit->Shared->Prop} (D:ZA z p o i j a b) (S:ZU s.heap z p o i j a b n) (hQ:∀ h',ZU h' z p o i j a b n->Heap.ExtBut z s.heap h'->Q () { s with heap:=h' }):wpAny (model prog w) A (letOwnedTupleGo tg (.ref z) (.ref T)) Q E s:=by
  cases ht with
  | nm x p'=>exact wpAny_pure (hQ s.heap S fun _ _ _ e=>e)
  | tp l k p' =>
    obtain ⟨f,fl,zz,hf⟩:=S.zz
    unfold letOwnedTupleGo
    refine wpAny_bind (wpAny_load zz ?_)
    dsimp only
    split
    . refine wpAny_bind (wpAny_rule ?_)
      show wpAny _ _ (setField (.ref z) 0 .none) Q E s
      obtain ⟨_,pp,⟨u1,u2,oo⟩,ii,jj⟩:=S
      exact wpAny_setField_rec zz (by simp) fun h' z' k'=>hQ h' ⟨⟨.none,fl,z',.inl rfl⟩,k'.extBut _ _ D.pz pp,⟨u1,u2,k'.extBut _ _ D.oz oo⟩,ii.extBut k'.extBut D.iz,jj.extBut k'.extBut D.jz⟩ k'.extBut
    . exact wpAny_pure (hQ s.heap S fun _ _ _ e=>e)
theorem KD {P:Program} {w:World} {K:PySem.W.Frag} {tg:Expr} (ht:QbB tg) {z p o i j a b:Addr} (D:ZA z p o i j a b):QaD P w K tg (Itz K a b) [z,p,o,i,j] z (fun n h=>ZU h z p o i j a b n) where
 mem:=by simp
 obj:=fun n h S c hc=>by
  obtain ⟨⟨f,fl,zz,hf⟩,pp,⟨u1,u2,oo⟩,⟨oi,ei,ci,di⟩,⟨oj,ej,cj,dj⟩⟩:=S
  simp only [List.mem_cons,List.not_mem_nil,or_false] at hc
  rcases hc with rfl | rfl | rfl | rfl | rfl
  ·exact ⟨_,zz,fun v q=>by have q':Data.fields _=Data.cell v:=q;cases q'⟩
  ·exact ⟨_,pp,fun v q=>by have q':Data.seq _ _=Data.cell v:=q;cases q'⟩
  ·exact ⟨_,oo,fun v q=>by have q':Data.seq _ _=Data.cell v:=q;cases q'⟩
  ·exact ⟨oi,ei,fun v q=>by rw [di] at q;cases q⟩
  ·exact ⟨oj,ej,fun v q=>by rw [dj] at q;cases q⟩
 keep:=fun n h h' S k=>S.at k
 item:=by
  intro X hP hw hK hc n pins s σ H E I hf S hg
  subst hP hw hK
  obtain ⟨xs,ys,x,y,qa,qb,hx,hy⟩:=hg
  obtain ⟨ia,ra,pa,_⟩:=I.tuple qa
  obtain ⟨ib,rb,pb,_⟩:=I.tuple qb
  obtain ⟨u,hu,ru⟩:=ra.get hx
  obtain ⟨v,hv,rv⟩:=rb.get hy
  obtain ⟨f0,fl0,zz0,hf0⟩:=S.zz
  have hT:s.TypeIs (.ref z) "zip" := ⟨_,zz0,rfl⟩
  unfold pyNext
  refine wpAny_bind (wpAny_attempt (wpAny_callSpecial?_slot (name:=Str.ofString "__next__") hT F.slot_zip_next (wpAny_call_entry F.slot_zip_next hT F.entry_zip_next
   (QaA D S (show s.heap.IsTuple a ia.toArray from pa) (show s.heap.IsTuple b ib.toArray from pb) (by simpa using hu) (by simpa using hv) fun g' S' tp sz kp=>wpAny_pure ?_) (F.args_zip_next_1 _))))
  refine ⟨_,rfl,Qhv (s:={ s with heap:=g' }) ht D S' fun g2 S' kx=>?_⟩
  replace tp:=kx _ _ (Nat.ne_of_gt (Heap.lt_size zz0)) tp
  have kp':∀ c q,c∉[z,p,o,i,j]->s.heap.get? c=some q->g2.get? c=some q:=fun c q hc e=>by
   simp only [List.mem_cons,List.not_mem_nil,or_false,not_or] at hc
   refine kx _ _ hc.1 (kp c q hc.1 hc.2.2.1 hc.2.2.2.1 hc.2.2.2.2 e)
  have ne:∀ c∈[z,p,o,i,j],c≠s.heap.objs.size:=fun c hc e=>by
   obtain ⟨_,pp,⟨u1,u2,oo⟩,⟨oi,ei,_⟩,⟨oj,ej,_⟩⟩:=S
   simp only [List.mem_cons,List.not_mem_nil,or_false] at hc
   rcases hc with rfl | rfl | rfl | rfl | rfl
   ·exact Nat.ne_of_lt (Heap.lt_size zz0) e
   ·exact Nat.ne_of_lt (Heap.lt_size pp) e
   ·exact Nat.ne_of_lt (Heap.lt_size oo) e
   ·exact Nat.ne_of_lt (Heap.lt_size ei) e
   ·exact Nat.ne_of_lt (Heap.lt_size ej) e
  refine ⟨.ref s.heap.objs.size,upd H s.heap.objs.size (.tup [x,y]),I.turnNew (t':=s.toks) hf kp' (us:=[u,v]) (.cons ru (.cons rv .nil)) (show 2<=sizeLine by decide) ⟨_,tp,rfl,_,rfl⟩,rfl,
   ⟨_,x,y,I.hok.fresh (Nat.le_refl _),fun xs' h=>by rw [I.tuple_inj h qa];exact hx,fun ys' h=>by rw [I.tuple_inj h qb];exact hy,rfl,rfl⟩,S',fun c hc=>?_⟩
  rw [QX (ne c hc)];exact (hf c hc).1
 done:=by
  intro X hP hw hK hc n pins s σ H E I hf S hg
  subst hP hw hK
  obtain ⟨xs,ys,qa,qb,hs⟩:=hg
  obtain ⟨ia,ra,pa,_⟩:=I.tuple qa
  obtain ⟨ib,rb,pb,_⟩:=I.tuple qb
  have l1:=ra.length
  have l2:=rb.length
  obtain ⟨f0,fl0,zz0,hf0⟩:=S.zz
  have hT:s.TypeIs (.ref z) "zip" := ⟨_,zz0,rfl⟩
  unfold pyNext
  refine wpAny_bind (wpAny_attempt (wpAny_callSpecial?_slot (name:=Str.ofString "__next__") hT F.slot_zip_next (wpAny_call_entry F.slot_zip_next hT F.entry_zip_next
   (QaB (I.ok.hd hc) D S (show s.heap.IsTuple a ia.toArray from pa) (show s.heap.IsTuple b ib.toArray from pb) (by rcases hs with q | q;exact .inl (by simp;omega);exact .inr (by simp;omega)) fun g x kp hx=>?_) (F.args_zip_next_1 _))))
  obtain ⟨ox,h1,h2⟩:=hx
  refine wpAny_bind (wpAny_isInstance (T := "StopIteration") (b:=true) ⟨ox,h1,h2⟩ isSubtype_stop ?_)
  refine wpAny_pure ⟨rfl,I.turnL (t':=s.toks) hf fun c q hc e=>?_⟩
  simp only [List.mem_cons,List.not_mem_nil,or_false,not_or] at hc
  exact kp c q hc.1 hc.2.2.1 hc.2.2.2.1 hc.2.2.2.2 e
 self:=fun _ _ _ _ _ S h=>by
  obtain ⟨f0,fl0,zz0,hf0⟩:=S.zz
  have hT:Shared.TypeIs _ (Value.ref z) "zip" := ⟨_,zz0,rfl⟩
  refine wpAny_pyIter_slot hT F.slot_zip_iter (wpAny_call_entry F.slot_zip_iter hT F.entry_zip_iter ?_ (F.args_zip_iter_1 _))
  exact wpAny_pure ⟨_,rfl, "zip", _,hT,(F.slot_zip_next).1,h⟩
section
variable {X:Cx} {xn:Str} {p2:Pos} {pins:List (Addr×Obj)} {σ:L2.St}
theorem QdB {H:Hp} {s:Shared} {E:Value->Shared->Prop} {Q:Value->Shared->Prop} {a b:Addr} {xs ys:List V} (I:Inv X pins σ H s) (qa:SqT X.K H a xs) (qb:SqT X.K H b ys)
  (k:∀ (s':Shared) (z p o i j:Addr),Inv X pins σ H s'->ZA z p o i j a b->ZU s'.heap z p o i j a b 0->(∀ c∈[z,p,o,i,j],yW X pins H c)->Q (.ref z) s'):wpAny (model X.prog X.w) X.A (call (.type "zip") [.ref a,.ref b]) Q E s:=by
 obtain ⟨ia,ra,pa,_⟩:=I.tuple qa
 obtain ⟨ib,rb,pb,_⟩:=I.tuple qb
 refine callType_new F.called_zip (by decide) (F.typeCall_zip_2 _ _) (F.newCall_zip_2 _ _) (fun obj=>F.args_object_init_3 obj _ _) F.entry_zip_new (Qaz a b ia.toArray ib.toArray) ⟨show s.heap.IsTuple a ia.toArray from pa,show s.heap.IsTuple b ib.toArray from pb,?_⟩
 have z1:(zt1 s.heap a).objs.size=s.heap.objs.size+1:=Heap.size_push ..
 have z2:(zt2 s.heap a b).objs.size=s.heap.objs.size+2:=by rw [Heap.size_push,z1]
 have z3:(zt3 s.heap a b).objs.size=s.heap.objs.size+3:=by rw [Heap.size_push,z2]
 have z4:(zt4 s.heap a b).objs.size=s.heap.objs.size+4:=by rw [Heap.size_push,z3]
 have g5:(zt5 s.heap a b).get? (zt4 s.heap a b).objs.size=some _:=Heap.get?_push_size _ rfl
 have g4:(zt5 s.heap a b).get? (zt3 s.heap a b).objs.size=some _:=Heap.get?_push_of_some _ (Heap.get?_push_size _ rfl)
 have g3:(zt5 s.heap a b).get? (zt2 s.heap a b).objs.size=some _:=Heap.get?_push_of_some _ (Heap.get?_push_of_some _ (Heap.get?_push_size _ rfl))
 have g2:(zt5 s.heap a b).get? (zt1 s.heap a).objs.size=some _:=Heap.get?_push_of_some _ (Heap.get?_push_of_some _ (Heap.get?_push_of_some _ (Heap.get?_push_size _ rfl)))
 have g1:(zt5 s.heap a b).get? s.heap.objs.size=some _:=Heap.get?_push_of_some _ (Heap.get?_push_of_some _ (Heap.get?_push_of_some _ (Heap.get?_push_of_some _ (Heap.get?_push_size _ rfl))))
 show _/\_
 have kp:∀ c o,s.heap.get? c=some o->(zt5 s.heap a b).get? c=some o:=fun c o e=>Heap.get?_push_of_some _ (Heap.get?_push_of_some _ (Heap.get?_push_of_some _ (Heap.get?_push_of_some _ (Heap.get?_push_of_some _ e))))
 refine ⟨⟨_,g5,rfl⟩,?_⟩
 rw [z2,z3,z4] at g5
 rw [z1,z2] at g3
 rw [z3] at g4
 rw [z1] at g2
 rw [z4]
 have la:a < s.heap.objs.size:=by obtain ⟨o,e,_⟩:=pa;exact Heap.lt_size e
 have lb:b < s.heap.objs.size:=by obtain ⟨o,e,_⟩:=pb;exact Heap.lt_size e
 have D:ZA (s.heap.objs.size+4) (s.heap.objs.size+2) (s.heap.objs.size+3) s.heap.objs.size (s.heap.objs.size+1) a b:=by constructor<;>first | exact Nat.ne_of_lt la | exact Nat.ne_of_lt lb | exact Nat.ne_of_lt (Nat.lt_of_lt_of_le la (Nat.le_add_right _ _)) | exact Nat.ne_of_lt (Nat.lt_of_lt_of_le lb (Nat.le_add_right _ _)) | exact Nat.ne_of_lt (by omega) | exact Nat.ne_of_gt (by omega)
 have I1:Inv X pins σ H { s with heap:=zt5 s.heap a b }:=I.kept (t':=s.toks) kp
 have S:ZU (zt5 s.heap a b) (s.heap.objs.size+4) (s.heap.objs.size+2) (s.heap.objs.size+3) s.heap.objs.size (s.heap.objs.size+1) a b 0:=⟨⟨_,_,g5,.inl rfl⟩,g3,⟨_,_,g4⟩,⟨_,g1,rfl,rfl⟩,⟨_,g2,rfl,rfl⟩⟩
 refine k { s with heap:=zt5 s.heap a b } _ _ _ _ _ I1 D S fun c hc=>?_
 have hc':s.heap.objs.size<=c:=by
  simp only [List.mem_cons,List.not_mem_nil,or_false] at hc
  rcases hc with rfl | rfl | rfl | rfl | rfl<;>first | exact Nat.le_refl _ | exact Nat.le_add_right _ _
 exact I.fpOk hc' (I.hok.fresh hc')
theorem QeY {tg:Expr} (ht:QbB tg) {H:Hp} {s:Shared} {R:It->Hp->Prop} {E:Value->Shared->Prop} {a b:Addr} {xs ys:List V} (I:Inv X pins σ H s) (qa:SqT X.K H a xs) (qb:SqT X.K H b ys) (q:R (Itz X.K a b) H) :
  wpAny (model X.prog X.w) X.A (call (.type "zip") [.ref a,.ref b]) (fun v s1=>wpAny (model X.prog X.w) X.A (pyIter v) (PIE X pins σ tg R) E s1) E s :=
 QdB I qa qb fun s' z p o i j I1 D S hf=>(KD (K:=X.K) ht D).self _ _ _ _ _ S ⟨_,[z,p,o,i,j],_,Itz X.K a b,H,rfl,I1,KD ht D,S,hf,q⟩
theorem Qeo {x y:Expr} {ta:TA} {p pos:Pos} (hg:Gl X "zip") (hm:X.mg "zip" = none) (ha:PA X [x,y] ta) (hs:starEach [x,y] X.env=[(false,eval x X.env),(false,eval y X.env)]:=by rfl) (hs2:starEach [y] X.env=[(false,eval y X.env)]:=by rfl) :
    PI X (.Name xn p2) (.Call (.Name "zip" p) [x,y] [] pos) (Qe6 X.K ta):=by
  intro pins s σ H R I h
  refine Call_ (YQ I hg hm boot_zip (PyProof.Rows.callWith_type1 (thn (ha pos pins s σ H _ I h) fun us s1 ⟨vs,H1,I1,r1,q1⟩=>?_) (by rw [hs,hs2]) (by rw [hs2];rfl)))
  obtain ⟨a,b,xs,ys,e,qa,qb,q⟩:=q1
  subst e
  cases r1 with
  | cons r rr =>
    cases rr with
    | cons r' rr =>
      cases rr
      cases r
      cases r'
      exact QeY (.nm ..) I1 qa qb q
end
end L2
namespace D
open PySem PySem.Spec PyProof.Rows L2
section
variable {X:Cx} {xn:Str} {p2:Pos} {f g:DEx}
theorem K1 {x y:Expr} {p pos:Pos} (hg:Gl X "zip") (hm:X.mg "zip" = none) (hx:DE X x f) (hy:DE X y g) (hs:starEach [x,y] X.env=[(false,eval x X.env),(false,eval y X.env)]:=by rfl) (hs2:starEach [y] X.env=[(false,eval y X.env)]:=by rfl) :
  DI X (.Name xn p2) (.Call (.Name "zip" p) [x,y] [] pos) (yd f g) :=
 L2.PI.imp (Qeo hg hm (X9 hx (X9 hy pa_nil (by rw [hs2];rfl)) (by rw [hs,hs2])) hs hs2) fun σ H R ⟨Z,env,ρ,B,hp,ds,hp',S,e,k⟩=>by
  obtain ⟨d1,hp1,e1,e⟩:=Qj e
  obtain ⟨xs,hp2,e2,e⟩:=Qj e
  obtain ⟨rfl,rfl⟩:=Xe e2
  obtain ⟨d2,hp3,e3,e⟩:=Qj e
  obtain ⟨ys,hp4,e4,e⟩:=Qj e
  obtain ⟨rfl,rfl⟩:=Xe e4
  obtain ⟨rfl,rfl⟩:=Qo e
  refine tD.run S e1 fun v ρ1 B1 H1 g1 S1 r1=>tD.run S1 e3 fun u ρ2 B2 H2 g2 S2 r2=>?_
  obtain ⟨a,vs,rfl,na,qa,la⟩:=(RepV.grow S1.wo.rb g2 _ _ r1).tupI
  obtain ⟨b,us,rfl,nb,qb,lb⟩:=r2.tupI
  exact ⟨a,b,vs,us,rfl,qa,qb,k _ ρ2 B2 H2 (g1.trans g2) S2.wo (Qb8 na qa la nb qb lb)⟩
end
end D
namespace TR
structure Pg where
 lv:Nat
 ks:List Int
 ps:List Int
 hi:Option Int
 sd:Option Nat
structure Sh where
 room:Nat
 pg:List Pg
 top:Nat
 rd:Int
 wr:Int
inductive Deed where
 | find (k:Int) | put (k w:Int) | cut (k:Int) | stretch (l h:Int)
def Deed.key:Deed->Int
 | .find k=>k
 | .put k _=>k
 | .cut k=>k
 | .stretch l _=>l
structure Wk where
 deed:Deed
 aim:Int
 goal:Nat
 place:Option Nat
 forks:List (Nat×Nat)
 newp:Option Nat
 worth:Option Int
 pairs:List (Int×Int)
 ended:Bool
inductive Row where
 | non
 | side (n t:Nat)
 | down (n t:Nat)
 | found (n:Nat) (w:Option Int)
 | put (n:Nat) (w:Option Int) (k:Option Nat)
 | cut (n:Nat) (w:Option Int)
 | read (n:Nat) (ps:List (Int×Int)) (t:Option (Nat×Int))
 | told (n:Nat) (k:Option Nat)
 | raised (n t:Nat)
def cLe (ks:List Int) (k:Int):Nat:=(ks.filter fun x=>decide (x<=k)).length
def cLt (ks:List Int) (k:Int):Nat:=(ks.filter fun x=>decide (x < k)).length
def Xx (fs:List (Nat×Nat)) (k:Nat):Option Nat:=(fs.find? fun p=>decide (p.1=k)).map (·.2)
def je (fs:List (Nat×Nat)) (k v:Nat):List (Nat×Nat):=if (fs.any fun p=>decide (p.1=k))=true then fs.map (fun p=>if p.1=k then (p.1,v) else p) else fs++[(k,v)]
def JM (p:Pg) (k:Int):Bool:=match p.hi with
 | none=>false
 | some h=>decide (h<=k)
def QV (p:Pg) (k:Int):Option Int:=if cLt p.ks k=cLe p.ks k then none else p.ps[cLt p.ks k]?
def QY (p:Pg) (k w:Int):Pg:={ p with ks:=p.ks.take (cLt p.ks k)++k::p.ks.drop (cLe p.ks k),ps:=p.ps.take (cLt p.ks k)++w::p.ps.drop (cLe p.ks k) }
def without (p:Pg) (k:Int):Pg:={ p with ks:=p.ks.take (cLt p.ks k)++p.ks.drop (cLe p.ks k),ps:=p.ps.take (cLt p.ks k)++p.ps.drop (cLe p.ks k) }
def ZG (p:Pg) (k:Int) (c:Nat):Pg:={ p with ks:=p.ks.take (cLe p.ks k)++k::p.ks.drop (cLe p.ks k),ps:=p.ps.take (cLe p.ks k+1)++(c:Int)::p.ps.drop (cLe p.ks k+1) }
def mid (p:Pg):Nat:=p.ks.length / 2
def Zw (p:Pg):Nat:=if p.lv=0 then mid p else mid p+1
def J6 (p:Pg):Int:=p.ks.getD (mid p) 0
def Zq (p:Pg) (n:Nat):Pg:=⟨p.lv,p.ks.take (mid p),p.ps.take (Zw p),some (J6 p),some n⟩
def Q6 (p:Pg):Pg:=⟨p.lv,p.ks.drop (Zw p),p.ps.drop (Zw p),p.hi,p.sd⟩
def Q8 (S:Sh) (w:Wk) (n:Nat) (p:Pg):Option Nat×Sh×Wk :=
 if p.ks.length<=S.room then (none,{ S with pg:=S.pg.set n p,wr:=S.wr+1 },{ w with ended:=true })
 else (some S.pg.length,{ S with pg:=(S.pg++[Q6 p]).set n (Zq p S.pg.length),wr:=S.wr+1+1 },{ w with newp:=some S.pg.length,aim:=J6 p,goal:=p.lv+1,place:=Xx w.forks (p.lv+1) })
def QZ (p:Pg) (l h:Int):List (Int×Int):=(p.ks.zip p.ps).filter fun q=>decide (l<=q.1)&&decide (q.1 < h)
def Jz (S:Sh) (w:Wk) (n:Nat) (p:Pg):Row×Sh×Wk:=match w.deed with
  | .find _=>(.found n (QV p w.aim),S,{ w with worth:=QV p w.aim,ended:=true })
  | .put _ x=>match Q8 S { w with worth:=QV p w.aim } n (QY p w.aim x) with
    | (r,S2,w2)=>(.put n (QV p w.aim) r,S2,w2)
  | .cut _=>(.cut n (QV p w.aim),if (QV p w.aim).isSome=true then { S with pg:=S.pg.set n (without p w.aim),wr:=S.wr+1 } else S,{ w with worth:=QV p w.aim,ended:=true })
  | .stretch l h=>match p.hi,p.sd with
    | some x,some s=>if h<=x then (.read n (QZ p l h) none,S,{ w with pairs:=w.pairs++QZ p l h,ended:=true })
        else (.read n (QZ p l h) (some (s,x)),S,{ w with pairs:=w.pairs++QZ p l h,aim:=x,place:=some s })
    | _,_=>(.read n (QZ p l h) none,S,{ w with pairs:=w.pairs++QZ p l h,ended:=true })
def qZ (S:Sh) (w:Wk):Option (Row×Sh×Wk) :=
  if w.ended=true then some (.non,S,w) else
  match S.pg[w.place.getD S.top]? with
  | none=>none
  | some p =>
    if w.place=none/\p.lv < w.goal then
      match w.newp with
      | none=>none
      | some k=>some (.raised S.top S.pg.length,{ S with rd:=S.rd+1,pg:=S.pg++[⟨p.lv+1,[w.aim],[(S.top:Int),(k:Int)],none,none⟩],top:=S.pg.length,wr:=S.wr+1 },{ w with ended:=true })
    else if JM p w.aim=true then
      match p.sd with
      | none=>none
      | some s=>some (.side (w.place.getD S.top) s,{ S with rd:=S.rd+1 },{ w with place:=some s })
    else if w.goal < p.lv then
      match p.ps[cLe p.ks w.aim]? with
      | none=>none
      | some c=>some (.down (w.place.getD S.top) c.toNat,{ S with rd:=S.rd+1 },{ w with forks:=je w.forks p.lv (w.place.getD S.top),place:=some c.toNat })
    else if 0 < w.goal then
      match w.newp with
      | none=>none
      | some k=>match Q8 { S with rd:=S.rd+1 } w (w.place.getD S.top) (ZG p w.aim k) with
        | (r,S2,w2)=>some (.told (w.place.getD S.top) r,S2,w2)
    else some (Jz { S with rd:=S.rd+1 } w (w.place.getD S.top) p)
theorem YH {ks:List Int} (h:ks.Pairwise (· < ·)) (k:Int):ks.take (cLe ks k)=ks.filter (fun x=>decide (x<=k))/\ks.drop (cLe ks k)=ks.filter (fun x=>decide (k < x)):=by
  unfold cLe
  induction ks with
  | nil=>simp
  | cons x xs ih =>
    obtain ⟨h1,h2⟩:=List.pairwise_cons.mp h
    by_cases q:x<=k
    . obtain ⟨i1,i2⟩:=ih h2
      have q':¬ k < x:=by omega
      simp [List.filter_cons,q,q',i1,i2]
    . have e:xs.filter (fun y=>decide (y<=k))=[]:=by
        rw [List.filter_eq_nil_iff]
        intro y hy;have:=h1 y hy;simp;omega
      have e2:xs.filter (fun y=>decide (k < y))=xs:=by
        rw [List.filter_eq_self]
        intro y hy;have:=h1 y hy;simp;omega
      have q':k < x:=by omega
      simp [List.filter_cons,q,q',e,e2]
theorem qR {ks:List Int} (h:ks.Pairwise (· < ·)) (k:Int):ks.take (cLt ks k)=ks.filter (fun x=>decide (x < k))/\ks.drop (cLt ks k)=ks.filter (fun x=>decide (k<=x)):=by
  unfold cLt
  induction ks with
  | nil=>simp
  | cons x xs ih =>
    obtain ⟨h1,h2⟩:=List.pairwise_cons.mp h
    by_cases q:x < k
    . obtain ⟨i1,i2⟩:=ih h2
      have q':¬ k<=x:=by omega
      simp [List.filter_cons,q,q',i1,i2]
    . have e:xs.filter (fun y=>decide (y < k))=[]:=by
        rw [List.filter_eq_nil_iff]
        intro y hy;have:=h1 y hy;simp;omega
      have e2:xs.filter (fun y=>decide (k<=y))=xs:=by
        rw [List.filter_eq_self]
        intro y hy;have:=h1 y hy;simp;omega
      have q':k<=x:=by omega
      simp [List.filter_cons,q,q',e,e2]
theorem XA (ks:List Int) (k:Int):cLe ks k<=ks.length:=List.length_filter_le _ _
theorem xX (ks:List Int) (k:Int):cLt ks k<=ks.length:=List.length_filter_le _ _
theorem j1 (ks:List Int) (k:Int):cLt ks k<=cLe ks k:=by
  unfold cLt cLe
  induction ks with
  | nil=>simp
  | cons x xs ih =>
    by_cases q:x < k
    . have:x<=k:=by omega
      simp [List.filter_cons,q,this,ih]
    . by_cases q2:x<=k
      . simp [List.filter_cons,q,q2];omega
      . simp [List.filter_cons,q,q2,ih]
theorem QbK {ks:List Int} (h:ks.Pairwise (· < ·)) (k:Int):cLe ks k<=cLt ks k+1:=by
  unfold cLt cLe
  induction ks with
  | nil=>simp
  | cons x xs ih =>
    obtain ⟨h1,h2⟩:=List.pairwise_cons.mp h
    by_cases q:x < k
    . have:x<=k:=by omega
      have:=ih h2
      simp [List.filter_cons,q, *]
    . have e:xs.filter (fun y=>decide (y<=k))=[]:=by
        rw [List.filter_eq_nil_iff]
        intro y hy;have:=h1 y hy;simp;omega
      by_cases q2:x<=k<;>simp [List.filter_cons,q,q2,e]
theorem qF {ks:List Int} (h:ks.Pairwise (· < ·)) (k:Int):(ks.take (cLt ks k)++k::ks.drop (cLe ks k)).Pairwise (· < ·):=by
 rw [(qR h k).1,(YH h k).2]
 rw [List.pairwise_append]
 refine ⟨h.filter _,List.pairwise_cons.mpr ⟨fun y hy=>?_,h.filter _⟩,fun x hx y hy=>?_⟩
 ·simpa using (List.mem_filter.mp hy).2
 ·have h1:x < k:=by simpa using (List.mem_filter.mp hx).2
  rcases List.mem_cons.mp hy with rfl | hy
  ·exact h1
  ·have h2:k < y:=by simpa using (List.mem_filter.mp hy).2
   omega
theorem xo {ks:List Int} (h:ks.Pairwise (· < ·)) {k x:Int} (hx:x∈ks.take (cLt ks k)++k::ks.drop (cLe ks k)):x=k∨x∈ks:=by
 rcases List.mem_append.mp hx with hx | hx
 ·exact .inr (List.mem_of_mem_take hx)
 ·rcases List.mem_cons.mp hx with rfl | hx
  ·exact .inl rfl
  ·exact .inr (List.mem_of_mem_drop hx)
theorem VD {ks:List Int} (h:ks.Pairwise (· < ·)) (k:Int):(ks.take (cLt ks k)++ks.drop (cLe ks k)).Pairwise (· < ·):=by
 rw [(qR h k).1,(YH h k).2]
 rw [List.pairwise_append]
 refine ⟨h.filter _,h.filter _,fun x hx y hy=>?_⟩
 have h1:x < k:=by simpa using (List.mem_filter.mp hx).2
 have h2:k < y:=by simpa using (List.mem_filter.mp hy).2
 omega
theorem kr {ks:List Int} {k x:Int} (hx:x∈ks.take (cLt ks k)++ks.drop (cLe ks k)):x∈ks:=by
 rcases List.mem_append.mp hx with hx | hx
 ·exact List.mem_of_mem_take hx
 ·exact List.mem_of_mem_drop hx
theorem QbL {ks:List Int} (h:k∉ks):cLt ks k=cLe ks k:=by
 unfold cLt cLe
 congr 1
 apply List.filter_congr
 intro x hx
 have:x≠k:=fun e=>h (e▸hx)
 by_cases q:x < k
 ·have:x<=k:=by omega
  simp [q,this]
 ·have:¬ x<=k:=by omega
  simp [q,this]
theorem VL (fs:List (Nat×Nat)) (k v j:Nat):Xx (je fs k v) j=if j=k then some v else Xx fs j:=by
  unfold je Xx
  by_cases h:(fs.any fun p=>decide (p.1=k))=true
  . rw [if_pos h]
    induction fs with
    | nil=>simp at h
    | cons p fs ih =>
      simp only [List.map_cons,List.find?_cons]
      by_cases q:p.1=k
      . by_cases e:j=k
        . subst e;simp [q]
        . have:¬ k=j:=fun z=>e z.symm
          simp only [q,if_true,this,decide_false]
          by_cases h2:(fs.any fun p=>decide (p.1=k))=true
          . have:=ih h2;simpa [e] using this
          . have hid:fs.map (fun p=>if p.1=k then (p.1,v) else p)=fs:=by
              conv=>rhs;rw [<- List.map_id fs]
              apply List.map_congr_left
              intro x hx
              have:¬ x.1=k:=fun z=>h2 (by rw [List.any_eq_true];exact ⟨x,hx,by simpa using z⟩)
              simp [this]
            rw [hid,if_neg e]
      . have h2:(fs.any fun p=>decide (p.1=k))=true:=by simpa [List.any_cons,q] using h
        have:=ih h2
        simp only [q,if_false]
        by_cases e:p.1=j
        . have:¬ j=k:=fun z=>q (e.trans z)
          simp [e,this]
        . simpa [e] using this
  . rw [if_neg h,List.find?_append]
    have hn:∀ p∈fs,¬ p.1=k:=fun p hp z=>h (by rw [List.any_eq_true];exact ⟨p,hp,by simpa using z⟩)
    by_cases e:j=k
    . subst e
      have:fs.find? (fun p=>decide (p.1=j))=none:=by
        rw [List.find?_eq_none];intro p hp;simpa using hn p hp
      simp [this]
    . have:¬ k=j:=fun z=>e z.symm
      simp [this,e]
end TR
namespace TR
abbrev Bg:=Nat->Option Int
def leB (b:Option Int) (x:Int):Prop:=∀ v,b=some v->v<=x
def ltB (b:Option Int) (x:Int):Prop:=∀ v,b=some v->v < x
def ltH (x:Int) (h:Option Int):Prop:=∀ v,h=some v->x < v
def leBB (b c:Option Int):Prop:=∀ v,b=some v->∃ u,c=some u/\v<=u
theorem leBB.refl (b:Option Int):leBB b b:=fun v h=>⟨v,h,Int.le_refl _⟩
theorem leBB.trans {a b c:Option Int} (h:leBB a b) (g:leBB b c):leBB a c:=fun v e=>by
 obtain ⟨u,e1,l1⟩:=h v e
 obtain ⟨x,e2,l2⟩:=g u e1
 exact ⟨x,e2,by omega⟩
def J8 (b:Option Int) (ks:List Int):Nat->Option Int
 | 0=>b
 | j+1=>ks[j]?
structure JS (room:Nat) (b:Option Int) (p:Pg):Prop where
 sorted:p.ks.Pairwise (· < ·)
 few:p.ks.length<=room
 parts:p.ps.length=p.ks.length+(if p.lv=0 then 0 else 1)
 low:∀ k∈p.ks,leB b k
 lowF:0 < p.lv->∀ k∈p.ks,ltB b k
 high:∀ k∈p.ks,ltH k p.hi
 wide:∀ h,p.hi=some h->ltB b h
structure Tree (S:Sh) (bg:Bg):Prop where
 room2:2<=S.room
 root:∃ r:Pg,S.pg[S.top]?=some r/\∀ (n:Nat) (p:Pg),S.pg[n]?=some p->p.lv<=r.lv
 rbg:bg S.top=none
 page:∀ (n:Nat) (p:Pg),S.pg[n]?=some p->JS S.room (bg n) p
 link:∀ (n:Nat) (p:Pg),S.pg[n]?=some p->(p.hi=none/\p.sd=none)∨∃ (h:Int) (s:Nat) (q:Pg),p.hi=some h/\p.sd=some s/\S.pg[s]?=some q/\q.lv=p.lv/\bg s=some h
 kid:∀ (n:Nat) (p:Pg),S.pg[n]?=some p->0 < p.lv->∀ j k,p.ps[j]?=some k->∃ (c:Nat) (q:Pg),k=(c:Int)/\S.pg[c]?=some q/\q.lv+1=p.lv/\bg c=J8 (bg n) p.ks j
 dis:∀ (n m:Nat) (p q:Pg),S.pg[n]?=some p->S.pg[m]?=some q->p.lv=q.lv->n≠m->(∃ h v,p.hi=some h/\bg m=some v/\h<=v)∨(∃ h v,q.hi=some h/\bg n=some v/\h<=v)
 pred:∀ (n:Nat) (p:Pg),S.pg[n]?=some p->∀ v,bg n=some v->∃ (m:Nat) (q:Pg),S.pg[m]?=some q/\q.lv=p.lv/\q.hi=some v
theorem Tree.uniq {S:Sh} {bg:Bg} (T:Tree S bg) {n m:Nat} {p q:Pg} (hn:S.pg[n]?=some p) (hm:S.pg[m]?=some q) (hl:p.lv=q.lv) (hb:bg n=bg m):n=m:=by
 rcases Nat.decEq n m with h | h
 ·exfalso
  rcases T.dis n m p q hn hm hl h with ⟨x,v,h1,h2,h3⟩ | ⟨x,v,h1,h2,h3⟩
  ·have:=(T.page n p hn).wide x h1 v (hb.trans h2);omega
  ·have:=(T.page m q hm).wide x h1 v (hb.symm.trans h2);omega
 ·exact h
structure Qbx (S:Sh) (bg:Bg) (S':Sh) (bg':Bg):Prop where
 old:∀ (n:Nat) (p:Pg),S.pg[n]?=some p->bg' n=bg n/\∃ p':Pg,S'.pg[n]?=some p'/\p'.lv=p.lv
def Untold (S:Sh) (k:Nat):Prop:=∀ (n:Nat) (p:Pg),S.pg[n]?=some p->0 < p.lv->(k:Int)∉p.ps
structure WOk (S:Sh) (bg:Bg) (w:Wk):Prop where
 at_:∀ n:Nat,w.place=some n->∃ p:Pg,S.pg[n]?=some p/\w.goal<=p.lv/\leB (bg n) w.aim
 none_:w.place=none->∀ l f,Xx w.forks l=some f->l < w.goal
 kept:∀ l f,Xx w.forks l=some f->∃ p:Pg,S.pg[f]?=some p/\p.lv=l
 above:∀ (n:Nat) (p:Pg),w.place=some n->S.pg[n]?=some p->∀ l f,Xx w.forks l=some f->p.lv < l->leBB (bg f) (bg n)
 chain:∀ l f l' f',Xx w.forks l=some f->Xx w.forks l'=some f'->w.goal<=l->l < l'->leBB (bg f') (bg f)
 gap:∀ (n:Nat) (p:Pg),w.place=some n->S.pg[n]?=some p->w.goal < p.lv->∀ l f,Xx w.forks l=some f->l < w.goal∨p.lv < l
 full:∀ (n:Nat) (p:Pg),w.place=some n->S.pg[n]?=some p->∀ l' f',Xx w.forks l'=some f'->∀ l,p.lv < l->l<=l'->∃ f,Xx w.forks l=some f
 tell:0 < w.goal->∃ (k:Nat) (q:Pg),w.newp=some k/\S.pg[k]?=some q/\q.lv+1=w.goal/\bg k=some w.aim
theorem WOk.grow {S S':Sh} {bg bg':Bg} {w:Wk} (W:WOk S bg w) (g:Qbx S bg S' bg'):WOk S' bg' w where
 at_:=fun n h=>by
  obtain ⟨p,h1,h2,h3⟩:=W.at_ n h
  obtain ⟨e,p',h4,h5⟩:=g.old n p h1
  exact ⟨p',h4,by omega,by rw [e];exact h3⟩
 none_:=W.none_
 kept:=fun l f h=>by
  obtain ⟨p,h1,h2⟩:=W.kept l f h
  obtain ⟨e,p',h4,h5⟩:=g.old f p h1
  exact ⟨p',h4,by omega⟩
 above:=fun n p' hp hn l f hf hl=>by
  obtain ⟨p,h1,_⟩:=W.at_ n hp
  obtain ⟨e,p2,h4,h5⟩:=g.old n p h1
  rw [h4] at hn;cases hn
  obtain ⟨pf,h6,_⟩:=W.kept l f hf
  rw [e,(g.old f pf h6).1]
  exact W.above n p hp h1 l f hf (by omega)
 chain:=fun l f l' f' h h' a b=>by
  obtain ⟨p,h1,_⟩:=W.kept l f h
  obtain ⟨p',h1',_⟩:=W.kept l' f' h'
  rw [(g.old f p h1).1,(g.old f' p' h1').1]
  exact W.chain l f l' f' h h' a b
 gap:=fun n p' hp hn a l f hf=>by
  obtain ⟨p,h1,_⟩:=W.at_ n hp
  obtain ⟨e,p2,h4,h5⟩:=g.old n p h1
  rw [h4] at hn;cases hn
  rw [h5]
  exact W.gap n p hp h1 (by omega) l f hf
 full:=fun n p' hp hn l' f' hf l a b=>by
  obtain ⟨p,h1,_⟩:=W.at_ n hp
  obtain ⟨e,p2,h4,h5⟩:=g.old n p h1
  rw [h4] at hn;cases hn
  exact W.full n p hp h1 l' f' hf l (by omega) b
 tell:=fun h=>by
  obtain ⟨k,q,h1,h2,h3,h4⟩:=W.tell h
  obtain ⟨e,p',h5,h6⟩:=g.old k q h2
  exact ⟨k,p',h1,h5,by omega,by rw [e];exact h4⟩
theorem WOk.fresh {S:Sh} {bg:Bg} {w:Wk} (h1:w.place=none) (h2:w.forks=[]) (h3:w.goal=0):WOk S bg w where
 at_:=fun n h=>by rw [h1] at h;cases h
 none_:=fun _ l f h=>by rw [h2] at h;cases h
 kept:=fun l f h=>by rw [h2] at h;cases h
 above:=fun n p h=>by rw [h1] at h;cases h
 chain:=fun l f l' f' h=>by rw [h2] at h;cases h
 gap:=fun n p h=>by rw [h1] at h;cases h
 full:=fun n p h=>by rw [h1] at h;cases h
 tell:=fun h=>by omega
theorem Z8 {α:Type} {xs:List α} {n m:Nat} {x y:α} (h:(xs.set n x)[m]?=some y):(m=n/\y=x/\n < xs.length)∨(m≠n/\xs[m]?=some y):=by
 by_cases e:m=n
 ·subst e
  by_cases hl:m < xs.length
  ·rw [List.getElem?_set_self hl] at h;cases h;exact .inl ⟨rfl,rfl,hl⟩
  ·rw [List.getElem?_eq_none (by simpa using hl)] at h;cases h
 ·rw [List.getElem?_set_ne (Ne.symm e)] at h;exact .inr ⟨e,h⟩
theorem Qaj {α:Type} {xs:List α} {n m:Nat} {x y:α} (h:xs[m]?=some y):(xs.set n x)[m]?=some (if m=n then x else y):=by
 have hl:=(List.getElem?_eq_some_iff.mp h).1
 by_cases e:m=n
 ·subst e;rw [List.getElem?_set_self hl,if_pos rfl]
 ·rw [List.getElem?_set_ne (Ne.symm e),h,if_neg e]
theorem Tree.write {S:Sh} {bg:Bg} (T:Tree S bg) {n:Nat} {p p':Pg} {x y:Int} (hn:S.pg[n]?=some p) (hl:p'.lv=p.lv) (hh:p'.hi=p.hi) (hs:p'.sd=p.sd) (ok:JS S.room (bg n) p')
  (hk:0 < p.lv->∀ j k,p'.ps[j]?=some k->∃ (c:Nat) (q:Pg),k=(c:Int)/\S.pg[c]?=some q/\q.lv+1=p.lv/\bg c=J8 (bg n) p'.ks j) :
  Tree { S with pg:=S.pg.set n p',rd:=x,wr:=y } bg/\Qbx S bg { S with pg:=S.pg.set n p',rd:=x,wr:=y } bg:=by
 have old:∀ (m:Nat) (q:Pg),S.pg[m]?=some q->∃ q':Pg,(S.pg.set n p')[m]?=some q'/\q'.lv=q.lv/\q'.hi=q.hi/\q'.sd=q.sd:=fun m q h=>by
  refine ⟨_,Qaj h,?_⟩
  by_cases e:m=n
  ·subst e;rw [hn] at h;cases h;simp [hl,hh,hs]
  ·simp [e]
 have new:∀ (m:Nat) (q':Pg),(S.pg.set n p')[m]?=some q'->∃ q:Pg,S.pg[m]?=some q/\q'.lv=q.lv/\q'.hi=q.hi/\q'.sd=q.sd:=fun m q' h=>by
  rcases Z8 h with ⟨rfl,rfl,_⟩ | ⟨_,h⟩
  ·exact ⟨p,hn,hl,hh,hs⟩
  ·exact ⟨q',h,rfl,rfl,rfl⟩
 refine ⟨⟨T.room2,?_,T.rbg,fun m q h=>?_,fun m q h=>?_,fun m q h h0 j k hj=>?_,fun a b q r ha hb hab e=>?_,fun m q h v hv=>?_⟩,⟨fun m q h=>⟨rfl,by obtain ⟨q',h1,h2,_⟩:=old m q h;exact ⟨q',h1,h2⟩⟩⟩⟩
 ·obtain ⟨r,h1,h2⟩:=T.root
  obtain ⟨r',h3,h4,_⟩:=old _ _ h1
  exact ⟨r',h3,fun m q h=>by obtain ⟨q0,h5,h6,_⟩:=new m q h;rw [h6,h4];exact h2 m q0 h5⟩
 ·rcases Z8 h with ⟨rfl,rfl,_⟩ | ⟨_,h⟩
  ·exact ok
  ·exact T.page m q h
 ·obtain ⟨q0,h1,h2,h3,h4⟩:=new m q h
  rcases T.link m q0 h1 with ⟨a,b⟩ | ⟨x,s,r,a,b,c,d,e⟩
  ·exact .inl ⟨h3.trans a,h4.trans b⟩
  ·obtain ⟨r',c1,c2,_⟩:=old s r c
   exact .inr ⟨x,s,r',h3.trans a,h4.trans b,c1,by rw [c2,d,h2],e⟩
 ·rcases Z8 h with ⟨rfl,rfl,_⟩ | ⟨_,h⟩
  ·obtain ⟨c,r,h1,h2,h3,h4⟩:=hk (by omega) j k hj
   obtain ⟨r',c1,c2,_⟩:=old c r h2
   exact ⟨c,r',h1,c1,by omega,h4⟩
  ·obtain ⟨c,r,h1,h2,h3,h4⟩:=T.kid m q h h0 j k hj
   obtain ⟨r',c1,c2,_⟩:=old c r h2
   exact ⟨c,r',h1,c1,by omega,h4⟩
 ·obtain ⟨q0,h1,h2,h3,_⟩:=new a q ha
  obtain ⟨r0,h5,h6,h7,_⟩:=new b r hb
  rw [h3,h7]
  exact T.dis a b q0 r0 h1 h5 (by omega) e
 ·obtain ⟨q0,h1,h2,_⟩:=new m q h
  obtain ⟨a,r,h3,h4,h5⟩:=T.pred m q0 h1 v hv
  obtain ⟨r',c1,c2,c3,_⟩:=old a r h3
  exact ⟨a,r',c1,by omega,c3.trans h5⟩
end TR
namespace TR
theorem Xk {α:Type} {xs:List α} {x:α} {m:Nat} {y:α} (h:(xs++[x])[m]?=some y):(m=xs.length/\y=x)∨xs[m]?=some y:=by
 rcases Nat.lt_or_ge m xs.length with q | q
 ·rw [List.getElem?_append_left q] at h;exact .inr h
 ·rw [List.getElem?_append_right q] at h
  by_cases e:m - xs.length=0
  ·rw [e] at h;simp at h;exact .inl ⟨by omega,h.symm⟩
  ·rw [List.getElem?_eq_none (by simp;omega)] at h;cases h
theorem qy {α:Type} {xs:List α} {x:α} {m:Nat} {y:α} (h:xs[m]?=some y):(xs++[x])[m]?=some y:=by
 rw [List.getElem?_append_left (List.getElem?_eq_some_iff.mp h).1];exact h
theorem JL {α:Type} {xs:List α} {m:Nat} {y:α} (h:xs[m]?=some y):m < xs.length:=(List.getElem?_eq_some_iff.mp h).1
def X1 (bg:Bg) (l:Nat) (k:Option Int):Bg:=fun i=>if i=l then k else bg i
theorem U1 {bg:Bg} {l:Nat} {k:Option Int} {i:Nat} (h:i < l):X1 bg l k i=bg i:=by unfold X1;rw [if_neg (by omega)]
theorem Jp {bg:Bg} {l:Nat} {k:Option Int}:X1 bg l k l=k:=by unfold X1;rw [if_pos rfl]
section
variable {S:Sh} {bg:Bg} {n:Nat} {p P:Pg}
theorem Yx (h3:1<=P.ks.length):P.ks[mid P]?=some (J6 P):=by
 have:mid P < P.ks.length:=by unfold mid;omega
 unfold J6
 rw [List.getD_eq_getElem?_getD,List.getElem?_eq_getElem this];rfl
theorem qQ {ks:List Int} (h:ks.Pairwise (· < ·)) {i j:Nat} {x y:Int} (hi:ks[i]?=some x) (hj:ks[j]?=some y) (hij:i < j):x < y:=by
 obtain ⟨a,rfl⟩:=List.getElem?_eq_some_iff.mp hi
 obtain ⟨b,rfl⟩:=List.getElem?_eq_some_iff.mp hj
 exact List.pairwise_iff_getElem.mp h i j a b hij
theorem Gh (ok:JS P.ks.length (bg n) P) (h3:3<=P.ks.length):ltB (bg n) (J6 P):=by
 intro v hv
 have h0:P.ks[0]?=some (P.ks[0]'(by omega)):=List.getElem?_eq_getElem _
 have a:=ok.low _ (List.getElem_mem (by omega:0 < P.ks.length)) v hv
 have b:=qQ ok.sorted h0 (Yx (P:=P) (by omega)) (by unfold mid;omega)
 omega
theorem QfM (ok:JS P.ks.length (bg n) P) (h3:3<=P.ks.length) (hr:P.ks.length<=S.room+1) (l:Nat):JS S.room (bg n) (Zq P l) where
 sorted:=ok.sorted.sublist (List.take_sublist _ _)
 few:=by show (P.ks.take (mid P)).length<=_;rw [List.length_take];unfold mid;omega
 parts:=by
  show (P.ps.take (Zw P)).length=(P.ks.take (mid P)).length+(if P.lv=0 then 0 else 1)
  have:=ok.parts
  rw [List.length_take,List.length_take]
  unfold Zw mid
  split at this<;>split<;>simp_all<;>omega
 low:=fun k hk=>ok.low k (List.mem_of_mem_take hk)
 lowF:=fun h k hk=>ok.lowF h k (List.mem_of_mem_take hk)
 high:=fun k hk v hv=>by
  cases hv
  obtain ⟨i,hi,e⟩:=List.mem_iff_getElem.mp hk
  simp only [Zq,List.getElem_take] at e
  have hi':i < mid P:=by have:=hi;rw [show (Zq P l).ks=P.ks.take (mid P) from rfl,List.length_take] at this;omega
  exact qQ ok.sorted (i:=i) (by rw [<- e];exact List.getElem?_eq_getElem _) (Yx (P:=P) (by omega)) hi'
 wide:=fun h hh=>by cases hh;exact Gh ok h3
theorem QfK (ok:JS P.ks.length (bg n) P) (h3:3<=P.ks.length) (hr:P.ks.length<=S.room+1):JS S.room (some (J6 P)) (Q6 P) where
 sorted:=ok.sorted.sublist (List.drop_sublist _ _)
 few:=by show (P.ks.drop (Zw P)).length<=_;rw [List.length_drop];unfold Zw mid;split<;>omega
 parts:=by
  show (P.ps.drop (Zw P)).length=(P.ks.drop (Zw P)).length+(if P.lv=0 then 0 else 1)
  have:=ok.parts
  rw [List.length_drop,List.length_drop]
  unfold Zw mid
  split at this<;>split<;>simp_all<;>omega
 low:=fun k hk v hv=>by
  cases hv
  obtain ⟨i,hi,e⟩:=List.mem_iff_getElem.mp hk
  rw [show (Q6 P).ks=P.ks.drop (Zw P) from rfl] at hi
  have hi2:Zw P+i < P.ks.length:=by rw [List.length_drop] at hi;omega
  have e':P.ks[Zw P+i]?=some k:=by rw [<- e];rw [List.getElem?_eq_getElem hi2];simp [Q6]
  rcases Nat.lt_or_ge (mid P) (Zw P+i) with q | q
  ·exact Int.le_of_lt (qQ ok.sorted (Yx (P:=P) (by omega)) e' q)
  ·have:mid P=Zw P+i:=by unfold Zw at q ⊢;split<;>simp_all<;>omega
   rw [<- this,Yx (P:=P) (by omega)] at e';cases e';omega
 lowF:=fun h k hk v hv=>by
  cases hv
  obtain ⟨i,hi,e⟩:=List.mem_iff_getElem.mp hk
  rw [show (Q6 P).ks=P.ks.drop (Zw P) from rfl] at hi
  have hi2:Zw P+i < P.ks.length:=by rw [List.length_drop] at hi;omega
  have e':P.ks[Zw P+i]?=some k:=by rw [<- e];rw [List.getElem?_eq_getElem hi2];simp [Q6]
  have h':0 < P.lv:=h
  exact qQ ok.sorted (Yx (P:=P) (by omega)) e' (by unfold Zw;rw [if_neg (by omega)];omega)
 high:=fun k hk=>ok.high k (List.mem_of_mem_drop hk)
 wide:=fun h hh v hv=>by
  cases hv
  exact ok.high _ (List.mem_of_getElem? (Yx (P:=P) (by omega))) h hh
theorem Tree.split (T:Tree S bg) {x y:Int} (hn:S.pg[n]?=some p) (hl:P.lv=p.lv) (hh:P.hi=p.hi) (hs:P.sd=p.sd) (ok:JS P.ks.length (bg n) P) (h1:S.room < P.ks.length) (h2:P.ks.length<=S.room+1)
  (hk:0 < p.lv->∀ j k,P.ps[j]?=some k->∃ (c:Nat) (q:Pg),k=(c:Int)/\S.pg[c]?=some q/\q.lv+1=p.lv/\bg c=J8 (bg n) P.ks j) :
  Tree { S with pg:=(S.pg++[Q6 P]).set n (Zq P S.pg.length),rd:=x,wr:=y } (X1 bg S.pg.length (some (J6 P)))/\Qbx S bg { S with pg:=(S.pg++[Q6 P]).set n (Zq P S.pg.length),rd:=x,wr:=y } (X1 bg S.pg.length (some (J6 P))):=by
 have r2:=T.room2
 have h3:3<=P.ks.length:=by omega
 have hnl:=JL hn
 have kg:=Yx (P:=P) (by omega)
 have kl:=Gh ok h3
 have kh:∀ h,p.hi=some h->J6 P < h:=fun h e=>ok.high _ (List.mem_of_getElem? kg) h (hh.trans e)
 have bo:∀ m q,S.pg[m]?=some q->X1 bg S.pg.length (some (J6 P)) m=bg m:=fun m q h=>U1 (JL h)
 have old:∀ (m:Nat) (q:Pg),S.pg[m]?=some q->∃ q':Pg,((S.pg++[Q6 P]).set n (Zq P S.pg.length))[m]?=some q'/\q'.lv=q.lv/\(m≠n->q'=q)/\(m=n->q'=Zq P S.pg.length):=fun m q h=>by
  refine ⟨_,Qaj (qy h),?_,fun e=>by rw [if_neg e],fun e=>by rw [if_pos e]⟩
  by_cases e:m=n
  ·subst e;rw [hn] at h;cases h;rw [if_pos rfl];exact hl
  ·rw [if_neg e]
 have gl:((S.pg++[Q6 P]).set n (Zq P S.pg.length))[S.pg.length]?=some (Q6 P):=by
  rw [List.getElem?_set_ne (by omega),List.getElem?_append_right (Nat.le_refl _)];simp
 have gn:((S.pg++[Q6 P]).set n (Zq P S.pg.length))[n]?=some (Zq P S.pg.length):=by
  rw [List.getElem?_set_self (by simp;omega)]
 have new:∀ (m:Nat) (q:Pg),((S.pg++[Q6 P]).set n (Zq P S.pg.length))[m]?=some q->(m=n/\q=Zq P S.pg.length)∨(m=S.pg.length/\q=Q6 P)∨(m≠n/\S.pg[m]?=some q):=fun m q h=>by
  rcases Z8 h with ⟨a,b,_⟩ | ⟨a,b⟩
  ·exact .inl ⟨a,b⟩
  ·rcases Xk b with c | c
   ·exact .inr (.inl c)
   ·exact .inr (.inr ⟨a,c⟩)
 have olv:(Zq P S.pg.length).lv=p.lv:=hl
 have nlv:(Q6 P).lv=p.lv:=hl
 refine ⟨⟨r2,?_,?_,fun m q h=>?_,fun m q h=>?_,fun m q h h0 j k hj=>?_,fun a b q r ha hb hab e=>?_,fun m q h v hv=>?_⟩,⟨fun m q h=>⟨bo m q h,by obtain ⟨q',a,b,_⟩:=old m q h;exact ⟨q',a,b⟩⟩⟩⟩
 ·obtain ⟨r,a,b⟩:=T.root
  obtain ⟨r',c,d,_⟩:=old _ _ a
  refine ⟨r',c,fun m q h=>?_⟩
  rcases new m q h with ⟨_,rfl⟩ | ⟨_,rfl⟩ | ⟨_,h⟩
  ·rw [olv,d];exact b n p hn
  ·rw [nlv,d];exact b n p hn
  ·rw [d];exact b m q h
 ·obtain ⟨r,a,_⟩:=T.root
  rw [show X1 bg S.pg.length (some (J6 P)) S.top=bg S.top from bo _ _ a];exact T.rbg
 ·rcases new m q h with ⟨rfl,rfl⟩ | ⟨rfl,rfl⟩ | ⟨_,h⟩
  ·rw [bo _ _ hn];exact QfM ok h3 h2 _
  ·rw [Jp];exact QfK ok h3 h2
  ·rw [bo _ _ h];exact T.page m q h
 ·rcases new m q h with ⟨rfl,rfl⟩ | ⟨rfl,rfl⟩ | ⟨_,h⟩
  ·exact .inr ⟨J6 P,S.pg.length,Q6 P,rfl,rfl,gl,rfl,Jp⟩
  ·rcases T.link n p hn with ⟨a,b⟩ | ⟨z,s,r,a,b,c,d,e⟩
   ·exact .inl ⟨hh.trans a,hs.trans b⟩
   ·obtain ⟨r',c1,c2,_⟩:=old s r c
    exact .inr ⟨z,s,r',hh.trans a,hs.trans b,c1,by rw [c2,d,nlv],by rw [bo _ _ c];exact e⟩
  ·rcases T.link m q h with ⟨a,b⟩ | ⟨z,s,r,a,b,c,d,e⟩
   ·exact .inl ⟨a,b⟩
   ·obtain ⟨r',c1,c2,_⟩:=old s r c
    exact .inr ⟨z,s,r',a,b,c1,by rw [c2,d],by rw [bo _ _ c];exact e⟩
 ·have lift:∀ {b0:Option Int} {ks0:List Int} {j0:Nat} {b1:Option Int} {ks1:List Int} {l1:Nat},J8 b0 ks0 j0=J8 b1 ks1 j->l1=p.lv->(∃ (c:Nat) (q:Pg),k=(c:Int)/\S.pg[c]?=some q/\q.lv+1=p.lv/\bg c=J8 b0 ks0 j0)->∃ (c:Nat) (q:Pg),k=(c:Int)/\((S.pg++[Q6 P]).set n (Zq P S.pg.length))[c]?=some q/\q.lv+1=l1/\X1 bg S.pg.length (some (J6 P)) c=J8 b1 ks1 j:=fun {b0 ks0 j0 b1 ks1 l1} e el ⟨c,q,a1,a2,a3,a4⟩=>by
   obtain ⟨q',c1,c2,_⟩:=old c q a2
   exact ⟨c,q',a1,c1,by omega,by rw [bo _ _ a2,a4,e]⟩
  rcases new m q h with ⟨rfl,rfl⟩ | ⟨rfl,rfl⟩ | ⟨_,h⟩
  ·rw [olv] at h0
   have hc:Zw P=mid P+1:=by unfold Zw;rw [if_neg (by omega)]
   have hjl:j < mid P+1:=by
    have:=JL hj
    rw [show (Zq P S.pg.length).ps=P.ps.take (Zw P) from rfl,List.length_take,hc] at this;omega
   have hj':P.ps[j]?=some k:=by
    rw [show (Zq P S.pg.length).ps=P.ps.take (Zw P) from rfl,List.getElem?_take_of_lt (by omega)] at hj;exact hj
   refine lift ?_ olv (hk h0 j k hj')
   rw [bo _ _ hn]
   cases j with
   | zero=>rfl
   | succ i=>show P.ks[i]?=(P.ks.take (mid P))[i]?;rw [List.getElem?_take_of_lt (by omega)]
  ·rw [nlv] at h0
   have hc:Zw P=mid P+1:=by unfold Zw;rw [if_neg (by omega)]
   have hj':P.ps[mid P+1+j]?=some k:=by
    rw [show (Q6 P).ps=P.ps.drop (Zw P) from rfl,List.getElem?_drop,hc] at hj;exact hj
   refine lift ?_ nlv (hk h0 _ k hj')
   rw [Jp]
   cases j with
   | zero=>show P.ks[mid P+0]?=some (J6 P);exact kg
   | succ i=>show P.ks[mid P+1+i]?=(P.ks.drop (Zw P))[i]?;rw [List.getElem?_drop,hc]
  ·obtain ⟨c,r,a1,a2,a3,a4⟩:=T.kid m q h h0 j k hj
   obtain ⟨r',c1,c2,_⟩:=old c r a2
   exact ⟨c,r',a1,c1,by omega,by rw [bo _ _ a2,bo _ _ h,a4]⟩
 ·have on:∀ (b:Nat) (r:Pg),b≠n->S.pg[b]?=some r->p.lv=r.lv->(∃ h v,(Zq P S.pg.length).hi=some h/\X1 bg S.pg.length (some (J6 P)) b=some v/\h<=v)∨(∃ h v,r.hi=some h/\X1 bg S.pg.length (some (J6 P)) n=some v/\h<=v):=fun b r hbn hb hlv=>by
   rcases T.dis n b p r hn hb hlv (Ne.symm hbn) with ⟨h,v,a1,a2,a3⟩ | ⟨h,v,a1,a2,a3⟩
   ·exact .inl ⟨J6 P,v,rfl,by rw [bo _ _ hb];exact a2,by have:=kh h a1;omega⟩
   ·exact .inr ⟨h,v,a1,by rw [bo _ _ hn];exact a2,a3⟩
  have nn:∀ (b:Nat) (r:Pg),b≠n->S.pg[b]?=some r->p.lv=r.lv->(∃ h v,(Q6 P).hi=some h/\X1 bg S.pg.length (some (J6 P)) b=some v/\h<=v)∨(∃ h v,r.hi=some h/\X1 bg S.pg.length (some (J6 P)) S.pg.length=some v/\h<=v):=fun b r hbn hb hlv=>by
   rcases T.dis n b p r hn hb hlv (Ne.symm hbn) with ⟨h,v,a1,a2,a3⟩ | ⟨h,v,a1,a2,a3⟩
   ·exact .inl ⟨h,v,hh.trans a1,by rw [bo _ _ hb];exact a2,a3⟩
   ·exact .inr ⟨h,J6 P,a1,Jp,by have:=kl v a2;omega⟩
  rcases new a q ha with ⟨rfl,rfl⟩ | ⟨rfl,rfl⟩ | ⟨na,ha2⟩
  ·rcases new b r hb with ⟨rfl,rfl⟩ | ⟨rfl,rfl⟩ | ⟨nb,hb2⟩
   ·exact absurd rfl e
   ·exact .inl ⟨J6 P,J6 P,rfl,Jp,Int.le_refl _⟩
   ·exact on b r nb hb2 (by rw [<- hab,olv])
  ·rcases new b r hb with ⟨rfl,rfl⟩ | ⟨rfl,rfl⟩ | ⟨nb,hb2⟩
   ·exact .inr ⟨J6 P,J6 P,rfl,Jp,Int.le_refl _⟩
   ·exact absurd rfl e
   ·exact nn b r nb hb2 (by rw [<- hab,nlv])
  ·rcases new b r hb with ⟨rfl,rfl⟩ | ⟨rfl,rfl⟩ | ⟨nb,hb2⟩
   ·exact (on a q na ha2 (by rw [hab,olv])).symm
   ·exact (nn a q na ha2 (by rw [hab,nlv])).symm
   ·rcases T.dis a b q r ha2 hb2 hab e with ⟨h,v,a1,a2,a3⟩ | ⟨h,v,a1,a2,a3⟩
    ·exact .inl ⟨h,v,a1,by rw [bo _ _ hb2];exact a2,a3⟩
    ·exact .inr ⟨h,v,a1,by rw [bo _ _ ha2];exact a2,a3⟩
 ·have pr:∀ (l:Nat) (z:Pg),S.pg[l]?=some z->z.hi=some v->∃ (m:Nat) (q:Pg),((S.pg++[Q6 P]).set n (Zq P S.pg.length))[m]?=some q/\q.lv=z.lv/\q.hi=some v:=fun l z hz hv=>by
   by_cases e:l=n
   ·subst e;rw [hn] at hz;cases hz
    exact ⟨_,_,gl,nlv,hh.trans hv⟩
   ·obtain ⟨z',c1,c2,c3,_⟩:=old l z hz
    exact ⟨l,z',c1,c2,by rw [c3 e];exact hv⟩
  rcases new m q h with ⟨rfl,rfl⟩ | ⟨rfl,rfl⟩ | ⟨nm,h⟩
  ·rw [bo _ _ hn] at hv
   obtain ⟨a,z,b1,b2,b3⟩:=T.pred m p hn v hv
   obtain ⟨c,z',d1,d2,d3⟩:=pr a z b1 b3
   exact ⟨c,z',d1,by rw [d2,b2,olv],d3⟩
  ·rw [Jp] at hv
   exact ⟨n,_,gn,by rw [olv,nlv],hv⟩
  ·rw [bo _ _ h] at hv
   obtain ⟨a,z,b1,b2,b3⟩:=T.pred m q h v hv
   obtain ⟨c,z',d1,d2,d3⟩:=pr a z b1 b3
   exact ⟨c,z',d1,by rw [d2,b2],d3⟩
end
end TR
namespace TR
section
variable {S:Sh} {bg:Bg} {n:Nat} {p:Pg}
theorem Tree.raise (T:Tree S bg) {r q:Pg} {k:Nat} {aim x y:Int} (hr:S.pg[S.top]?=some r) (hk:S.pg[k]?=some q) (hl:q.lv=r.lv) (hb:bg k=some aim) :
    Tree { S with rd:=x,pg:=S.pg++[⟨r.lv+1,[aim],[(S.top:Int),(k:Int)],none,none⟩],top:=S.pg.length,wr:=y } (X1 bg S.pg.length none)/\Qbx S bg { S with rd:=x,pg:=S.pg++[⟨r.lv+1,[aim],[(S.top:Int),(k:Int)],none,none⟩],top:=S.pg.length,wr:=y } (X1 bg S.pg.length none):=by
  have r2:=T.room2
  have lev:∀ (m:Nat) (z:Pg),S.pg[m]?=some z->z.lv<=r.lv:=fun m z h=>by
    obtain ⟨r',a,b⟩:=T.root
    rw [hr] at a;cases a;exact b m z h
  have bo:∀ (m:Nat) (z:Pg),S.pg[m]?=some z->X1 bg S.pg.length none m=bg m:=fun m z h=>U1 (JL h)
  have gl:(S.pg++[(⟨r.lv+1,[aim],[(S.top:Int),(k:Int)],none,none⟩:Pg)])[S.pg.length]?=some ⟨r.lv+1,[aim],[(S.top:Int),(k:Int)],none,none⟩:=by simp
  refine ⟨⟨r2,⟨_,gl,fun m z h=>?_⟩,Jp,fun m z h=>?_,fun m z h=>?_,fun m z h h0 j c hj=>?_,fun a b z z' ha hb' hab e=>?_,fun m z h v hv=>?_⟩,⟨fun m z h=>⟨bo m z h,z,qy h,rfl⟩⟩⟩
  . rcases Xk h with ⟨_,rfl⟩ | h
    . exact Nat.le_refl _
    . exact Nat.le_succ_of_le (lev m z h)
  . rcases Xk h with ⟨rfl,rfl⟩ | h
    . rw [Jp]
      exact ⟨by simp,by show 1<=S.room;omega,by simp,fun k hk v hv=>(by cases hv),fun _ k hk v hv=>(by cases hv),fun k hk v hv=>(by cases hv),fun h hh=>(by cases hh)⟩
    . rw [bo _ _ h];exact T.page m z h
  . rcases Xk h with ⟨rfl,rfl⟩ | h
    . exact .inl ⟨rfl,rfl⟩
    . rcases T.link m z h with a | ⟨z1,s,z2,a,b,c,d,e⟩
      . exact .inl a
      . exact .inr ⟨z1,s,z2,a,b,qy c,d,by rw [bo _ _ c];exact e⟩
  . rcases Xk h with ⟨rfl,rfl⟩ | h
    . match j,hj with
      | 0,hj =>
        cases hj
        exact ⟨S.top,r,rfl,qy hr,rfl,by rw [bo _ _ hr,Jp];exact T.rbg⟩
      | 1,hj =>
        cases hj
        exact ⟨k,q,rfl,qy hk,by show q.lv+1=r.lv+1;omega,by rw [bo _ _ hk];exact hb⟩
      | j+2,hj=>simp at hj
    . obtain ⟨c',z',a1,a2,a3,a4⟩:=T.kid m z h h0 j c hj
      exact ⟨c',z',a1,qy a2,a3,by rw [bo _ _ a2,bo _ _ h,a4]⟩
  . rcases Xk ha with ⟨rfl,rfl⟩ | ha2
    . rcases Xk hb' with ⟨rfl,rfl⟩ | hb2
      . exact absurd rfl e
      . have:=lev b z' hb2;have:r.lv+1=z'.lv:=hab;omega
    . rcases Xk hb' with ⟨rfl,rfl⟩ | hb2
      . have:=lev a z ha2;have:z.lv=r.lv+1:=hab;omega
      . rcases T.dis a b z z' ha2 hb2 hab e with ⟨h,v,a1,a2,a3⟩ | ⟨h,v,a1,a2,a3⟩
        . exact .inl ⟨h,v,a1,by rw [bo _ _ hb2];exact a2,a3⟩
        . exact .inr ⟨h,v,a1,by rw [bo _ _ ha2];exact a2,a3⟩
  . rcases Xk h with ⟨rfl,rfl⟩ | h
    . rw [Jp] at hv;cases hv
    . rw [bo _ _ h] at hv
      obtain ⟨a,z1,b1,b2,b3⟩:=T.pred m z h v hv
      exact ⟨a,z1,qy b1,b2,b3⟩
theorem uI {k:Int} (h:JM p k=false):ltH k p.hi:=fun v hv=>by
 unfold JM at h;rw [hv] at h;simp at h;omega
theorem ub {room:Nat} (ok:JS room (bg n) p) (hl:p.lv=0) {k x:Int} (h1:leB (bg n) k) (h2:ltH k p.hi):JS (QY p k x).ks.length (bg n) (QY p k x) where
 sorted:=qF ok.sorted k
 few:=Nat.le_refl _
 parts:=by
  have a:=ok.parts
  rw [if_pos hl] at a
  have b:=xX p.ks k
  have c:=XA p.ks k
  show (p.ps.take (cLt p.ks k)++x::p.ps.drop (cLe p.ks k)).length=(p.ks.take (cLt p.ks k)++k::p.ks.drop (cLe p.ks k)).length+(if p.lv=0 then 0 else 1)
  rw [if_pos hl]
  simp only [List.length_append,List.length_cons,List.length_take,List.length_drop];omega
 low:=fun y hy=>by
  rcases xo ok.sorted hy with rfl | hy
  ·exact h1
  ·exact ok.low y hy
 lowF:=fun h=>by have:0 < p.lv:=h;omega
 high:=fun y hy=>by
  rcases xo ok.sorted hy with rfl | hy
  ·exact h2
  ·exact ok.high y hy
 wide:=ok.wide
theorem xR {room:Nat} (ok:JS room (bg n) p) {k x:Int}:(QY p k x).ks.length<=room+1:=by
 have b:=xX p.ks k
 have c:=XA p.ks k
 have d:=j1 p.ks k
 have e:=ok.few
 show (p.ks.take (cLt p.ks k)++k::p.ks.drop (cLe p.ks k)).length<=_
 simp only [List.length_append,List.length_cons,List.length_take,List.length_drop];omega
theorem gW {room:Nat} (ok:JS room (bg n) p) (hl:p.lv=0) {k:Int}:JS room (bg n) (without p k) where
 sorted:=VD ok.sorted k
 few:=by
  have b:=xX p.ks k
  have c:=XA p.ks k
  have d:=j1 p.ks k
  have e:=ok.few
  show (p.ks.take (cLt p.ks k)++p.ks.drop (cLe p.ks k)).length<=_
  simp only [List.length_append,List.length_take,List.length_drop];omega
 parts:=by
  have a:=ok.parts
  rw [if_pos hl] at a
  have b:=xX p.ks k
  have c:=XA p.ks k
  show (p.ps.take (cLt p.ks k)++p.ps.drop (cLe p.ks k)).length=(p.ks.take (cLt p.ks k)++p.ks.drop (cLe p.ks k)).length+(if p.lv=0 then 0 else 1)
  rw [if_pos hl]
  simp only [List.length_append,List.length_take,List.length_drop];omega
 low:=fun y hy=>ok.low y (kr hy)
 lowF:=fun h=>by have:0 < p.lv:=h;omega
 high:=fun y hy=>ok.high y (kr hy)
 wide:=ok.wide
theorem Qdp (T:Tree S bg) (hn:S.pg[n]?=some p) {k:Nat} {q:Pg} {aim:Int} (hk:S.pg[k]?=some q) (hl:q.lv+1=p.lv) (hb:bg k=some aim) (hu:Untold S k):aim∉p.ks/\bg n≠some aim:=by
 have ok:=T.page n p hn
 have h0:0 < p.lv:=by omega
 have pl:=ok.parts
 rw [if_neg (by omega)] at pl
 have key:∀ j,J8 (bg n) p.ks j=some aim->j < p.ps.length->False:=fun j e hj=>by
  obtain ⟨c,z,a1,a2,a3,a4⟩:=T.kid n p hn h0 j _ (List.getElem?_eq_getElem hj)
  have:c=k:=T.uniq a2 hk (by omega) (by rw [a4,e,hb])
  subst this
  exact hu n p hn h0 (by rw [<- a1];exact List.getElem_mem hj)
 refine ⟨fun hm=>?_,fun e=>key 0 e (by omega)⟩
 obtain ⟨i,hi,e⟩:=List.mem_iff_getElem.mp hm
 exact key (i+1) (by show p.ks[i]?=some aim;rw [List.getElem?_eq_getElem hi,e]) (by omega)
theorem qS {k:Int} {c:Nat} (h:k∉p.ks):(ZG p k c).ks=p.ks.take (cLt p.ks k)++k::p.ks.drop (cLe p.ks k):=by
 show p.ks.take (cLe p.ks k)++k::p.ks.drop (cLe p.ks k)=_
 rw [QbL h]
theorem gS {room:Nat} (ok:JS room (bg n) p) (hl:0 < p.lv) {k:Int} {c:Nat} (hk:k∉p.ks) (h1:ltB (bg n) k) (h2:ltH k p.hi):JS (ZG p k c).ks.length (bg n) (ZG p k c) where
 sorted:=by rw [qS hk];exact qF ok.sorted k
 few:=Nat.le_refl _
 parts:=by
  have a:=ok.parts
  rw [if_neg (by omega)] at a
  have d:=XA p.ks k
  show (p.ps.take (cLe p.ks k+1)++(c:Int)::p.ps.drop (cLe p.ks k+1)).length=(p.ks.take (cLe p.ks k)++k::p.ks.drop (cLe p.ks k)).length+(if p.lv=0 then 0 else 1)
  rw [if_neg (by omega)]
  simp only [List.length_append,List.length_cons,List.length_take,List.length_drop];omega
 low:=fun y hy=>by
  rw [qS hk] at hy
  rcases xo ok.sorted hy with rfl | hy
  ·exact fun v hv=>Int.le_of_lt (h1 v hv)
  ·exact ok.low y hy
 lowF:=fun h y hy=>by
  rw [qS hk] at hy
  rcases xo ok.sorted hy with rfl | hy
  ·exact h1
  ·exact ok.lowF hl y hy
 high:=fun y hy=>by
  rw [qS hk] at hy
  rcases xo ok.sorted hy with rfl | hy
  ·exact h2
  ·exact ok.high y hy
 wide:=ok.wide
theorem yR {room:Nat} (ok:JS room (bg n) p) {k:Int} {c:Nat}:(ZG p k c).ks.length<=room+1:=by
 have d:=XA p.ks k
 have e:=ok.few
 show (p.ks.take (cLe p.ks k)++k::p.ks.drop (cLe p.ks k)).length<=_
 simp only [List.length_append,List.length_cons,List.length_take,List.length_drop];omega
theorem GN (T:Tree S bg) (hn:S.pg[n]?=some p) {k:Nat} {q:Pg} {aim:Int} (hk:S.pg[k]?=some q) (hl:q.lv+1=p.lv) (hb:bg k=some aim) :
    ∀ j c,(ZG p aim k).ps[j]?=some c->∃ (c':Nat) (q:Pg),c=(c':Int)/\S.pg[c']?=some q/\q.lv+1=p.lv/\bg c'=J8 (bg n) (ZG p aim k).ks j:=by
  intro j c hj
  have ok:=T.page n p hn
  have h0:0 < p.lv:=by omega
  have pl:=ok.parts
  rw [if_neg (by omega)] at pl
  have d:=XA p.ks aim
  have hj:(p.ps.take (cLe p.ks aim+1)++(k:Int)::p.ps.drop (cLe p.ks aim+1))[j]?=some c:=hj
  show ∃ (c':Nat) (q:Pg),c=(c':Int)/\S.pg[c']?=some q/\q.lv+1=p.lv/\bg c'=J8 (bg n) (p.ks.take (cLe p.ks aim)++aim::p.ks.drop (cLe p.ks aim)) j
  have lt:(p.ps.take (cLe p.ks aim+1)).length=cLe p.ks aim+1:=by rw [List.length_take];omega
  have lk:(p.ks.take (cLe p.ks aim)).length=cLe p.ks aim:=by rw [List.length_take];omega
  rcases Nat.lt_or_ge j (cLe p.ks aim+1) with h | h
  . rw [List.getElem?_append_left (by omega),List.getElem?_take_of_lt h] at hj
    obtain ⟨c',z,a1,a2,a3,a4⟩:=T.kid n p hn h0 j c hj
    refine ⟨c',z,a1,a2,a3,?_⟩
    rw [a4]
    cases j with
    | zero=>rfl
    | succ i =>
      show p.ks[i]?=(p.ks.take (cLe p.ks aim)++aim::p.ks.drop (cLe p.ks aim))[i]?
      rw [List.getElem?_append_left (by omega),List.getElem?_take_of_lt (by omega)]
  . rw [List.getElem?_append_right (by omega),lt] at hj
    rcases Nat.lt_or_ge (cLe p.ks aim+1) j with h2 | h2
    . obtain ⟨i,rfl⟩:∃ i,j=cLe p.ks aim+2+i:=⟨j - (cLe p.ks aim+2),by omega⟩
      rw [show cLe p.ks aim+2+i - (cLe p.ks aim+1)=i+1 by omega,List.getElem?_cons_succ,List.getElem?_drop] at hj
      obtain ⟨c',z,a1,a2,a3,a4⟩:=T.kid n p hn h0 _ c hj
      refine ⟨c',z,a1,a2,a3,?_⟩
      rw [a4]
      rw [show cLe p.ks aim+1+i=(cLe p.ks aim+i)+1 by omega,show cLe p.ks aim+2+i=(cLe p.ks aim+1+i)+1 by omega]
      show p.ks[cLe p.ks aim+i]?=(p.ks.take (cLe p.ks aim)++aim::p.ks.drop (cLe p.ks aim))[cLe p.ks aim+1+i]?
      rw [List.getElem?_append_right (by omega),lk,show cLe p.ks aim+1+i - cLe p.ks aim=i+1 by omega,List.getElem?_cons_succ,List.getElem?_drop]
    . have e:j=cLe p.ks aim+1:=by omega
      subst e
      rw [show cLe p.ks aim+1 - (cLe p.ks aim+1)=0 by omega] at hj
      cases hj
      refine ⟨k,q,rfl,hk,hl,?_⟩
      rw [hb]
      show some aim=(p.ks.take (cLe p.ks aim)++aim::p.ks.drop (cLe p.ks aim))[cLe p.ks aim]?
      rw [List.getElem?_append_right (by omega),lk];simp
end
end TR
namespace TR
structure All (S:Sh) (bg:Bg) (ws:List Wk):Prop where
 ok:∀ (i:Nat) (w:Wk),ws[i]?=some w->w.ended=false->WOk S bg w
 unt:∀ (i:Nat) (w:Wk) (k:Nat),ws[i]?=some w->w.ended=false->0 < w.goal->w.newp=some k->Untold S k
 diff:∀ (i j:Nat) (w v:Wk) (k:Nat),i≠j->ws[i]?=some w->ws[j]?=some v->w.ended=false->v.ended=false->0 < w.goal->0 < v.goal->w.newp=some k->v.newp≠some k
structure Stp (S:Sh) (bg:Bg) (w:Wk) (S':Sh) (bg':Bg) (w':Wk):Prop where
 tree:Tree S' bg'
 grow:Qbx S bg S' bg'
 wok:w'.ended=false->WOk S' bg' w'
 unt:∀ k v,Untold S k->bg k=some v->(0 < w.goal->w.newp≠some k)->Untold S' k
 new:∀ k,w'.ended=false->0 < w'.goal->w'.newp=some k->Untold S' k/\((0 < w.goal/\w.newp=some k)∨S.pg.length<=k)
 room:S'.room=S.room
 len:S'.pg.length<=S.pg.length+1
theorem All.step {S S':Sh} {bg bg':Bg} {ws:List Wk} {i:Nat} {w w':Wk} (A:All S bg ws) (hi:ws[i]?=some w) (hw:w.ended=false) (st:Stp S bg w S' bg' w'):All S' bg' (ws.set i w') where
 ok:=fun j v hj hv=>by
  rcases Z8 hj with ⟨rfl,rfl,_⟩ | ⟨_,h⟩
  ·exact st.wok hv
  ·exact (A.ok j v h hv).grow st.grow
 unt:=fun j v k hj hv hg hk=>by
  rcases Z8 hj with ⟨rfl,rfl,_⟩ | ⟨e,h⟩
  ·exact (st.new k hv hg hk).1
  ·obtain ⟨k',q,a1,a2,a3,a4⟩:=(A.ok j v h hv).tell hg
   rw [hk] at a1;cases a1
   exact st.unt k _ (A.unt j v k h hv hg hk) a4 fun g0=>(A.diff j i v w k e h hi hv hw hg g0 hk)
 diff:=fun a b u v k e ha hb hu hv gu gv hk hk'=>by
  have key:∀ (c:Nat) (x:Wk),c≠i->ws[c]?=some x->x.ended=false->0 < x.goal->x.newp=some k->w'.ended=false->0 < w'.goal->w'.newp=some k->False:=fun c x hc hx he hg hk he' hg' hk'=>by
   rcases (st.new k he' hg' hk').2 with ⟨g0,n0⟩ | l
   ·exact A.diff c i x w k hc hx hi he hw hg g0 hk n0
   ·obtain ⟨k',q,a1,a2,_⟩:=(A.ok c x hx he).tell hg
    rw [hk] at a1;cases a1
    have:=JL a2;omega
  rcases Z8 ha with ⟨rfl,rfl,_⟩ | ⟨ea,ha2⟩
  ·rcases Z8 hb with ⟨rfl,rfl,_⟩ | ⟨eb,hb2⟩
   ·exact e rfl
   ·exact key b v eb hb2 hv gv hk' hu gu hk
  ·rcases Z8 hb with ⟨rfl,rfl,_⟩ | ⟨eb,hb2⟩
   ·exact key a u ea ha2 hu gu hk hv gv hk'
   ·exact A.diff a b u v k e ha2 hb2 hu hv gu gv hk hk'
theorem All.put {S:Sh} {bg:Bg} {ws:List Wk} {i:Nat} {w:Wk} (A:All S bg ws) (h1:w.place=none) (h2:w.forks=[]) (h3:w.goal=0):All S bg (ws.set i w) where
 ok:=fun j v hj hv=>by
  rcases Z8 hj with ⟨rfl,rfl,_⟩ | ⟨_,h⟩
  ·exact WOk.fresh h1 h2 h3
  ·exact A.ok j v h hv
 unt:=fun j v k hj hv hg hk=>by
  rcases Z8 hj with ⟨rfl,rfl,_⟩ | ⟨_,h⟩
  ·omega
  ·exact A.unt j v k h hv hg hk
 diff:=fun a b u v k e ha hb hu hv gu gv hk=>by
  rcases Z8 ha with ⟨rfl,rfl,_⟩ | ⟨_,ha⟩
  ·omega
  ·rcases Z8 hb with ⟨rfl,rfl,_⟩ | ⟨_,hb⟩
   ·omega
   ·exact A.diff a b u v k e ha hb hu hv gu gv hk
theorem Tree.rd {S:Sh} {bg:Bg} (T:Tree S bg) (x y:Int):Tree { S with rd:=x,wr:=y } bg:=⟨T.room2,T.root,T.rbg,T.page,T.link,T.kid,T.dis,T.pred⟩
section
variable {S:Sh} {bg:Bg} {n:Nat} {p P:Pg} {w:Wk}
theorem Untold.set {S:Sh} {n:Nat} {p P:Pg} {k:Nat} {x y:Int} (h:Untold S k) (hn:S.pg[n]?=some p) (hl:P.lv=p.lv) (hs:0 < p.lv->(k:Int)∈P.ps->(k:Int)∈p.ps):Untold { S with pg:=S.pg.set n P,rd:=x,wr:=y } k:=fun m q hm h0 hk=>by
 rcases Z8 hm with ⟨rfl,rfl,_⟩ | ⟨_,hm⟩
 ·exact h m p hn (by omega) (hs (by omega) hk)
 ·exact h m q hm h0 hk
theorem Untold.halves {S:Sh} {n:Nat} {p P:Pg} {k l:Nat} {x y:Int} (h:Untold S k) (hn:S.pg[n]?=some p) (hl:P.lv=p.lv) (hs:0 < p.lv->(k:Int)∈P.ps->(k:Int)∈p.ps):Untold { S with pg:=(S.pg++[Q6 P]).set n (Zq P l),rd:=x,wr:=y } k:=fun m q hm h0 hk=>by
 rcases Z8 hm with ⟨rfl,rfl,_⟩ | ⟨_,hm⟩
 ·have h0':0 < P.lv:=h0
  exact h m p hn (by omega) (hs (by omega) (List.mem_of_mem_take hk))
 ·rcases Xk hm with ⟨rfl,rfl⟩ | hm
  ·have h0':0 < P.lv:=h0
   exact h n p hn (by omega) (hs (by omega) (List.mem_of_mem_drop hk))
  ·exact h m q hm h0 hk
theorem Tree.untold_new (T:Tree S bg) {k:Nat} (h:S.pg.length<=k):Untold S k:=fun m q hm h0 hk=>by
 obtain ⟨j,hj,e⟩:=List.mem_iff_getElem.mp hk
 obtain ⟨c,z,a1,a2,_⟩:=T.kid m q hm h0 j _ (List.getElem?_eq_getElem hj)
 rw [e] at a1
 have:k=c:=by omega
 have:=JL a2;omega
theorem Ky (T:Tree S bg) (hn:S.pg[n]?=some p) (hl:P.lv=p.lv) (hh:P.hi=p.hi) (hs:P.sd=p.sd) (ok:JS P.ks.length (bg n) P) (h2:P.ks.length<=S.room+1)
  (hk:0 < p.lv->∀ j k,P.ps[j]?=some k->∃ (c:Nat) (q:Pg),k=(c:Int)/\S.pg[c]?=some q/\q.lv+1=p.lv/\bg c=J8 (bg n) P.ks j)
  (W:WOk S bg w) (hw:w.ended=false) (hpl:w.place=some n∨w.place=none) (hg:p.lv=w.goal) (hsub:∀ k:Nat,0 < p.lv->(k:Int)∈P.ps->(k:Int)∈p.ps∨(0 < w.goal/\w.newp=some k)) :
  ∃ bg',Stp S bg w (Q8 S w n P).2.1 bg' (Q8 S w n P).2.2:=by
 unfold Q8
 by_cases hr:P.ks.length<=S.room
 ·rw [if_pos hr]
  obtain ⟨T',G⟩:=T.write (x:=S.rd) (y:=S.wr+1) (p':=P) hn hl hh hs ⟨ok.sorted,hr,ok.parts,ok.low,ok.lowF,ok.high,ok.wide⟩ hk
  refine ⟨bg,T',G,fun h=>(by cases h),fun k v hu hb hne=>hu.set hn hl fun h0 hm=>?_,fun k h=>(by cases h),rfl,(by simp)⟩
  rcases hsub k h0 hm with a | ⟨a,b⟩
  ·exact a
  ·exact absurd b (hne a)
 ·rw [if_neg hr]
  obtain ⟨T',G⟩:=T.split (x:=S.rd) (y:=S.wr+1+1) hn hl hh hs ok (by omega) h2 hk
  have r2:=T.room2
  have kl:=Gh ok (by omega)
  have gl:((S.pg++[Q6 P]).set n (Zq P S.pg.length))[S.pg.length]?=some (Q6 P):=by
   rw [List.getElem?_set_ne (by have:=JL hn;omega),List.getElem?_append_right (Nat.le_refl _)];simp
  have pln:∀ f,Xx w.forks (p.lv+1)=some f->w.place=some n:=fun f hf=>by
   rcases hpl with h | h
   ·exact h
   ·have:=W.none_ h _ f hf;omega
  refine ⟨_,T',G,fun _=>?_,fun k v hu hb hne=>hu.halves hn hl fun h0 hm=>?_,fun k _ _ e=>?_,rfl,by simp⟩
  ·have lv':P.lv=w.goal:=hl.trans hg
   refine ⟨fun f hf=>?_,fun hnone l f hf=>?_,fun l f hf=>?_,fun f q hf hq l f' hf' hlt=>?_,fun l f l' f' hf hf' a b=>?_,fun f q hf hq hlt=>?_,fun f q hf hq l' f' hf' l a b=>?_,fun _=>⟨S.pg.length,Q6 P,rfl,gl,rfl,Jp⟩⟩
   ·have hf:Xx w.forks (P.lv+1)=some f:=hf
    rw [hl] at hf
    obtain ⟨q,a1,a2⟩:=W.kept _ f hf
    obtain ⟨e,q',a3,a4⟩:=G.old f q a1
    refine ⟨q',a3,?_,?_⟩
    ·show P.lv+1<=q'.lv;omega
    ·rw [e]
     intro v hv
     obtain ⟨u,b1,b2⟩:=W.above n p (pln f hf) hn _ f hf (by omega) v hv
     have:=kl u b1;show v<=J6 P;omega
   ·have hnone:Xx w.forks (P.lv+1)=none:=hnone
    show l < P.lv+1
    rcases Nat.lt_or_ge l (P.lv+1) with h | h
    ·exact h
    ·exfalso
     rcases hpl with hp | hp
     ·obtain ⟨f0,hf0⟩:=W.full n p hp hn l f hf (P.lv+1) (by omega) h
      rw [hnone] at hf0;cases hf0
     ·have:=W.none_ hp l f hf;omega
   ·obtain ⟨q,a1,a2⟩:=W.kept l f hf
    obtain ⟨e,q',a3,a4⟩:=G.old f q a1
    exact ⟨q',a3,by omega⟩
   ·have hf:Xx w.forks (P.lv+1)=some f:=hf
    obtain ⟨q0,a1,a2⟩:=W.kept _ f hf
    obtain ⟨q1,b1,b2⟩:=W.kept _ f' hf'
    obtain ⟨e,q',a3,a4⟩:=G.old f q0 a1
    rw [e,(G.old f' q1 b1).1]
    rw [a3] at hq;cases hq
    exact W.chain _ f l f' hf hf' (by omega) (by omega)
   ·obtain ⟨q0,a1,a2⟩:=W.kept _ f hf
    obtain ⟨q1,b1,b2⟩:=W.kept _ f' hf'
    rw [(G.old f q0 a1).1,(G.old f' q1 b1).1]
    have a:P.lv+1<=l:=a
    exact W.chain l f l' f' hf hf' (by omega) b
   ·have hf:Xx w.forks (P.lv+1)=some f:=hf
    obtain ⟨q0,a1,a2⟩:=W.kept _ f hf
    obtain ⟨e,q',a3,a4⟩:=G.old f q0 a1
    have hlt2:P.lv+1 < q.lv:=hlt
    rw [a3] at hq;cases hq
    omega
   ·have hf:Xx w.forks (P.lv+1)=some f:=hf
    obtain ⟨q0,a1,a2⟩:=W.kept _ f hf
    obtain ⟨e,q',a3,a4⟩:=G.old f q0 a1
    rw [a3] at hq;cases hq
    rw [hl] at hf
    exact W.full n p (pln f hf) hn l' f' hf' l (by omega) b
  ·rcases hsub k h0 hm with a | ⟨a,b⟩
   ·exact a
   ·exact absurd b (hne a)
  ·have e:S.pg.length=k:=Option.some.inj e
   subst e
   refine ⟨(T.untold_new (Nat.le_refl _)).halves hn hl fun h0 hm=>?_,.inr (Nat.le_refl _)⟩
   obtain ⟨j,hj,e⟩:=List.mem_iff_getElem.mp hm
   obtain ⟨c,z,a1,a2,_⟩:=hk h0 j _ (List.getElem?_eq_getElem hj)
   rw [e] at a1
   have:S.pg.length=c:=by omega
   have:=JL a2;omega
end
end TR
namespace TR
section
variable {S:Sh} {bg:Bg} {n:Nat} {p:Pg} {w:Wk}
theorem Qa2 {ks:List Int} (h:ks.Pairwise (· < ·)) {k x:Int} {i:Nat} (hi:i < cLe ks k) (hx:ks[i]?=some x):x<=k:=by
 have e:(ks.take (cLe ks k))[i]?=some x:=by rw [List.getElem?_take_of_lt hi];exact hx
 rw [(YH h k).1] at e
 simpa using (List.mem_filter.mp (List.mem_of_getElem? e)).2
theorem kL (T:Tree S bg) (W:WOk S bg w) (hpl:w.place=some n∨w.place=none) (hn:S.pg[n]?=some p) (hg:w.goal<=p.lv) {s:Nat} {q:Pg} {h:Int} (hh:p.hi=some h) (hs:S.pg[s]?=some q) (hl:q.lv=p.lv) (hb:bg s=some h) {w':Wk} (e1:w'.place=some s) (e2:w'.forks=w.forks) (e3:w'.goal=w.goal) (e4:h<=w'.aim) (e5:0 < w.goal->w'.newp=w.newp/\w'.aim=w.aim):WOk S bg w' where
 at_:=fun m hm=>by
  rw [e1] at hm;cases hm
  exact ⟨q,hs,by omega,fun v hv=>by rw [hb] at hv;cases hv;exact e4⟩
 none_:=fun hm=>by rw [e1] at hm;cases hm
 kept:=fun l f hf=>W.kept l f (e2▸hf)
 above:=fun m z hm hz l f hf hlt=>by
  rw [e1] at hm;cases hm
  rw [hs] at hz;cases hz
  rw [e2] at hf
  rcases hpl with hp | hp
  ·refine (W.above n p hp hn l f hf (by omega)).trans fun v hv=>⟨h,hb,?_⟩
   have:=(T.page n p hn).wide h hh v hv;omega
  ·have:=W.none_ hp l f hf;omega
 chain:=fun l f l' f' hf hf' a b=>W.chain l f l' f' (e2▸hf) (e2▸hf') (e3▸a) b
 gap:=fun m z hm hz hlt l f hf=>by
  rw [e1] at hm;cases hm
  rw [hs] at hz;cases hz
  rw [e2] at hf
  rcases hpl with hp | hp
  ·rcases W.gap n p hp hn (by omega) l f hf with a | a
   ·exact .inl (by omega)
   ·exact .inr (by omega)
  ·exact .inl (by have:=W.none_ hp l f hf;omega)
 full:=fun m z hm hz l' f' hf' l a b=>by
  rw [e1] at hm;cases hm
  rw [hs] at hz;cases hz
  rw [e2] at hf' ⊢
  rcases hpl with hp | hp
  ·exact W.full n p hp hn l' f' hf' l (by omega) b
  ·have:=W.none_ hp l' f' hf';omega
 tell:=fun h0=>by
  rw [e3] at h0 ⊢
  obtain ⟨k,z,a1,a2,a3,a4⟩:=W.tell h0
  obtain ⟨b1,b2⟩:=e5 h0
  exact ⟨k,z,b1.trans a1,a2,a3,by rw [b2];exact a4⟩
theorem QdV (T:Tree S bg) (W:WOk S bg w) (hpl:w.place=some n∨(w.place=none/\n=S.top)) (hn:S.pg[n]?=some p) (hg:w.goal < p.lv) {c:Nat} {q:Pg} (hc:S.pg[c]?=some q) (hl:q.lv+1=p.lv) (hb:bg c=J8 (bg n) p.ks (cLe p.ks w.aim)):WOk S bg { w with forks:=je w.forks p.lv n,place:=some c }:=by
  have ok:=T.page n p hn
  have lb:leBB (bg n) (bg c):=by
    rw [hb]
    cases e:cLe p.ks w.aim with
    | zero=>exact leBB.refl _
    | succ i =>
      intro v hv
      have hi:i < p.ks.length:=by have:=XA p.ks w.aim;omega
      refine ⟨p.ks[i],List.getElem?_eq_getElem hi,Int.le_of_lt (ok.lowF (by omega) _ (List.getElem_mem hi) v hv)⟩
  have la:leB (bg n) w.aim:=by
    rcases hpl with hp | ⟨_,rfl⟩
    . obtain ⟨p',a1,a2,a3⟩:=W.at_ n hp
      exact a3
    . intro v hv;rw [T.rbg] at hv;cases hv
  have ca:leB (bg c) w.aim:=by
    rw [hb]
    cases e:cLe p.ks w.aim with
    | zero=>exact la
    | succ i=>intro v hv;exact Qa2 ok.sorted (by omega) hv
  have old:∀ l f,Xx w.forks l=some f->l≠p.lv->l < w.goal∨(p.lv < l/\w.place=some n):=fun l f hf hne=>by
    rcases hpl with hp | ⟨hp,_⟩
    . rcases W.gap n p hp hn hg l f hf with a | a
      . exact .inl a
      . exact .inr ⟨a,hp⟩
    . exact .inl (W.none_ hp l f hf)
  have gp:∀ l f,Xx (je w.forks p.lv n) l=some f->(l=p.lv/\f=n)∨(l≠p.lv/\Xx w.forks l=some f):=fun l f hf=>by
    rw [VL] at hf
    by_cases e:l=p.lv
    . rw [if_pos e] at hf;cases hf;exact .inl ⟨e,rfl⟩
    . rw [if_neg e] at hf;exact .inr ⟨e,hf⟩
  refine ⟨fun m hm=>?_,fun hm=>(by cases hm),fun l f hf=>?_,fun m z hm hz l f hf hlt=>?_,fun l f l' f' hf hf' a b=>?_,fun m z hm hz hlt l f hf=>?_,fun m z hm hz l' f' hf' l a b=>?_,W.tell⟩
  . cases hm
    refine ⟨q,hc,?_,ca⟩
    show w.goal<=q.lv;omega
  . rcases gp l f hf with ⟨rfl,rfl⟩ | ⟨_,h⟩
    . exact ⟨p,hn,rfl⟩
    . exact W.kept l f h
  . cases hm
    rw [hc] at hz;cases hz
    rcases gp l f hf with ⟨rfl,rfl⟩ | ⟨hne,h⟩
    . exact lb
    . rcases old l f h hne with a | ⟨a,hp⟩
      . omega
      . exact (W.above n p hp hn l f h a).trans lb
  . have a:w.goal<=l:=a
    rcases gp l f hf with ⟨rfl,rfl⟩ | ⟨hne,h⟩
    . rcases gp l' f' hf' with ⟨rfl,rfl⟩ | ⟨hne',h'⟩
      . omega
      . rcases old l' f' h' hne' with c1 | ⟨c1,hp⟩
        . omega
        . exact W.above _ p hp hn l' f' h' c1
    . rcases gp l' f' hf' with ⟨rfl,rfl⟩ | ⟨hne',h'⟩
      . rcases old l f h hne with c1 | ⟨c1,hp⟩<;>omega
      . exact W.chain l f l' f' h h' a b
  . cases hm
    rw [hc] at hz;cases hz
    show l < w.goal∨_
    rcases gp l f hf with ⟨rfl,rfl⟩ | ⟨hne,h⟩
    . exact .inr (by omega)
    . rcases old l f h hne with c1 | ⟨c1,hp⟩
      . exact .inl c1
      . exact .inr (by omega)
  . cases hm
    rw [hc] at hz;cases hz
    by_cases e:l=p.lv
    . exact ⟨n,by rw [VL,if_pos e]⟩
    . rcases gp l' f' hf' with ⟨rfl,rfl⟩ | ⟨hne,h⟩
      . omega
      . rcases old l' f' h hne with c1 | ⟨c1,hp⟩
        . omega
        . obtain ⟨f,hf⟩:=W.full n p hp hn l' f' h l (by omega) b
          exact ⟨f,by rw [VL,if_neg e];exact hf⟩
theorem Stp.of_rd {S':Sh} {bg':Bg} {w':Wk} {x y:Int} (h:Stp { S with rd:=x,wr:=y } bg w S' bg' w'):Stp S bg w S' bg' w':=⟨h.tree,⟨h.grow.old⟩,h.wok,h.unt,h.new,h.room,h.len⟩
theorem Stp.still (T:Tree S bg) {w':Wk} {x y:Int} (hu:0 < w.goal->∀ k,w.newp=some k->Untold S k) (h:w'.ended=false->WOk S bg w'/\(w'.goal=w.goal/\(0 < w.goal->w'.newp=w.newp))):Stp S bg w { S with rd:=x,wr:=y } bg w' where
 tree:=T.rd x y
 grow:=⟨fun n p h=>⟨rfl,p,h,rfl⟩⟩
 wok:=fun e=>let W:=(h e).1;⟨W.at_,W.none_,W.kept,W.above,W.chain,W.gap,W.full,W.tell⟩
 unt:=fun k v hu _ _=>hu
 new:=fun k e g0 hk=>by
  obtain ⟨_,e1,e2⟩:=h e
  rw [e1] at g0
  rw [e2 g0] at hk
  exact ⟨hu g0 k hk,.inl ⟨g0,hk⟩⟩
 room:=rfl
 len:=Nat.le_succ _
theorem WOk.rd (W:WOk S bg w) (x y:Int):WOk { S with rd:=x,wr:=y } bg w:=⟨W.at_,W.none_,W.kept,W.above,W.chain,W.gap,W.full,W.tell⟩
theorem Qas (T:Tree S bg) (W:WOk S bg w) (hw:w.ended=false) (hu:0 < w.goal->∀ k,w.newp=some k->Untold S k):∃ r S' w' bg',qZ S w=some (r,S',w')/\Stp S bg w S' bg' w':=by
  obtain ⟨n,hn0,hpl⟩:∃ n,w.place.getD S.top=n/\(w.place=some n∨(w.place=none/\n=S.top)):=by
    cases e:w.place with
    | none=>exact ⟨S.top,rfl,.inr ⟨rfl,rfl⟩⟩
    | some m=>exact ⟨m,rfl,.inl rfl⟩
  obtain ⟨p,hn⟩:∃ p,S.pg[n]?=some p:=by
    rcases hpl with hp | ⟨_,rfl⟩
    . obtain ⟨p,a,_⟩:=W.at_ n hp;exact ⟨p,a⟩
    . obtain ⟨p,a,_⟩:=T.root;exact ⟨p,a⟩
  have hpl':w.place=some n∨w.place=none:=hpl.imp id And.left
  have ok:=T.page n p hn
  have la:leB (bg n) w.aim:=by
    rcases hpl with hp | ⟨_,rfl⟩
    . obtain ⟨p',a1,a2,a3⟩:=W.at_ n hp
      exact a3
    . intro v hv;rw [T.rbg] at hv;cases hv
  unfold qZ
  rw [if_neg (by rw [hw];simp),hn0]
  simp only [hn]
  by_cases hr:w.place=none/\p.lv < w.goal
  . rw [if_pos hr]
    have htop:n=S.top:=by
      rcases hpl with hp | ⟨_,e⟩
      . rw [hr.1] at hp;cases hp
      . exact e
    subst htop
    obtain ⟨k,q,a1,a2,a3,a4⟩:=W.tell (by omega)
    simp only [a1]
    have lev:q.lv<=p.lv:=by
      obtain ⟨r,b1,b2⟩:=T.root
      rw [hn] at b1;cases b1;exact b2 k q a2
    obtain ⟨T',G⟩:=T.raise (x:=S.rd+1) (y:=S.wr+1) hn a2 (by omega) a4
    refine ⟨_,_,_,_,rfl,T',G,fun h=>(by cases h),fun k' v hu' hb hne m z hm h0 hk'=>?_,fun k' h=>(by cases h),rfl,by simp⟩
    rcases Xk hm with ⟨rfl,rfl⟩ | hm
    . have hk2:(k':Int)=(S.top:Int)∨(k':Int)=(k:Int):=by simpa using hk'
      rcases hk2 with e | e
      . have:k'=S.top:=by omega
        subst this;rw [T.rbg] at hb;cases hb
      . have:k'=k:=by omega
        subst this;exact hne (by omega) a1
    . exact hu' m z hm h0 hk'
  . rw [if_neg hr]
    have hg:w.goal<=p.lv:=by
      rcases hpl with hp | ⟨hp,_⟩
      . obtain ⟨p',b1,b2,_⟩:=W.at_ n hp
        rw [hn] at b1;cases b1;exact b2
      . exact Nat.le_of_not_lt fun h=>hr ⟨hp,h⟩
    cases hb:JM p w.aim with
    | true =>
      rw [if_pos rfl]
      rcases T.link n p hn with ⟨a,b⟩ | ⟨h,s,q,a,b,c,d,e⟩
      . unfold JM at hb;rw [a] at hb;cases hb
      . simp only [b]
        have ha:h<=w.aim:=by unfold JM at hb;rw [a] at hb;simpa using hb
        exact ⟨_,_,_,bg,rfl,Stp.still T hu fun _=>⟨kL T W hpl' hn hg a c d e rfl rfl rfl ha fun _=>⟨rfl,rfl⟩,rfl,fun _=>rfl⟩⟩
    | false =>
      have lh:=uI hb
      rw [if_neg (by simp)]
      by_cases hd:w.goal < p.lv
      . rw [if_pos hd]
        have pl:=ok.parts
        rw [if_neg (by omega)] at pl
        have hc:cLe p.ks w.aim < p.ps.length:=by have:=XA p.ks w.aim;omega
        obtain ⟨c,q,a1,a2,a3,a4⟩:=T.kid n p hn (by omega) _ _ (List.getElem?_eq_getElem hc)
        rw [List.getElem?_eq_getElem hc,a1]
        simp only [Int.toNat_natCast]
        exact ⟨_,_,_,bg,rfl,Stp.still T hu fun _=>⟨QdV T W hpl hn hd a2 a3 a4,rfl,fun _=>rfl⟩⟩
      . rw [if_neg hd]
        have hlv:p.lv=w.goal:=by omega
        by_cases h0:0 < w.goal
        . rw [if_pos h0]
          obtain ⟨k,q,a1,a2,a3,a4⟩:=W.tell h0
          simp only [a1]
          obtain ⟨n1,n2⟩:=Qdp T hn a2 (by omega) a4 (hu h0 k a1)
          have lt:ltB (bg n) w.aim:=fun v hv=>by
            have:=la v hv
            have:v≠w.aim:=fun e=>n2 (by rw [hv,e])
            omega
          obtain ⟨bg',st⟩:=Ky (S:={ S with rd:=S.rd+1,wr:=S.wr }) (P:=ZG p w.aim k) (T.rd _ _) hn rfl rfl rfl (gS ok (by omega) n1 lt lh) (yR ok) (fun _=>GN T hn a2 (by omega) a4) (W.rd _ _) hw hpl' hlv (fun k' _ hm=>by
            rcases List.mem_append.mp hm with hm | hm
            . exact .inl (List.mem_of_mem_take hm)
            . rcases List.mem_cons.mp hm with e | hm
              . have:k'=k:=by omega
                subst this;exact .inr ⟨h0,a1⟩
              . exact .inl (List.mem_of_mem_drop hm))
          exact ⟨_,_,_,bg',rfl,st.of_rd⟩
        . rw [if_neg h0]
          have hz:p.lv=0:=by omega
          have g0:w.goal=0:=by omega
          unfold Jz
          cases hdd:w.deed with
          | find k=>exact ⟨_,_,_,bg,rfl,Stp.still T hu fun h=>(by cases h)⟩
          | put k x =>
            have W1:WOk { S with rd:=S.rd+1,wr:=S.wr } bg ({ deed:=.put k x,aim:=w.aim,goal:=w.goal,place:=w.place,forks:=w.forks,newp:=w.newp,worth:=QV p w.aim,pairs:=w.pairs,ended:=w.ended }:Wk):=⟨W.at_,W.none_,W.kept,W.above,W.chain,W.gap,W.full,W.tell⟩
            obtain ⟨bg',st⟩:=Ky (S:={ S with rd:=S.rd+1,wr:=S.wr }) (w:=({ deed:=.put k x,aim:=w.aim,goal:=w.goal,place:=w.place,forks:=w.forks,newp:=w.newp,worth:=QV p w.aim,pairs:=w.pairs,ended:=w.ended }:Wk)) (P:=QY p w.aim x) (T.rd _ _) hn rfl rfl rfl (ub ok hz la lh) (xR ok) (fun h=>(by omega)) W1 hw hpl' hlv (fun k' h=>(by omega))
            exact ⟨_,_,_,bg',rfl,⟨st.tree,⟨st.grow.old⟩,st.wok,st.unt,st.new,st.room,st.len⟩⟩
          | cut k =>
            dsimp only
            by_cases hs:(QV p w.aim).isSome=true
            . rw [if_pos hs]
              obtain ⟨T',G⟩:=T.write (x:=S.rd+1) (y:=S.wr+1) (p':=without p w.aim) hn rfl rfl rfl (gW ok hz) (fun h=>(by omega))
              exact ⟨_,_,_,bg,rfl,T',G,fun h=>(by cases h),fun k' v hu' _ _=>hu'.set hn rfl fun h=>(by omega),fun k' h=>(by cases h),rfl,by simp⟩
            . rw [if_neg hs]
              exact ⟨_,_,_,bg,rfl,Stp.still T hu fun h=>(by cases h)⟩
          | stretch l h =>
            dsimp only
            rcases T.link n p hn with ⟨a,b⟩ | ⟨x,s,q,a,b,c,d,e⟩
            . simp only [a,b]
              exact ⟨_,_,_,bg,rfl,Stp.still T hu fun h=>(by cases h)⟩
            . simp only [a,b]
              by_cases hx:h<=x
              . rw [if_pos hx]
                exact ⟨_,_,_,bg,rfl,Stp.still T hu fun h=>(by cases h)⟩
              . rw [if_neg hx]
                exact ⟨_,_,_,bg,rfl,Stp.still T hu fun _=>⟨kL T W hpl' hn hg a c d e rfl rfl rfl (Int.le_refl _) (fun z=>(by omega)),rfl,fun _=>rfl⟩⟩
end
end TR
namespace TR
theorem QcV (fs:List (Nat×Nat)) (k v:Nat):(je fs k v).length<=fs.length+1:=by
 unfold je;split<;>simp
theorem xL (S:Sh) (w:Wk) (n:Nat) (P:Pg):(Q8 S w n P).2.2.forks=w.forks/\(Q8 S w n P).2.2.pairs=w.pairs:=by
 unfold Q8;split<;>exact ⟨rfl,rfl⟩
theorem vH (p:Pg) (l h:Int):(QZ p l h).length<=p.ks.length:=by
 unfold QZ
 refine Nat.le_trans (List.length_filter_le _ _) ?_
 rw [List.length_zip];omega
theorem uY (S:Sh) (w:Wk) (n:Nat) (p:Pg):(Jz S w n p).2.2.forks=w.forks/\(Jz S w n p).2.2.pairs.length<=w.pairs.length+p.ks.length:=by
  obtain ⟨deed,aim,goal,place,forks,newp,worth,pairs,ended⟩:=w
  cases deed with
  | find k=>exact ⟨rfl,by simp [Jz]⟩
  | put k x =>
    have:=xL S ⟨.put k x,aim,goal,place,forks,newp,QV p aim,pairs,ended⟩ n (QY p aim x)
    refine ⟨this.1,?_⟩
    show (Q8 S ⟨.put k x,aim,goal,place,forks,newp,QV p aim,pairs,ended⟩ n (QY p aim x)).2.2.pairs.length<=_
    rw [this.2]
    exact Nat.le_add_right _ _
  | cut k=>exact ⟨rfl,by simp [Jz]⟩
  | stretch l h =>
    have pl:=vH p l h
    unfold Jz
    dsimp only
    split
    . split
      . exact ⟨rfl,by simp;omega⟩
      . exact ⟨rfl,by simp;omega⟩
    . exact ⟨rfl,by simp;omega⟩
theorem Uu {S S':Sh} {w w':Wk} {r:Row} {m:Nat} (hk:∀ (n:Nat) (p:Pg),S.pg[n]?=some p->p.ks.length<=m) (h:qZ S w=some (r,S',w')):w'.forks.length<=w.forks.length+1/\w'.pairs.length<=w.pairs.length+m:=by
 unfold qZ at h
 split at h
 ·cases h;exact ⟨by omega,by omega⟩
 ·split at h
  ·cases h
  ·rename_i p hp
   have kl:=hk _ p hp
   split at h
   ·split at h
    ·cases h
    ·cases h;exact ⟨by simp,by simp⟩
   ·split at h
    ·split at h
     ·cases h
     ·cases h;exact ⟨by simp,by simp⟩
    ·split at h
     ·split at h
      ·cases h
      ·cases h;exact ⟨QcV _ _ _,by simp⟩
     ·split at h
      ·split at h
       ·cases h
       ·rename_i c hc
        have z:=xL { S with rd:=S.rd+1 } w (w.place.getD S.top) (ZG p w.aim c)
        have e:=Option.some.inj h
        have e2:(Q8 { S with rd:=S.rd+1 } w (w.place.getD S.top) (ZG p w.aim c)).2.2=w':=congrArg (fun t=>t.2.2) e
        rw [e2] at z
        exact ⟨by rw [z.1];omega,by rw [z.2];omega⟩
      ·have e:=Option.some.inj h
       have z:=uY { S with rd:=S.rd+1 } w (w.place.getD S.top) p
       rw [e] at z
       have z2:w'.pairs.length<=w.pairs.length+p.ks.length:=z.2
       have z1:w'.forks=w.forks:=z.1
       exact ⟨by rw [z1];omega,by omega⟩
def fresh (d:Deed):Wk:=⟨d,d.key,0,none,[],none,none,[],false⟩
end TR
namespace D
open PySem PySem.Spec PyProof.Rows L2
def oN:Option Nat->DV
 | none=>.non
 | some n=>.int n
def pgD (p:TR.Pg):DV:=.tup [.int p.lv,.tup (p.ks.map .int),.tup (p.ps.map .int),opt p.hi,oN p.sd]
def ZM:TR.Deed->DV
 | .find k=>.tup [.str "find", .int k]
 | .put k w=>.tup [.str "put", .int k,.int w]
 | .cut k=>.tup [.str "cut", .int k]
 | .stretch l h=>.tup [.str "stretch", .int l,.int h]
def fkD (fs:List (Nat×Nat)):List (Key×DV):=fs.map fun p=>(.inl p.1,.int p.2)
def prD (ps:List (Int×Int)):List DV:=ps.map fun p=>.tup [.int p.1,.int p.2]
def wkF (s f q:Nat) (d a g p n w e:DV):List (Str×DV):=[("shelf", .ref s),("deed", d),("aim", a),("goal", g),("place", p),("forks", .ref f),("new_page", n),("worth", w),("pairs", .ref q),("ended", e)]
def wkO (s f q:Nat) (w:TR.Wk):OV:=.ins "Walk" (wkF s f q (ZM w.deed) (.int w.aim) (.int w.goal) (oN w.place) (oN w.newp) (opt w.worth) (.bl w.ended))
def Ve:TR.Row->DV
 | .non=>.non
 | .side n t=>.tup [.str "side", .int n,.int t]
 | .down n t=>.tup [.str "down", .int n,.int t]
 | .found n w=>.tup [.str "found", .int n,opt w]
 | .put n w k=>.tup [.str "put", .int n,opt w,oN k]
 | .cut n w=>.tup [.str "cut", .int n,opt w]
 | .read n ps none=>.tup [.str "read", .int n,.tup (prD ps),.non,.non]
 | .read n ps (some (t,a))=>.tup [.str "read", .int n,.tup (prD ps),.int t,.int a]
 | .told n k=>.tup [.str "told", .int n,oN k]
 | .raised n t=>.tup [.str "raised", .int n,.int t]
section
variable (s f q:Nat) (d a g p n w e x:DV)
theorem Qbv:List.lookup ("shelf" : Str) (wkF s f q d a g p n w e)=some (.ref s):=by rfl
theorem xS:List.lookup ("deed" : Str) (wkF s f q d a g p n w e)=some d:=by rfl
theorem YI:List.lookup ("aim" : Str) (wkF s f q d a g p n w e)=some a:=by rfl
theorem uh:List.lookup ("goal" : Str) (wkF s f q d a g p n w e)=some g:=by rfl
theorem qp:List.lookup ("place" : Str) (wkF s f q d a g p n w e)=some p:=by rfl
theorem KF:List.lookup ("forks" : Str) (wkF s f q d a g p n w e)=some (.ref f):=by rfl
theorem GR:List.lookup ("new_page" : Str) (wkF s f q d a g p n w e)=some n:=by rfl
theorem qq:List.lookup ("worth" : Str) (wkF s f q d a g p n w e)=some w:=by rfl
theorem Qbu:List.lookup ("pairs" : Str) (wkF s f q d a g p n w e)=some (.ref q):=by rfl
theorem qo:List.lookup ("ended" : Str) (wkF s f q d a g p n w e)=some e:=by rfl
theorem QeU:(wkF s f q d a g p n w e).length=10:=rfl
theorem Qdv:List.lookup ("go_on" : Str) (wkF s f q d a g p n w e)=none:=by rfl
theorem Qgs:List.lookup ("do_deed" : Str) (wkF s f q d a g p n w e)=none:=by rfl
theorem Qgt:List.lookup ("tell_fork" : Str) (wkF s f q d a g p n w e)=none:=by rfl
theorem Qgu:List.lookup ("raise_root_over" : Str) (wkF s f q d a g p n w e)=none:=by rfl
theorem Qdw:List.lookup ("settle" : Str) (wkF s f q d a g p n w e)=none:=by rfl
theorem Qgv:List.lookup ("find_worth" : Str) (wkF s f q d a g p n w e)=none:=by rfl
theorem Qgw:List.lookup ("put_pair" : Str) (wkF s f q d a g p n w e)=none:=by rfl
theorem Qgx:List.lookup ("cut_key" : Str) (wkF s f q d a g p n w e)=none:=by rfl
theorem Qgy:List.lookup ("read_pairs" : Str) (wkF s f q d a g p n w e)=none:=by rfl
theorem Qaw:List.lookup ("step" : Str) (wkF s f q d a g p n w e)=none:=by rfl
theorem GQ:List.lookup ("over" : Str) (wkF s f q d a g p n w e)=none:=by rfl
theorem QeV:List.lookup ("answer" : Str) (wkF s f q d a g p n w e)=none:=by rfl
end
theorem kH (fs:List (Nat×Nat)) (k v:Nat):JT (fkD fs) (.inl (k:Int)) (.int v)=fkD (TR.je fs k v):=by
 unfold JT TR.je
 have e:((fkD fs).any fun kv=>decide (kv.1=(.inl (k:Int):Key)))=fs.any fun p=>decide (p.1=k):=by
  unfold fkD
  rw [List.any_map]
  congr 1
  funext p
  simp only [Function.comp]
  congr 1
  simp
  omega
 rw [e]
 by_cases h:(fs.any fun p=>decide (p.1=k))=true
 ·rw [if_pos h,if_pos h]
  unfold fkD
  rw [List.map_map,List.map_map]
  apply List.map_congr_left
  intro p _
  simp only [Function.comp]
  by_cases q:p.1=k
  ·simp [q]
  ·have:¬ ((p.1:Int)=(k:Int)):=by omega
   simp [q,this]
 ·rw [if_neg h,if_neg h]
  simp [fkD]
theorem QdR (fs:List (Nat×Nat)) (k:Nat):Jw (fkD fs) (.inl (k:Int))=(TR.Xx fs k).map fun v=>.int v:=by
  induction fs with
  | nil=>rfl
  | cons p r ih =>
    rw [show fkD (p::r)=(.inl (p.1:Int),.int p.2)::fkD r from rfl,KE,ih]
    unfold TR.Xx
    rw [List.find?_cons]
    by_cases q:p.1=k
    . simp [q]
    . have:¬ ((p.1:Int)=(k:Int)):=by omega
      simp [q,this]
theorem kG (fs:List (Nat×Nat)):(fkD fs).length=fs.length:=List.length_map _
end D
namespace D
open PySem PySem.Spec PyProof.Rows L2
section
variable {c f m:Str} {o e:DEx} {fa:DAx} {env:En} {hp hp1 hp2:Hs} {a n:Nat} {fs:List (Str×DV)} {d v:DV} {ds:List DV} {F:List DV->M DV}
theorem Gv {α:Type} {k:Nat->List (Str×DV)->M α} (h:hp[a]?=some (.ins c fs)):onI c (.ref a) k hp=k a fs hp:=by
 show (Jn a >>= _) hp=_
 rw [Qi (Z2 h)]
 show (QE (decide (c=c)) >>= fun _=>k a fs) hp=_
 rw [decide_eq_true rfl];rfl
theorem JE (he:e env hp=some (v,hp1)) (ho:o env hp1=some (.ref a,hp1)) (h:hp1[a]?=some (.ins c fs)) (hl:fs.length < 1000):Zp c f o e env hp=some ((.nx,env),hp1.set a (.ins c (Xp f v fs))):=by
 unfold Zp
 rw [Qi he,Qi ho]
 unfold jK
 have:onI c (.ref a) (fun n fs=>do QE (decide (fs.length < 1000));jL n (.ins c (Xp f v fs))) hp1=some ((),hp1.set a (.ins c (Xp f v fs))):=by
  rw [Gv h,decide_eq_true hl];rfl
 rw [Qi this];rfl
theorem Zn (ho:o env hp=some (.ref a,hp1)) (h:hp1[a]?=some (.ins c fs)) (hf:fs.lookup f=some d):QS c f o env hp=some (d,hp1):=by
 unfold QS
 rw [Qi ho]
 unfold jC
 rw [Gv h,hf];rfl
theorem Q4 (ho:o env hp=some (.ref a,hp)) (h:hp[a]?=some (.ins c fs)) (hm:fs.lookup m=none) (ha:fa env hp=some (ds,hp1)) (hn:ds.length+1=n) (hF:F (.ref a::ds) hp1=some (d,hp2)):QF c m n F o fa env hp=some (d,hp2):=by
 unfold QF
 rw [Qi ho]
 have:onI c (.ref a) (fun _ fs=>QE (fs.lookup m).isNone) hp=some ((),hp):=by rw [Gv h,hm];rfl
 rw [Qi this,Qi ha,decide_eq_true hn]
 show (QE true >>= fun _=>F (.ref a::ds)) hp1=_
 exact hF
theorem Xc:Qm env hp=some ([],hp):=rfl
theorem ZJ (h:e env hp=some (v,hp1)):Qc e Qm env hp=some ([v],hp1):=by unfold Qc;rw [Qi h];rfl
theorem ZQ {e':DEx} {v':DV} (h:e env hp=some (v,hp1)) (h':e' env hp1=some (v',hp2)):Qc e (Qc e' Qm) env hp=some ([v,v'],hp2):=by
 have:=ZJ h'
 unfold Qc at this ⊢;rw [Qi h,Qi this];rfl
theorem ZK {e' e'':DEx} {v' v'':DV} {hp3:Hs} (h:e env hp=some (v,hp1)) (h':e' env hp1=some (v',hp2)) (h'':e'' env hp2=some (v'',hp3)):Qc e (Qc e' (Qc e'' Qm)) env hp=some ([v,v',v''],hp3):=by
 have:=ZQ h' h''
 unfold Qc at this ⊢;rw [Qi h,Qi this];rfl
theorem Qe {i:Nat} (h:env[i]?=some (.val d)):Qb i env hp=some (d,hp):=by unfold Qb;rw [h];rfl
theorem QW {k:Nat} (ha:fa env hp=some (ds,hp1)) (hk:ds.length=k) (hF:F ds hp1=some (d,hp2)):Qu k F fa env hp=some (d,hp2):=by
 unfold Qu;rw [Qi ha,decide_eq_true hk];exact hF
theorem Q9 {c:DTx} {f g:DSx} (h:c env hp=some (true,hp1)):sIf c f g env hp=f env hp1:=by rw [Qc1 h];rfl
theorem QN {c:DTx} {f g:DSx} (h:c env hp=some (false,hp1)):sIf c f g env hp=g env hp1:=by rw [Qc1 h];rfl
theorem QO:Q5 env hp=some ((.nx,env),hp):=rfl
theorem X8 {i:Nat} (h:hp[a]?=some (.lst ds)) (hd:ds[i]?=some d):ixG (.ref a) (.int i) hp=some (d,hp):=by
 show (Jn a >>= _) hp=_
 rw [Qi (Z2 h)]
 show (asI (.int (i:Int)) >>= fun i=>YT (atI ds i)) hp=_
 simp only [asI,pure_bind,zP hd];rfl
end
theorem ku {o:DEx} {fa:DAx} {env:En} {hp:Hs} {a:Nat} {fs:List (Nat×Nat)} {j:Nat} (ho:o env hp=some (.ref a,hp)) (h:hp[a]?=some (.dic (fkD fs))) (ha:fa env hp=some ([.int (j:Int)],hp)):JX "dict" J5 o fa env hp=some (oN (TR.Xx fs j),hp):=by
 unfold JX
 rw [Qi ho]
 have e2:Xy "dict" (.ref a) hp=some ((),hp):=by
  show (Jn a >>= _) hp=_
  rw [Qi (Z2 h)];rfl
 rw [Qi e2,Qi ha]
 show (Jn a >>= _) hp=_
 rw [Qi (Z2 h)]
 show some (((Jw (fkD fs) (.inl (j:Int))).getD .non),hp)=_
 rw [QdR]
 cases TR.Xx fs j<;>rfl
theorem wl {s f q:Nat} {d a g p n w e:DV}:(wkF s f q d a g p n w e).length < 1000:=by rw [QeU];decide
theorem ZV {xs:List DV} {i:Nat} {d:DV} (h:xs[i]?=some d) (hp:Hs):ixG (.tup xs) (.int i) hp=some (d,hp):=by
 show ixD (.tup xs) (.int i) hp=_
 simp only [ixD,zP h];rfl
theorem YU (p:TR.Pg) (hp:Hs):ixG (pgD p) (.int 0) hp=some (.int p.lv,hp):=ZV (i:=0) rfl hp
theorem XD (p:TR.Pg) (hp:Hs):ixG (pgD p) (.int 1) hp=some (.tup (p.ks.map .int),hp):=ZV (i:=1) rfl hp
theorem qK (p:TR.Pg) (hp:Hs):ixG (pgD p) (.int 2) hp=some (.tup (p.ps.map .int),hp):=ZV (i:=2) rfl hp
theorem jG (p:TR.Pg) (hp:Hs):ixG (pgD p) (.int 3) hp=some (opt p.hi,hp):=ZV (i:=3) rfl hp
theorem zB (p:TR.Pg) (hp:Hs):ixG (pgD p) (.int 4) hp=some (oN p.sd,hp):=ZV (i:=4) rfl hp
theorem QbO (d:TR.Deed) (hp:Hs):ixG (ZM d) (.int 1) hp=some (.int d.key,hp):=by cases d<;>exact ZV (i:=1) rfl hp
end D
namespace D
open PySem PySem.Spec PyProof.Rows L2
section
variable {e e' e'' e3 e4:DEx} {fa:DAx} {env:En} {hp hp1 hp2 hp3 hp4 hp5:Hs} {v v' v'' v3 v4 d:DV} {ds:List DV}
theorem Zr (ha:fa env hp=some (ds,hp1)) (hs:ds.length<=100000):Q3 fa env hp=some (.tup ds,hp1):=by
 unfold Q3
 rw [Qi ha]
 have:qY ds=true:=decide_eq_true hs
 rw [this];rfl
theorem yw (h:e env hp=some (v,hp1)) (h':e' env hp1=some (v',hp2)) (h'':e'' env hp2=some (v'',hp3)) (h3:e3 env hp3=some (v3,hp4)):Qc e (Qc e' (Qc e'' (Qc e3 Qm))) env hp=some ([v,v',v'',v3],hp4):=by
 have:=ZK h' h'' h3
 unfold Qc at this ⊢;rw [Qi h,Qi this];rfl
theorem jh (h:e env hp=some (v,hp1)) (h':e' env hp1=some (v',hp2)) (h'':e'' env hp2=some (v'',hp3)) (h3:e3 env hp3=some (v3,hp4)) (h4:e4 env hp4=some (v4,hp5)):Qc e (Qc e' (Qc e'' (Qc e3 (Qc e4 Qm)))) env hp=some ([v,v',v'',v3,v4],hp5):=by
 have:=yw h' h'' h3 h4
 unfold Qc at this ⊢;rw [Qi h,Qi this];rfl
end
theorem xY {t:DV->M Bool} {f:DV->M DV} {p:DV->Bool} {hp:Hs} (ds:List DV) (ht:∀ d∈ds,t d hp=some (p d,hp)) (hf:∀ d∈ds,f d hp=some (d,hp)) (hl:ds.length < 100000):ZR (nxD ds) t f 100000 0 hp=some (ds.filter p,hp):=by
  suffices h:∀ (m i n:Nat),m+i=ds.length->m < n->ZR (nxD ds) t f n i hp=some ((ds.drop i).filter p,hp) by simpa using h ds.length 0 100000 rfl hl
  intro m
  induction m with
  | zero =>
    intro i n e hn'
    obtain ⟨n,rfl⟩:∃ k,n=k+1:=⟨n - 1,by omega⟩
    have:i=ds.length:=by omega
    subst this
    have e1:=XY ds ds.length (Nat.le_refl _) hp
    rw [show ds[ds.length]?=none by simp] at e1
    rw [ZR,Qi e1,List.drop_length]
    rfl
  | succ m ih =>
    intro i n e hn'
    obtain ⟨n,rfl⟩:∃ k,n=k+1:=⟨n - 1,by omega⟩
    have hlt:i < ds.length:=by omega
    have e1:=XY ds i (by omega) hp
    rw [List.getElem?_eq_getElem hlt] at e1
    have hi:=ih (i+1) n (by omega) (by omega)
    rw [ZR,Qi e1]
    simp only
    rw [Qi (ht ds[i] (List.getElem_mem hlt)),List.drop_eq_getElem_cons hlt]
    cases q:p ds[i] with
    | false=>rw [List.filter_cons_of_neg (by simp [q])];simpa using hi
    | true =>
      rw [List.filter_cons_of_pos q]
      simp only [if_true]
      rw [Qi (hf ds[i] (List.getElem_mem hlt)),Qi hi]
      rfl
theorem Vt:∀ (ks ps:List Int),zO (ks.map .int) (ps.map .int)=prD (ks.zip ps)
  | [],_=>by cases ‹List Int› <;> rfl
  | _::_,[]=>rfl
  | k::ks,p::ps=>by
    show .tup [.int k,.int p]::zO (ks.map .int) (ps.map .int)=_
    rw [Vt ks ps];rfl
def vJ (l h:Int):DV->Bool
 | .tup [.int x,_]=>decide (l<=x)&&decide (x < h)
 | _=>false
theorem V4 (l h:Int) (zs:List (Int×Int)):(prD zs).filter (vJ l h)=prD (zs.filter fun q=>decide (l<=q.1)&&decide (q.1 < h)):=by
 unfold prD
 rw [List.filter_map];rfl
theorem QaV {o:DEx} {fa:DAx} {env:En} {hp:Hs} {a b:Nat} {ds es:List DV} (ho:o env hp=some (.ref a,hp)) (h:hp[a]?=some (.lst ds)) (ha:fa env hp=some ([.ref b],hp)) (hb:hp[b]?=some (.lst es)) (hl:ds.length+es.length<=100000):JX "list" xr o fa env hp=some (.non,hp.set a (.lst (ds++es))):=by
 unfold JX
 rw [Qi ho]
 have e2:Xy "list" (.ref a) hp=some ((),hp):=by
  show (Jn a >>= _) hp=_
  rw [Qi (Z2 h)];rfl
 rw [Qi e2,Qi ha]
 show (Jn a >>= _) hp=_
 rw [Qi (Z2 h)]
 show (Jn b >>= _) hp=_
 rw [Qi (Z2 hb)]
 show (QE (decide (ds.length+es.length<=lim)) >>= fun _=>jL a (.lst (ds++es)) >>= fun _=>pure DV.non) hp=_
 rw [show decide (ds.length+es.length<=lim)=true from decide_eq_true hl];rfl
theorem qL (zs:List (Int×Int)):(prD zs).length=zs.length:=List.length_map _
theorem Qes (zs ys:List (Int×Int)):prD zs++prD ys=prD (zs++ys):=by simp [prD]
theorem yk (o:Option Int):isD (opt o) .non=pure (.bl o.isNone):=by cases o<;>rfl
theorem gk (o:Option Int):Yt (opt o) .non=pure (.bl o.isSome):=by cases o<;>rfl
theorem VX (o:Option Nat):isD (oN o) .non=pure (.bl o.isNone):=by cases o<;>rfl
theorem kZ {x:Str} (h:PyData.strOk x=true):okP (.str x)=true:=by simp [okP,yD,toP,SeqAt.shaped,PyData.canLay0,PyData.depth,h]
theorem eqS {x y:Str} (hp:Hs) (h1:PyData.strOk x=true) (h2:PyData.strOk y=true) {b:Bool} (h:(x==y)=b):eqG (.str x) (.str y) hp=some (.bl b,hp):=by
 unfold eqG
 have e:y3 (.str x) (.str y) hp=some (x==y,hp):=by
  rw [Vl (kC 39 hp x) (kC 39 hp y) (kZ h1) (kZ h2)];rfl
 rw [Qi e,h];rfl
section
variable {c c':DTx} {e e':DEx} {env:En} {hp hp1:Hs} {b:Bool}
theorem kD (h:c env hp=some (true,hp1)):eOr c c' env hp=some (true,hp1):=by unfold eOr;rw [Qi h];rfl
theorem jm (h:c env hp=some (false,hp1)):eOr c c' env hp=c' env hp1:=by unfold eOr;rw [Qi h];rfl
theorem K4 (h:c env hp=some (true,hp1)):Xf c c' env hp=c' env hp1:=by unfold Xf;rw [Qi h];rfl
theorem K3 (h:c env hp=some (false,hp1)):Xf c c' env hp=some (false,hp1):=by unfold Xf;rw [Qi h];rfl
theorem QgO (h:c env hp=some (true,hp1)):eIf c e e' env hp=e env hp1:=by unfold eIf;rw [Qi h];rfl
theorem QgN (h:c env hp=some (false,hp1)):eIf c e e' env hp=e' env hp1:=by unfold eIf;rw [Qi h];rfl
end
theorem VT {S:TR.Sh} {w:TR.Wk} {i:Nat} {p:TR.Pg} {k:Int} (h:w.deed=.find k):TR.Jz S w i p=(.found i (TR.QV p w.aim),S,{ w with worth:=TR.QV p w.aim,ended:=true }):=by
 cases w;simp only at h;subst h;rfl
theorem Kl {S:TR.Sh} {w:TR.Wk} {i:Nat} {p:TR.Pg} {k x:Int} (h:w.deed=.put k x):TR.Jz S w i p=(.put i (TR.QV p w.aim) (TR.Q8 S { w with worth:=TR.QV p w.aim } i (TR.QY p w.aim x)).1,(TR.Q8 S { w with worth:=TR.QV p w.aim } i (TR.QY p w.aim x)).2.1,(TR.Q8 S { w with worth:=TR.QV p w.aim } i (TR.QY p w.aim x)).2.2):=by
 cases w;simp only at h;subst h;rfl
theorem Kk {S:TR.Sh} {w:TR.Wk} {i:Nat} {p:TR.Pg} {k:Int} (h:w.deed=.cut k):TR.Jz S w i p=(.cut i (TR.QV p w.aim),if (TR.QV p w.aim).isSome=true then { S with pg:=S.pg.set i (TR.without p w.aim),wr:=S.wr+1 } else S,{ w with worth:=TR.QV p w.aim,ended:=true }):=by
 cases w;simp only at h;subst h;rfl
theorem Qa3 {S:TR.Sh} {w:TR.Wk} {i:Nat} {p:TR.Pg} {l h:Int} (e:w.deed=.stretch l h) (h1:p.hi=none):TR.Jz S w i p=(.read i (TR.QZ p l h) none,S,{ w with pairs:=w.pairs++TR.QZ p l h,ended:=true }):=by
 cases w;cases p;simp only at e h1;subst e h1;rfl
theorem Qcg {S:TR.Sh} {w:TR.Wk} {i:Nat} {p:TR.Pg} {l h x:Int} {s:Nat} (e:w.deed=.stretch l h) (h1:p.hi=some x) (h2:p.sd=some s):TR.Jz S w i p=if h<=x then (.read i (TR.QZ p l h) none,S,{ w with pairs:=w.pairs++TR.QZ p l h,ended:=true }) else (.read i (TR.QZ p l h) (some (s,x)),S,{ w with pairs:=w.pairs++TR.QZ p l h,aim:=x,place:=some s }):=by
 cases w;cases p;simp only at e h1 h2;subst e h1 h2;rfl
theorem Qgm {e o j:DEx} {env:En} {hp:Hs} {a l v:Nat} {fs:List (Nat×Nat)} (he:e env hp=some (.int (v:Int),hp)) (ho:o env hp=some (.ref a,hp)) (hj:j env hp=some (.int (l:Int),hp)) (h:hp[a]?=some (.dic (fkD fs))) (hf:fs.length < 5000):Zo e (gSb o j) env hp=some ((.nx,env),hp.set a (.dic (fkD (TR.je fs l v)))):=by
 refine YC he ?_
 unfold gSb
 rw [Qi ho,Qi hj]
 have:=zG (d:=.int (v:Int)) h (show X6 (.int (l:Int))=some (.inl (l:Int)) from rfl) (by rw [kG];omega)
 rw [kH] at this
 rw [Qi this];rfl
end D
namespace D
open PySem PySem.Spec PyProof.Rows L2
section
variable {f g:DEx} {fa:DAx} {env:En} {hp hp1 hp2:Hs} {d x y:DV} {ds:List DV} {F:List DV->M DV}
theorem JD (h:fa env hp=some (ds,hp1)) (hF:F ds hp1=some (d,hp2)):Zl F fa env hp=some (d,hp2):=by unfold Zl;rw [Qi h];exact hF
theorem Qch (ds:List DV) (hp:Hs):Jr [.lst ds] hp=some (.int ds.length,hp):=rfl
theorem Qci (ds:List DV) (hp:Hs):Jr [.tup ds] hp=some (.int ds.length,hp):=rfl
theorem zx {n:Nat} (h:hp[n]?=some (.lst ds)):Jr [.ref n] hp=some (.int ds.length,hp):=by
 show (Jn n >>= _) hp=_
 rw [Qi (Z2 h)];rfl
theorem neI (i j:Int) (hp:Hs):neG (.int i) (.int j) hp=some (.bl (!(i==j)),hp):=by
 unfold neG;rw [Qi (vm i j hp)];rfl
theorem Qd3 (i:Int) (hp:Hs):neG (.int i) (.int i) hp=some (.bl false,hp):=by rw [neI];simp
theorem eqI (i j:Int) (hp:Hs):eqG (.int i) (.int j) hp=some (.bl (i==j),hp):=by
 unfold eqG;rw [Qi (vm i j hp)];rfl
theorem QhI (b:Bool) (hp:Hs):neG (.bl b) (.bl b) hp=some (.bl false,hp):=by
 have e:=Vl (QbQ 39 hp b) (QbQ 39 hp b) (Qcv b) (Qcv b)
 unfold neG;rw [Qi e];cases b<;>rfl
theorem QbV (ks:List Int) (hp:Hs):y3 (.lst (ks.map .int)) (.lst []) hp=some (decide (ks=[]),hp):=by
 have e:=Vl (x:=.lst (ks.map .int)) (y:=.lst []) (y':=.lst []) (QbS 38 hp ks) rfl (vF ks) (vF [])
 have q:=yz ks []
 rw [e]
 show some (PyData.eqvAll (toPs (ks.map .int)) [],hp)=_
 rw [yt]
 exact congrArg (fun b=>some (b,hp)) q
theorem QdP (hp:Hs):eqG (.lst []) (.lst []) hp=some (.bl true,hp):=by
 unfold eqG;rw [Qi (show y3 (.lst []) (.lst []) hp=some (true,hp) from QbV [] hp)];rfl
end
theorem UB {f:DIx} {env:En} {hp hp1:Hs} {ds:List DV} (h:f env hp=some (ds,hp1)):xOf f env hp=some (nxD ds,hp1):=by unfold xOf;rw [Qi h];rfl
end D
namespace D
open PySem PySem.Spec PyProof.Rows L2
section
variable {c:DTx} {b:DSx} {n:Nat} {env env1:En} {hp hp1 hp2:Hs}
end
def nD (r:List Nat):List DV:=r.map fun n:Nat=>DV.int (n:Int)
theorem xV {o e:DEx} {env:En} {hp:Hs} {a:Nat} {ds:List DV} {d:DV} (ho:o env hp=some (.ref a,hp)) (h:hp[a]?=some (.lst ds)) (he:e env hp=some (d,hp)) (hl:ds.length < 100000):JX "list" Z3 o (Qc e Qm) env hp=some (.non,hp.set a (.lst (ds++[d]))):=by
 unfold JX
 rw [Qi ho]
 have e2:Xy "list" (.ref a) hp=some ((),hp):=by
  show (Jn a >>= _) hp=_
  rw [Qi (Z2 h)];rfl
 rw [Qi e2,Qi (ZJ he)]
 show (Jn a >>= _) hp=_
 rw [Qi (Z2 h)]
 show (QE (decide (ds.length < lim)) >>= fun _=>jL a (.lst (ds++[d])) >>= fun _=>pure DV.non) hp=_
 rw [show decide (ds.length < lim)=true from decide_eq_true hl];rfl
theorem QeA {e o j:DEx} {env:En} {hp:Hs} {a n:Nat} {kvs:List (Key×DV)} {d:DV} (he:e env hp=some (d,hp)) (ho:o env hp=some (.ref a,hp)) (hj:j env hp=some (.int (n:Int),hp)) (h:hp[a]?=some (.dic kvs)) (hl:kvs.length < 100000):Zo e (gSb o j) env hp=some ((.nx,env),hp.set a (.dic (JT kvs (.inl (n:Int)) d))):=by
 refine YC he ?_
 unfold gSb
 rw [Qi ho,Qi hj,Qi (zG (d:=d) h (show X6 (.int (n:Int))=some (.inl (n:Int)) from rfl) hl)];rfl
end D
namespace D
open PySem PySem.Spec PyProof.Rows L2
theorem QeG {n:Nat} {body:DSx} {ds:List DV} {env:En} {hp hp1:Hs} (h:body (ds.map .val++List.replicate (n - ds.length) .un) hp=some ((.nx,env),hp1)):Zb n body ds hp=some (.non,hp1):=by
 unfold Zb
 rw [Qi h];rfl
theorem vK (f:Str) (d:DV):∀ fs:List (Str×DV),(Xp f d fs).length<=fs.length+1
  | []=>Nat.le_refl _
  | (g,x)::r=>by
    unfold Xp
    split
    . simp
    . simpa using vK f d r
theorem J7 {f:Str} {d:DV} {fs:List (Str×DV)} {m:Nat} (h:fs.length<=m):(Xp f d fs).length<=m+1:=Nat.le_trans (vK f d fs) (Nat.succ_le_succ h)
theorem Qbn (f g h:DSx) (env:En) (hp:Hs):Qq f (Qq g h) env hp=Qq (Qq f g) h env hp:=by
  cases e:f env hp with
  | none =>
    unfold Qq
    rw [ZW,ZW,ZW,e];rfl
  | some r =>
    obtain ⟨⟨fl,env1⟩,hp1⟩:=r
    cases fl with
    | nx =>
      have e2:Qq f g env hp=g env1 hp1:=Qk e
      rw [Qk e]
      show (Qq g h env1) hp1=(Qq (Qq f g) h env) hp
      unfold Qq at e2 ⊢
      rw [ZW,ZW,e2]
    | rt d=>rw [QT e,QT (QT e)]
    | bk =>
      have a:∀ k:DSx,Qq f k env hp=some ((.bk,env1),hp1):=fun k=>by unfold Qq;rw [Qi e];rfl
      rw [a];unfold Qq at a ⊢;rw [Qi (a g)];rfl
    | ct =>
      have a:∀ k:DSx,Qq f k env hp=some ((.ct,env1),hp1):=fun k=>by unfold Qq;rw [Qi e];rfl
      rw [a];unfold Qq at a ⊢;rw [Qi (a g)];rfl
end D
namespace D
open PySem PySem.Spec PyProof.Rows L2
def Pl:Nat->DV->Prop
 | _,.non=>True
 | _,.bl _=>True
 | _,.int _=>True
 | _,.str x=>PyData.strOk x=true
 | n+1,.tup ds=>∀ d∈ds,Pl n d
 | n+1,.lst ds=>∀ d∈ds,Pl n d
 | _,_=>False
theorem uR:∀ (n:Nat) (d:DV) (k:Nat) (hp:Hs),Pl n d->drf (n+k+1) hp d=some d
  | n,.non,k,hp,_=>rfl
  | n,.bl _,k,hp,_=>rfl
  | n,.int _,k,hp,_=>rfl
  | n,.str _,k,hp,_=>rfl
  | 0,.tup ds,k,hp,h=>h.elim
  | 0,.lst ds,k,hp,h=>h.elim
  | 0,.ref _,k,hp,h=>h.elim
  | n+1,.ref _,k,hp,h=>h.elim
  | n+1,.tup ds,k,hp,h=>by
    show (ds.mapM (drf (n+1+k) hp)).map DV.tup=_
    rw [zW fun d hd=>(by rw [Nat.add_right_comm];exact uR n d k hp (h d hd))];rfl
  | n+1,.lst ds,k,hp,h=>by
    show (ds.mapM (drf (n+1+k) hp)).map DV.lst=_
    rw [zW fun d hd=>(by rw [Nat.add_right_comm];exact uR n d k hp (h d hd))];rfl
theorem Gk:∀ (ds:List DV),(∀ d∈ds,(toP d).canLay0=true)->PyData.canLayAll0 (toPs ds)=true
 | [],_=>by unfold toPs PyData.canLayAll0;rfl
 | d::ds,h=>by unfold toPs PyData.canLayAll0;rw [h d (by simp),Gk ds fun x hx=>h x (List.mem_cons_of_mem _ hx)];rfl
theorem Gm:∀ (n:Nat) (d:DV),Pl n d->(toP d).canLay0=true
 | n,.non,_=>by unfold toP PyData.canLay0;rfl
 | n,.bl _,_=>by unfold toP PyData.canLay0;rfl
 | n,.int _,_=>by unfold toP PyData.canLay0;rfl
 | n,.str x,h=>by cases n<;>(unfold toP PyData.canLay0;exact h)
 | 0,.tup ds,h=>h.elim
 | 0,.lst ds,h=>h.elim
 | 0,.ref _,h=>h.elim
 | n+1,.ref _,h=>h.elim
 | n+1,.tup ds,h=>by unfold toP PyData.canLay0;exact Gk ds fun d hd=>Gm n d (h d hd)
 | n+1,.lst ds,h=>by unfold toP PyData.canLay0;exact Gk ds fun d hd=>Gm n d (h d hd)
theorem x4 (n:Nat):∀ (ds:List DV),(∀ d∈ds,(toP d).depth<=n)->PyData.depthAll (toPs ds)<=n
 | [],_=>by unfold toPs PyData.depthAll;exact Nat.zero_le _
 | d::ds,h=>by unfold toPs PyData.depthAll;exact Nat.max_le.mpr ⟨h d (by simp),x4 n ds fun x hx=>h x (List.mem_cons_of_mem _ hx)⟩
theorem VE:∀ (n:Nat) (d:DV),Pl n d->(toP d).depth<=n
 | n,.non,_=>by unfold toP PyData.depth;exact Nat.zero_le _
 | n,.bl _,_=>by unfold toP PyData.depth;exact Nat.zero_le _
 | n,.int _,_=>by unfold toP PyData.depth;exact Nat.zero_le _
 | n,.str x,h=>by unfold toP PyData.depth;exact Nat.zero_le _
 | 0,.tup ds,h=>h.elim
 | 0,.lst ds,h=>h.elim
 | 0,.ref _,h=>h.elim
 | n+1,.ref _,h=>h.elim
 | n+1,.tup ds,h=>by unfold toP PyData.depth;exact Nat.succ_le_succ (x4 n ds fun d hd=>VE n d (h d hd))
 | n+1,.lst ds,h=>by unfold toP PyData.depth;exact Nat.succ_le_succ (x4 n ds fun d hd=>VE n d (h d hd))
theorem KA {n:Nat} {d:DV} (h:Pl n d) (hn:n<=64):SeqAt.shaped (toP d)=true:=by
 unfold SeqAt.shaped;rw [Gm n d h,decide_eq_true (Nat.le_trans (VE n d h) hn)];rfl
theorem vd {n:Nat} {d:DV} (h:Pl n d) (hn:n < 40) (hp:Hs):drf 40 hp d=some d:=by
 have:=uR n d (39 - n) hp h
 rwa [show n+(39 - n)+1=40 by omega] at this
theorem Qf7 (n:Nat) (i:Int):Pl n (.int i):=by cases n<;>trivial
theorem Qha (n:Nat) (b:Bool):Pl n (.bl b):=by cases n<;>trivial
theorem Qf8 {n:Nat} {x:Str} (h:PyData.strOk x=true):Pl n (.str x):=by cases n<;>exact h
theorem QaU {x y:DV} {n m:Nat} (h:Pl n x) (h':Pl m y) (hn:n < 40) (hm:m < 40) (hp:Hs):y3 x y hp=some (PyData.eqv (toP x) (toP y),hp):=by
 unfold y3 QaS
 show ((Option.map _ (drf 40 hp x)).bind _)=_
 rw [vd h hn]
 show ((Option.map _ (drf 40 hp y)).bind _)=_
 rw [vd h' hm]
 show (QE (SeqAt.shaped (toP x)&&SeqAt.shaped (toP y)) >>= fun _=>pure (PyData.eqv (toP x) (toP y)):M Bool) hp=_
 rw [KA h (by omega),KA h' (by omega)]
 rfl
theorem Kd {x:DV} {n:Nat} (h:Pl n x) (hn:n < 40) (hp:Hs):y3 x x hp=some (true,hp):=by
 rw [QaU h h hn hn,SeqAt.eqv_refl _ (Gm n x h)]
theorem vk {x:DV} {n:Nat} (h:Pl n x) (hn:n < 40) (hp:Hs):eqG x x hp=some (.bl true,hp):=by
 unfold eqG;rw [Qi (Kd h hn hp)];rfl
theorem Qcp {x:DV} {n:Nat} (h:Pl n x) (hn:n < 40) (hp:Hs):neG x x hp=some (.bl false,hp):=by
 unfold neG;rw [Qi (Kd h hn hp)];rfl
theorem zQ {t:DV->M Bool} {f:DV->M DV} {g:DV->DV} {hp:Hs} (ds:List DV) (ht:∀ d∈ds,t d hp=some (true,hp)) (hf:∀ d∈ds,f d hp=some (g d,hp)) (hl:ds.length < 100000):ZR (nxD ds) t f 100000 0 hp=some (ds.map g,hp):=by
  suffices h:∀ (m i n:Nat),m+i=ds.length->m < n->ZR (nxD ds) t f n i hp=some ((ds.drop i).map g,hp) by simpa using h ds.length 0 100000 rfl hl
  intro m
  induction m with
  | zero =>
    intro i n e hn'
    obtain ⟨n,rfl⟩:∃ k,n=k+1:=⟨n - 1,by omega⟩
    have:i=ds.length:=by omega
    subst this
    have e1:=XY ds ds.length (Nat.le_refl _) hp
    rw [show ds[ds.length]?=none by simp] at e1
    rw [ZR,Qi e1,List.drop_length];rfl
  | succ m ih =>
    intro i n e hn'
    obtain ⟨n,rfl⟩:∃ k,n=k+1:=⟨n - 1,by omega⟩
    have hlt:i < ds.length:=by omega
    have e1:=XY ds i (by omega) hp
    rw [List.getElem?_eq_getElem hlt] at e1
    rw [ZR,Qi e1]
    simp only
    rw [Qi (ht ds[i] (List.getElem_mem hlt)),List.drop_eq_getElem_cons hlt]
    simp only [if_true]
    rw [Qi (hf ds[i] (List.getElem_mem hlt)),Qi (ih (i+1) n (by omega) (by omega))];rfl
theorem Vi {α:Type} {m:M α} {x:α} (h:∀ hp,m hp=some (x,hp)):m=pure x:=funext h
section
variable {env:En} {hp hp1 hp2 hp3 hp4 hp5 hp6 hp7:Hs} {e e' e'' e3 e4 e5 e6:DEx} {v v' v'' v3 v4 v5 v6:DV}
end
end D
namespace PySem
section
variable {prog:Program} {w:World} {A:Around} {E:Value->Shared->Prop} {s:Shared}
end
end PySem
namespace L2
open PySem PySem.Spec PyProof.Rows
section
variable {X:Cx}
theorem Qau:∀ {ns:List Int} {us:List Value},us.length=ns.length->(∀ (j:Nat) (u:Value) (n:Int),us[j]?=some u->ns[j]?=some n->∃ t,u=.int n t)->Vals (ns.map V.int) us
 | [],[],_,_=>.nil
 | [],_::_,h,_=>by cases h
 | _::_,[],h,_=>by cases h
 | n::ns,u::us,h,f=>.cons (f 0 u n rfl rfl) (Qau (Nat.succ.inj h) fun j v m a b=>f (j+1) v m a b)
def GH (a c:Int) (n:Nat):List Int:=(List.range n).map fun (i:Nat)=>a+(i:Int) * c
theorem gR {a c:Int} {n:Nat} {acc:Array Value} (h:ItemsOf (fun i v=>∃ t,v=.int (a+i * c) t) acc n):Vals ((GH a c n).map V.int) acc.toList:=by
 refine Qau (by simp [GH,h.1]) fun j u m h1 h2=>?_
 obtain ⟨t,e⟩:=h.2 j u (by simpa using h1)
 have hj:j < n:=by have:=(List.getElem?_eq_some_iff.mp h2).1;simpa [GH] using this
 have:m=a+(j:Int) * c:=by simp [GH,hj] at h2;exact h2.symm
 subst this
 exact ⟨t,e⟩
end
end L2
namespace D
open PySem PySem.Spec PyProof.Rows L2
open AutoListH (joined_fits)
section
variable {X:Cx} {tg e a b c:Expr} {f fa fb:DEx} {pos:Pos}
theorem Kq {K:PySem.W.Frag} {ρ:List Addr} {B:Addr->Prop} {H:Hp}:∀ ns:List Int,RepL K ρ B H (ns.map .int) (ns.map .int)
 | []=>RepL.nil
 | n::ns=>by rw [List.map_cons,List.map_cons];unfold RepL;exact ⟨_,_,rfl,JH,Kq ns⟩
theorem gC (i:Int) (n:Nat):Ze i n=(GH i 1 n).map .int:=by simp [Ze,GH]
end
end D
namespace TR
def prs (p:Pg):List (Int×Int):=p.ks.zip p.ps
theorem vB {xs ys:List Int} {a b:Int}:(a,b)∈xs.zip ys↔∃ i:Nat,xs[i]?=some a/\ys[i]?=some b:=by
 rw [List.mem_iff_getElem?]
 constructor
 ·rintro ⟨i,h⟩
  have:=List.getElem?_zip_eq_some.mp h
  exact ⟨i,this.1,this.2⟩
 ·rintro ⟨i,h1,h2⟩
  exact ⟨i,List.getElem?_zip_eq_some.mpr ⟨h1,h2⟩⟩
theorem uv (a b:List Int) (n:Nat):(a.zip b).take n=(a.take n).zip (b.take n):=List.take_zipWith
theorem ur (a b:List Int) (n:Nat):(a.zip b).drop n=(a.drop n).zip (b.drop n):=List.drop_zipWith
theorem ga {ks:List Int} (h:ks.Pairwise (· < ·)) {i:Nat} {a k:Int} (ha:ks[i]?=some a):i < cLt ks k↔a < k:=by
 obtain ⟨h1,h2⟩:=qR h k
 constructor
 ·intro hi
  have:a∈ks.take (cLt ks k):=List.mem_iff_getElem?.mpr ⟨i,by rw [List.getElem?_take,if_pos hi];exact ha⟩
  rw [h1] at this
  simpa using (List.mem_filter.mp this).2
 ·intro hl
  refine Nat.lt_of_not_le fun hi=>?_
  have:a∈ks.drop (cLt ks k):=List.mem_iff_getElem?.mpr ⟨i - cLt ks k,by rw [List.getElem?_drop,show cLt ks k+(i - cLt ks k)=i by omega];exact ha⟩
  rw [h2] at this
  have:k<=a:=by simpa using (List.mem_filter.mp this).2
  omega
theorem uZ {ks:List Int} (h:ks.Pairwise (· < ·)) {i:Nat} {a k:Int} (ha:ks[i]?=some a):i < cLe ks k↔a<=k:=by
 obtain ⟨h1,h2⟩:=YH h k
 constructor
 ·intro hi
  have:a∈ks.take (cLe ks k):=List.mem_iff_getElem?.mpr ⟨i,by rw [List.getElem?_take,if_pos hi];exact ha⟩
  rw [h1] at this
  simpa using (List.mem_filter.mp this).2
 ·intro hl
  refine Nat.lt_of_not_le fun hi=>?_
  have:a∈ks.drop (cLe ks k):=List.mem_iff_getElem?.mpr ⟨i - cLe ks k,by rw [List.getElem?_drop,show cLe ks k+(i - cLe ks k)=i by omega];exact ha⟩
  rw [h2] at this
  have:k < a:=by simpa using (List.mem_filter.mp this).2
  omega
theorem QbF {ks:List Int} (h:ks.Pairwise (· < ·)) {i:Nat} {k:Int} (hi:ks[i]?=some k):cLt ks k=i/\cLe ks k=i+1:=by
 have a:=not_congr (ga (k:=k) h hi)
 have b:=(uZ (k:=k) h hi).mpr (Int.le_refl _)
 have c:=QbK h k
 have d:=a.mpr (by omega)
 omega
theorem KG {p:Pg} (h:p.ks.Pairwise (· < ·)) {k v:Int}:QV p k=some v↔(k,v)∈prs p:=by
 unfold QV prs
 rw [vB]
 constructor
 ·intro e
  by_cases q:cLt p.ks k=cLe p.ks k
  ·rw [if_pos q] at e;cases e
  ·rw [if_neg q] at e
   have hk:k∈p.ks:=Classical.byContradiction fun z=>q (QbL z)
   obtain ⟨i,hi⟩:=List.mem_iff_getElem?.mp hk
   have:=(QbF h hi).1
   exact ⟨i,hi,by rw [<- this];exact e⟩
 ·rintro ⟨i,hi,hv⟩
  obtain ⟨a,b⟩:=QbF h hi
  rw [if_neg (by omega),a];exact hv
theorem GP {p:Pg} (h:p.ks.Pairwise (· < ·)) (hl:p.ps.length=p.ks.length) (k x:Int):prs (QY p k x)=(prs p).take (cLt p.ks k)++(k,x)::(prs p).drop (cLe p.ks k):=by
 unfold QY prs
 rw [List.zip_append (by rw [List.length_take,List.length_take,hl]),List.zip_cons_cons,uv,ur]
theorem ue {p:Pg} (h:p.ks.Pairwise (· < ·)) (hl:p.ps.length=p.ks.length) (k:Int):prs (without p k)=(prs p).take (cLt p.ks k)++(prs p).drop (cLe p.ks k):=by
 unfold without prs
 rw [List.zip_append (by rw [List.length_take,List.length_take,hl]),uv,ur]
theorem Kp {p:Pg} (h:p.ks.Pairwise (· < ·)) (k:Int) {a b:Int}:((a,b)∈(prs p).take (cLt p.ks k)∨(a,b)∈(prs p).drop (cLe p.ks k))↔a≠k/\(a,b)∈prs p:=by
 have ix:∀ {i:Nat},(prs p)[i]?=some (a,b)->p.ks[i]?=some a:=fun e=>(List.getElem?_zip_eq_some.mp e).1
 constructor
 ·rintro (m | m)
  ·obtain ⟨i,hi⟩:=List.mem_iff_getElem?.mp m
   rw [List.getElem?_take] at hi
   by_cases q:i < cLt p.ks k
   ·rw [if_pos q] at hi
    have:=(ga h (ix hi)).mp q
    exact ⟨by omega,List.mem_of_getElem? hi⟩
   ·rw [if_neg q] at hi;cases hi
  ·obtain ⟨i,hi⟩:=List.mem_iff_getElem?.mp m
   rw [List.getElem?_drop] at hi
   have:=(not_congr (uZ (k:=k) h (ix hi))).mp (by omega)
   exact ⟨by omega,List.mem_of_getElem? hi⟩
 ·rintro ⟨ne,m⟩
  obtain ⟨i,hi⟩:=List.mem_iff_getElem?.mp m
  rcases Int.lt_or_gt_of_ne ne with l | l
  ·have:=(ga h (ix hi)).mpr l
   exact .inl (List.mem_iff_getElem?.mpr ⟨i,by rw [List.getElem?_take,if_pos this];exact hi⟩)
  ·have:=(not_congr (uZ (k:=k) h (ix hi))).mpr (by omega)
   exact .inr (List.mem_iff_getElem?.mpr ⟨i - cLe p.ks k,by rw [List.getElem?_drop,show cLe p.ks k+(i - cLe p.ks k)=i by omega];exact hi⟩)
theorem GO {p:Pg} (h:p.ks.Pairwise (· < ·)) (hl:p.ps.length=p.ks.length) (k x:Int) {a b:Int}:(a,b)∈prs (QY p k x)↔(a=k/\b=x)∨(a≠k/\(a,b)∈prs p):=by
 rw [GP h hl,List.mem_append,List.mem_cons,<- Kp h k]
 constructor
 ·rintro (m | m | m)
  ·exact .inr (.inl m)
  ·cases m;exact .inl ⟨rfl,rfl⟩
  ·exact .inr (.inr m)
 ·rintro (⟨rfl,rfl⟩ | m | m)
  ·exact .inr (.inl rfl)
  ·exact .inl m
  ·exact .inr (.inr m)
theorem ud {p:Pg} (h:p.ks.Pairwise (· < ·)) (hl:p.ps.length=p.ks.length) (k:Int) {a b:Int}:(a,b)∈prs (without p k)↔a≠k/\(a,b)∈prs p:=by
 rw [ue h hl,List.mem_append,<- Kp h k]
section
variable {S:Sh} {bg:Bg} {n:Nat} {p P:Pg} {k v:Int} {F:Int->Option Int}
end
end TR
namespace TR
theorem qM {p:Pg} (h:p.ks.Pairwise (· < ·)):(prs p).Pairwise (fun x y=>x.1 < y.1):=by
 rw [List.pairwise_iff_getElem] at h ⊢
 intro i j hi hj hij
 have a:(prs p)[i].1=p.ks[i]'(by have:=hi;simp [prs] at this;omega):=by simp [prs]
 have b:(prs p)[j].1=p.ks[j]'(by have:=hj;simp [prs] at this;omega):=by simp [prs]
 rw [a,b];exact h i j _ _ hij
section
variable {S S':Sh} {bg:Bg} {n:Nat} {p P:Pg} {w w':Wk} {F:Int->Option Int} {r:Row}
end
end TR
namespace TR
def Qfh:Deed->Prop
 | .stretch l h=>l < h
 | _=>True
end TR
namespace TR
def g9 (L:List (Int×Int)):Prop:=L.Pairwise (fun x y=>x.1 < y.1)
theorem qP:∀ {L M:List (Int×Int)},g9 L->g9 M->(∀ x,x∈L↔x∈M)->L=M
  | [],[],_,_,_=>rfl
  | [],y::M,_,_,h=>by have:=(h y).mpr (by simp);cases this
  | x::L,[],_,_,h=>by have:=(h x).mp (by simp);cases this
  | x::L,y::M,hL,hM,h=>by
    obtain ⟨a1,a2⟩:=List.pairwise_cons.mp hL
    obtain ⟨b1,b2⟩:=List.pairwise_cons.mp hM
    have e:x=y:=by
      have hx:=(h x).mp (by simp)
      have hy:=(h y).mpr (by simp)
      rcases List.mem_cons.mp hx with hx | hx
      . exact hx
      . rcases List.mem_cons.mp hy with hy | hy
        . exact hy.symm
        . have:=a1 y hy;have:=b1 x hx;omega
    subst e
    congr 1
    refine qP a2 b2 fun z=>⟨fun hz=>?_,fun hz=>?_⟩
    . rcases List.mem_cons.mp ((h z).mp (List.mem_cons_of_mem _ hz)) with e | hz'
      . subst e;have:=a1 z hz;omega
      . exact hz'
    . rcases List.mem_cons.mp ((h z).mpr (List.mem_cons_of_mem _ hz)) with e | hz'
      . subst e;have:=b1 z hz;omega
      . exact hz'
section
variable {S S':Sh} {bg bg':Bg} {F:Int->Option Int}
end
end TR
namespace D
open PySem PySem.Spec PyProof.Rows L2
section
variable {prog:Program} {w:World} {A:Around} {E:Value->Shared->Prop} {s:Shared}
end
section
variable {prog:Program} {w:World} {K:Type} [DecidableEq K] {knd:KeyKind prog w K} {A:Around} {R:Result->Shared->Prop}
theorem Kc:entryFor table "dict.update.loop" = some Builtin.«dict.update.loop»:=entryFor_of_tree (by kernel_rfl)
theorem zS:plainId "dict.update.loop" = true:=by decide +kernel
end
section
variable {prog:Program} {w:World} {K:Type} [DecidableEq K] {knd:KeyKind prog w K} {A:Around} {E:Value->Shared->Prop} {s:Shared}
end
section
variable {X:Cx}
def opM (o:Option α):M α:=match o with
 | some a=>pure a
 | none=>failure
theorem Qcw {o:Option α} {a:α} {hp hp':Hs} (h:opM o hp=some (a,hp')):o=some a/\hp=hp':=by
 cases o with
 | none=>cases h
 | some z=>obtain ⟨rfl,rfl⟩:=Qo h;exact ⟨rfl,rfl⟩
end
end D
namespace D
open PySem PySem.Spec PyProof.Rows L2
structure UF (K:PySem.W.Frag) (mg:Str->Option Value) (x:Str) (st:Stmt):Prop where
 ex:∃ g fd,Fun K x x st g fd/\mg x=some (.ref g)
structure UC (K:PySem.W.Frag) (c:Str):Prop where
 ex:∀ C,ClsN K c C->Cls K C
structure UM (K:PySem.W.Frag) (c m q:Str) (st:Stmt):Prop where
 ex:∃ C g fd,Fun K m q st g fd/\ClsN K c C/\Cls K C/\uy K C m g
structure UI (K:PySem.W.Frag) (mg:Str->Option Value) (c q:Str) (st:Stmt):Prop where
 ex:∃ C g fd,Fun K "__init__" q st g fd/\ClsN K c C/\mg c=some (.ref C)/\Mk K C g
structure UG (mg:Str->Option Value) (x:Str) (i:Int):Prop where
 ex:∃ t,mg x=some (.int i t)
structure UT (K:PySem.W.Frag) (mg:Str->Option Value) (x:Str) (d:DV):Prop where
 ex:∃ a,mg x=some (.ref a)/\KRep K d (.ref a)
section
variable {K:PySem.W.Frag} {h:Heap} {mg:Str->Option Value} {f C:Addr} {x c m q:Str} {st:Stmt} {oc:Value} {od an:Option Addr} {osl:Array (Option Value)} {kV doc pm cdv ct:Value} {i:Int} {t:Tok} {d:DV} {a:Addr}
theorem uf (X:K.In h) (G:h.Ns mainGlobals mg) (n:PySem.W.nsIn K mainGlobals x=some (some (.ref f))) (l:K.lookup f=some ⟨oc,od,.func (PySem.W.fnOf x x (JP st) (ZY st) (Qs st) .none kV doc pm an cdv ct),osl⟩) (e:PySem.W.codeIn K cdv x=true) (k:PySem.W.keepIn K (.ref f)=true):UF K mg x st:=⟨_,_,K7 l e k,PySem.W.mg_of X G n⟩
theorem uc (X:K.In h) (n:PySem.W.nsIn K mainGlobals c=some (some (.ref C))) (p:PySem.W.plainGet K C Str.empty=true) (e:PySem.W.hasDictIn K C=true) (o:PySem.W.plainOver K C=true) (s:PySem.W.findIn K (.ref C) "__setattr__" = some (some (.builtin "object.__setattr__"))):UC K c:=⟨fun C' n'=>by cases ClsN.uniq (show ClsN K c C from n) n';exact ⟨p,e,o,s⟩⟩
theorem um (X:K.In h) (u:UC K c) (n:PySem.W.nsIn K mainGlobals c=some (some (.ref C))) (a:PySem.W.findIn K (.ref C) m=some (some (.ref f))) (b:PySem.W.isFn K (.ref f)=true) (l:K.lookup f=some ⟨oc,od,.func (PySem.W.fnOf m q (JP st) (ZY st) (Qs st) .none kV doc pm an cdv ct),osl⟩) (e:PySem.W.codeIn K cdv q=true) (k:PySem.W.keepIn K (.ref f)=true):UM K c m q st:=⟨_,_,_,K7 l e k,n,u.ex _ n,a,b,k⟩
theorem ui (X:K.In h) (G:h.Ns mainGlobals mg) (n:PySem.W.nsIn K mainGlobals c=some (some (.ref C))) (a:PySem.W.findIn K (.ref C) "__init__" = some (some (.ref f))) (b:PySem.W.isFn K (.ref f)=true) (l:K.lookup f=some ⟨oc,od,.func (PySem.W.fnOf "__init__" q (JP st) (ZY st) (Qs st) .none kV doc pm an cdv ct),osl⟩) (e:PySem.W.codeIn K cdv q=true) (k:PySem.W.keepIn K (.ref f)=true) (v:PySem.W.makesIn K C=true) (z:PySem.W.keepIn K (.ref C)=true):UI K mg c q st:=⟨_,_,_,K7 l e k,n,PySem.W.mg_of X G n,v,a,b,z⟩
theorem uk (X:K.In h) (u:UC K c) (n:PySem.W.nsIn K mainGlobals c=some (some (.ref C))) (a:PySem.W.findIn K (.ref C) x=some none):qx K c x:=⟨C,n,u.ex _ n,a⟩
theorem ug (X:K.In h) (G:h.Ns mainGlobals mg) (n:PySem.W.nsIn K mainGlobals x=some (some (.int i t))):UG mg x i:=⟨_,PySem.W.mg_of X G n⟩
theorem ut (X:K.In h) (G:h.Ns mainGlobals mg) (n:PySem.W.nsIn K mainGlobals x=some (some (.ref a))) (r:KRep K d (.ref a)):UT K mg x d:=⟨_,PySem.W.mg_of X G n,r⟩
theorem Zf {N ps:List Str} {s:Scope} (h:(s.kind==.function&&!s.isCoroutine&&!s.isGenerator&&decide N.Nodup&&decide (N.take ps.length=ps)&&ps.all (fun x=>decide (s.names.lookup x=some .local)||decide (s.names.lookup x=some .cell))&&s.names.all fun y=>decide (y.2≠.free))=true):Qy N ps s:=by
 simp only [Bool.and_eq_true,Bool.not_eq_true',decide_eq_true_eq,List.all_eq_true,Bool.or_eq_true] at h
 obtain ⟨⟨⟨⟨⟨⟨a,b⟩,c⟩,d⟩,e⟩,f⟩,g⟩:=h
 refine ⟨?_,b,c,d,e,f,fun y hy=>by have:=g y hy;simpa using this⟩
 revert a;cases s.kind<;>first | (intro _;rfl) | (intro z;exact absurd z (by decide))
end
section
variable {P:Program} {w:World} {K:PySem.W.Frag} {mg:Str->Option Value} {base:Heap} {x c m q:Str} {st:Stmt} {N ps:List Str} {k:Nat} {body:DSx}
def Bn (ps:List Str) (x q:Str) (st:Stmt):Prop:=∀ (kV doc pm:Value) (an:Option Addr) (cdv ct:Value) (us:List Value),us.length=ps.length->bindArgs (PySem.W.fnOf x q (JP st) (ZY st) (Qs st) .none kV doc pm an cdv ct) ⟨us,[]⟩=pure (ps.zip us)
def Bd (P:Program) (w:World) (K:PySem.W.Frag) (mg:Str->Option Value) (base:Heap) (N:List Str) (k:Nat) (q:Str) (st:Stmt) (body:DSx):Prop:=∀ (g:Addr) (cdv:Value) (A:Around) (outer:List Env) (s:Shared) (H:Hp) (E:XK),Room k (A.deeper (envOfC q (Qs st) s.heap.objs.size g cdv))->DSs (y0 CX0 P w K mg base N q (Qs st) g cdv A outer s H E).nox (ZY st) body
theorem hf (u:UF K mg x st) (Sc:Qy N ps (Qs st)) (h:Bd P w K mg base N k x st body) (hb:Bn ps x x st:=by intro _ _ _ _ _ _ us hl;rcases us with _ | ⟨_,_ | ⟨_,_ | ⟨_,_ | ⟨_,_ | ⟨_,_ | ⟨_,_⟩⟩⟩⟩⟩⟩<;>first | rfl | cases hl):Has P w K mg base x (k+1) ps.length (Zb N.length body):=let ⟨_,_,F,hm⟩:=u.ex;Qfu F Sc hm hb (h _)
theorem hM (u:UM K c m q st) (Sc:Qy N ps (Qs st)) (h:Bd P w K mg base N k q st body) (hb:Bn ps m q st:=by intro _ _ _ _ _ _ us hl;rcases us with _ | ⟨_,_ | ⟨_,_ | ⟨_,_ | ⟨_,_ | ⟨_,_ | ⟨_,_⟩⟩⟩⟩⟩⟩<;>first | rfl | cases hl):XM P w K mg base c m (k+1) ps.length (Zb N.length body):=let ⟨_,_,_,F,nc,cl,me⟩:=u.ex;Qcn nc cl me F Sc hb (h _)
theorem hI (u:UI K mg c q st) (Sc:Qy N ps (Qs st)) (h:Bd P w K mg base N k q st body) (hb:Bn ps "__init__" q st:=by intro _ _ _ _ _ _ us hl;rcases us with _ | ⟨_,_ | ⟨_,_ | ⟨_,_ | ⟨_,_ | ⟨_,_ | ⟨_,_⟩⟩⟩⟩⟩⟩<;>first | rfl | cases hl):Qby P w K mg base c (k+1) ps.length (Zb N.length body):=let ⟨_,_,_,F,nc,hm,me⟩:=u.ex;Qb5 nc hm me F Sc hb (h _)
end
end D
namespace D
open PySem PySem.Spec PyProof.Rows L2
variable {X:Cx}
theorem Vg {h:Heap} {a:Addr} {vs:List Value} {out:Array Value} {b:Addr} {o:Obj} (hb:b≠a) (e:h.get? b=some o):(sortedHeap h a vs out).get? b=some o:=by
 unfold sortedHeap
 rw [Heap.get?_update_ne _ _ _ _ hb]
 refine Heap.get?_push_of_some _ (Heap.get?_push_of_some _ ?_)
 rw [Heap.get?_update_ne _ _ _ _ hb];exact e
theorem UZ {h:Heap} {a:Addr} {vs:List Value} {out:Array Value} {xs:Array Value} {n:Nat} (e:h.get? a=some (seqObj "list" xs n)):∃ c,(sortedHeap h a vs out).get? a=some (seqObj "list" out c):=by
 unfold sortedHeap
 obtain ⟨c1,g1⟩:∃ c1,(h.update a (Obj.mapSeq fun _=>#[])).get? a=some (seqObj "list" #[] c1):=⟨_,get?_update_seq e (fun _=>#[])⟩
 exact ⟨_,get?_update_seq (Heap.get?_push_of_some _ (Heap.get?_push_of_some _ g1)) fun _=>out⟩
theorem vZ {prog:Program} {w:World} {A:Around} {E:Value->Shared->Prop} {s:Shared} {x:Value} {ns:List Int} {Q:Value->Shared->Prop} (h64:ns.length < 64)
  (hc:∀ (R:List Value->Shared->Prop),(∀ (h':Heap) (tk:Nat) (vs:List Value),IntsAre vs ns->vs.length<=sizeLine->(∀ b o,s.heap.get? b=some o->h'.get? b=some o)->R vs { s with heap:=h',toks:=tk })->wpAny (model prog w) A.in1 (collect x) R E s)
  (h:∀ (h1 h':Heap) (tk:Nat) (out:List Value) (ns':List Int) (c:Nat),(∀ b o,s.heap.get? b=some o->h1.get? b=some o)->(∀ b o,h1.get? b=some o->h'.get? b=some o)->h'.get? h1.objs.size=some (seqObj "list" out.toArray c)->IntsAre out ns'->ns'.Perm ns->ns'.Pairwise (· <= ·)->Q (.ref h1.objs.size) { s with heap:=h',toks:=tk }) :
  wpAny (model prog w) A (call (.builtin "sorted") [x]) Q E s:=by
 refine Calls.call_function_entry kind_sorted plain_sorted entry_sorted (args_sorted1 _) ?_
 unfold Builtin.«sorted»
 refine wpAny_bind (m:=checkCount "sorted" 1 1 _) (wpAny_pure (wpAny_bind (hc _ fun h1 tk vs hI hz k1=>?_)))
 refine wpAny_bind (wpAny_newList ?_ hz)
 have g:(h1.push (seqObj "list" vs.toArray 0)).get? h1.objs.size=some (seqObj "list" vs.toArray 0):=Heap.get?_push_size _ rfl
 refine wpAny_bind (wpAny_holding (wpAny_call_entry slot_list_sort ⟨_,g,rfl⟩ entry_list_sort (list_sort_tree g hI (by have:=hI.length;omega) fun out ns' o1 o2 o3=>⟨_,rfl,?_⟩) (args_list_sort _)))
 obtain ⟨c,g2⟩:=UZ (vs:=vs) (out:=out) g
 refine wpAny_pure ⟨_,rfl,h h1 _ tk out.toList ns' c k1 (fun b o e=>Vg (Nat.ne_of_lt (Heap.lt_size e)) (Heap.get?_push_of_some _ e)) (by rw [Array.toArray_toList];exact g2) o1 o2 o3⟩
theorem KS (hc:X.calm=true):CallR X (.builtin "sorted") (fun xs H Q=>∃ p ns,xs=[.ref p]/\ns.length < 64/\Qbz X.K H p ns/\∀ l,H l=none->Q (.ref l) (upd H l (.lst ((srt ns).map .int)))):=by
 intro pins s σ H xs us Q I r h
 obtain ⟨p,ns,rfl,h64,hq,q⟩:=h
 have hh:X.A.handled=none:=I.ok.hd hc
 obtain ⟨u,rfl,rx⟩:=yQ r
 cases rx
 have hz:ns.length<=sizeLine:=by
  rcases hq with hq | ⟨kvs,hq,e⟩
  ·have:=(I.list hq).choose_spec.2.2;simpa using this
  ·have a:=(kz I.hok hq).1
   have b:=congrArg List.length e
   simp at b;omega
 refine vZ (ns:=ns) h64 (fun R hR=>?_) fun h1 h' tk out ns' c k1 k2 g o1 o2 o3=>?_
 ·rcases hq with hq | ⟨kvs,hq,e⟩
  ·obtain ⟨its,r',pl,z⟩:=I.list hq
   have hI:=Kh r'
   have hl:its.length=ns.length:=by have:=r'.length;simpa using this.symm
   have R1:=hR ((s.heap.push (seqObj "list" #[] 0)).update s.heap.objs.size (Obj.mapSeq (· ++ its.toArray))) s.toks its hI (by omega) fun b o e=>by
    have hlt:b < s.heap.objs.size:=Heap.lt_size e
    rw [Heap.get?_update_ne _ _ _ _ (Nat.ne_of_lt hlt)];exact Heap.get?_push_of_some _ e
   exact collect_list pl.isList R1 (by omega)
  ·obtain ⟨_,lo,vs,kv,hd⟩:=kz I.hok hq
   obtain ⟨ep,hat⟩:=hd.dictAt
   have kl:vs.map (·.1)=ns.map Sum.inl:=(kR kv).trans e
   have hvl:vs.length=ns.length:=by have:=congrArg List.length kl;simpa using this
   refine PySem.W.kdu_collect (PySem.W.kdl_dict (knd:=ZO X.prog X.w) (kvs:=vs) (ep:=ep) lo) hh hat (by omega) fun h1 tk acc k1 it=>hR h1 tk acc.toList (kN ?_ fun j u n a b=>?_) ?_ k1
   ·rw [Array.length_toList,it.1,hvl]
   ·obtain ⟨k,x,e1,e2⟩:=it.2 j u (by simpa using a)
    have:k=Sum.inl n:=by
     have e3:=congrArg (fun l=>l[j]?) kl
     simp [e1,b] at e3
     exact e3
    subst this
    rcases Jd (show VR (Sum.inl n) u=true from e2) with ⟨i,t,h1,h2⟩ | ⟨_,_,h1,_⟩
    ·cases h1;exact ⟨t,h2⟩
    ·cases h1
   ·rw [Array.length_toList,it.1];omega
 ·obtain rfl:=Us o2 o3
  have I1:Inv X pins σ H { s with heap:=h1,toks:=tk }:=I.kept k1
  have hlen:(srt ns).length<=sizeLine:=by rw [(Ur ns).length_eq];exact hz
  exact ⟨.ref h1.objs.size,_,I1.laid (t':=tk) k2 (Nat.le_refl _) (show ObjOk X.prog X.w _ h' _ (.lst ((srt ns).map .int)) from ⟨by simpa using hlen,out,c,qm o1,g⟩),rfl,q _ (I1.hok.fresh (Nat.le_refl _))⟩
def Qan:List DV->M DV:=Qd5 fun d=>do let ns <- Qb6 d;QE (decide (ns.length < 64));pure (.lst ((srt ns).map .int))
theorem QaL (hc:X.calm=true):CallR X (.builtin "sorted") (tPn X.K Qan):=by
  intro pins s σ H xs us Q I r h
  obtain ⟨ρ,B,hp,ds,d,hp',W,rl,e,k⟩:=h
  obtain ⟨x,rfl,e⟩:=Kn e
  obtain ⟨ns,hp1,e1,e2⟩:=Qj e
  obtain ⟨_,hp9,e9,e2⟩:=Qj e2
  obtain ⟨h64,rfl⟩:=QL e9
  have h64:=of_decide_eq_true h64
  obtain ⟨rfl,rfl⟩:=Qo e2
  obtain ⟨v,rfl,rv⟩:=rl.oneI
  have key:hp=hp1/\∃ p,v=.ref p/\Qbz X.K H p ns:=by
    cases x with
    | lst zs =>
      obtain ⟨h1,rfl⟩:=yi e1
      obtain ⟨a,ys,rfl,_,sq,l⟩:=rv.lstI
      exact ⟨rfl,a,rfl,.inl (xZ h1 l▸sq)⟩
    | ref n =>
      obtain ⟨o,hp2,e3,e4⟩:=Qj (show (Jn n >>= fun o=>(match o with | .lst ds=>gj (U8 ds) | .dic kvs=>gj (xp kvs) | _=>failure:M (List Int))) hp=some (ns,hp1) from e1)
      obtain ⟨e5,rfl⟩:=Jq e3
      cases o with
      | lst zs =>
        obtain ⟨h1,rfl⟩:=yi e4
        obtain ⟨a,rfl,_,ys,h2,l1⟩:=RepV.refW W rv e5
        exact ⟨rfl,a,rfl,.inl (xZ h1 l1▸SqL.of h2)⟩
      | dic kvs =>
        obtain ⟨h1,rfl⟩:=yi e4
        obtain ⟨a,rfl,_,ro⟩:=RepV.refW W rv e5
        obtain ⟨ys,h2,rk⟩:=ro.dic
        exact ⟨rfl,a,rfl,.inr ⟨ys,h2,rk.to.1.trans (VP h1)⟩⟩
      | ins _ _=>cases e4
    | tup _=>cases e1
    | non=>cases e1
    | bl _=>cases e1
    | int _=>cases e1
    | str _=>cases e1
  obtain ⟨rfl,p,rfl,io⟩:=key
  exact KS hc pins s σ H _ us Q I r ⟨p,ns,rfl,h64,io,Vm W (Kg _) k⟩
end D
namespace D
open PySem PySem.Spec PyProof.Rows L2
section
variable {prog:Program} {w:World} {A:Around} {E:Value->Shared->Prop} {s:Shared}
theorem QdW:typeLookup (.type "zip") "keys" = pure none:=am_miss_of_fast (by decide +kernel)
theorem y6:typeLookup (.type "zip") "__getattr__" = pure none:=by rw [typeLookup_type,builtinLookup_eq_fast];kernel_rfl
theorem Qb1:entryFor table "zip.__getattribute__" = some Builtin.«object.__getattribute__» :=
 entryFor_alias (id' := "object.__getattribute__") (by kernel_rfl) (by decide +kernel) (by decide +kernel) (by kernel_rfl)
theorem Qb2 (a:Addr) (xs:Array Value) (sl:Array (Option Value)) (name:Str) (u:Tok) (hmiss:typeLookup (.type "zip") name=pure none) (hname:(["__module__", "__name__", "__qualname__", "__doc__", "__annotations__"]:List Str).contains name=false) (hsz:name.length+100<=sizeLine:=by size_fits) :
  Meets (Builtin.«object.__getattribute__» ⟨[.ref a,.str name u],[]⟩) (fun A R s=>s.heap.get? a=some { cls:=.type "zip", dict:=none,data:=.fields xs,slots:=sl }/\raisesAttr (.ref a) name A R s) :=
 Meets.of_wp fun prog w A R s hs=>by
  obtain ⟨hp,g,d,tk,os⟩:=s
  obtain ⟨hx,hs⟩:=hs
  have hT:(⟨hp,g,d,tk,os⟩:Shared).TypeIs (.ref a) "zip" := ⟨_,hx,rfl⟩
  unfold Builtin.«object.__getattribute__»
  repeat (any_goals (first | assumption | wp_step))
  simp only [hname,Bool.false_eq_true,if_false]
  repeat (any_goals (first | assumption | wp_step))
  exact wpAny_raiseAttrError hs.1 hs.2 (attrMsg_fits (by decide +kernel) hsz)
theorem Qfv {a:Addr} {xs:Array Value} {sl:Array (Option Value)} {Q:Option Value->Shared->Prop} (hx:s.heap.get? a=some { cls:=.type "zip", dict:=none,data:=.fields xs,slots:=sl }) (hA:A.handled=none)
  (h:∀ h' tk e,Heap.NewExcOf s.heap h' e "AttributeError" -> Q none { s with heap:=h',toks:=tk }):wpAny (model prog w) A (getAttr? (.ref a) "keys") Q E s:=by
 obtain ⟨hp,g,d,tk,os⟩:=s
 have hT:∀ tk',(⟨hp,g,d,tk',os⟩:Shared).TypeIs (.ref a) "zip" := fun _=>⟨_,hx,rfl⟩
 have f1:=sub_AttributeError
 have f3:=PySem.F.slot_zip_getattribute.lookup
 have f4:=PySem.F.slot_zip_getattribute.bind (.ref a)
 have f5:=y6
 unfold getAttr? getAttrBy? getAttrBy
 repeat (any_goals (first | assumption | exact hT _ | ((with_reducible show wpAny _ _ (call (Value.builtin "zip.__getattribute__") _ _) _ _ _);refine call_meets PySem.F.slot_zip_getattribute (hT _) Qb1 (PySem.F.args_zip_getattribute_2 _ _) (Qb2 a xs sl "keys" _ QdW (by decide +kernel)) ⟨hx,hA,fun h' tk' e hx'=>?_⟩) | wp_step))
 obtain ⟨t',u',he⟩:=hx'.there
 show wpAny _ _ (getattributeRaised _ _ _ _ _ _ _) _ _ _
 unfold getattributeRaised
 repeat (any_goals (first | assumption | wp_step))
 exact h _ _ _ hx'.of
end
section
variable {prog:Program} {w:World} {K:Type} [DecidableEq K] {knd:KeyKind prog w K} {A:Around} {R:Result->Shared->Prop}
theorem QdA {d z p o i j a b:Addr} {ia ib:List Value} {more:List (K×Value)} (hh:A.handled=none) (D:ZA z p o i j a b) (hd:d∉[z,p,o,i,j]) (hda:d≠a) (hdb:d≠b) (hsz:more.length<=sizeLine) (hlen:min ia.length ib.length=more.length)
    (hm:∀ (n:Nat) (u v:Value),ia[n]?=some u->ib[n]?=some v->∃ k,more[n]?=some (k,v)/\knd.is k u=true) :
    ∀ (k n:Nat) (s:Shared),more.length - n=k->n<=more.length->ZU s.heap z p o i j a b n->s.heap.IsTuple a ia.toArray->s.heap.IsTuple b ib.toArray->s.heap.DictOf knd d (merged [] (more.take n)) ->
    (∀ h' t',h'.DictOf knd d (merged [] more)->(∀ c q,c≠d->c∉[z,p,o,i,j]->s.heap.get? c=some q->h'.get? c=some q)->R (.ok (.ret .none)) { s with heap:=h',toks:=t' }) ->
    codeAny (model prog w) A (.builtin "dict.update.loop" ⟨[.ref d,.ref z,rawInt n,.none],[]⟩) R s:=by
  intro k
  induction k with
  | zero =>
    intro n s hk hn Z pa pb hD hR
    have hin:n=more.length:=by omega
    obtain ⟨f0,fl0,zz0,hf0⟩:=Z.zz
    have hT:s.TypeIs (.ref z) "zip" := ⟨_,zz0,rfl⟩
    refine codeAny_builtin Kc ?_
    rw [Around.under_plainId zS _]
    show wpAny _ A.in1 (pyNext (.ref z) >>= _) _ _ s
    refine wpAny_bind ?_
    unfold pyNext
    refine wpAny_bind (wpAny_attempt (wpAny_callSpecial?_slot (name:=Str.ofString "__next__") hT F.slot_zip_next (wpAny_call_entry F.slot_zip_next hT F.entry_zip_next
      (QaB (by exact hh) D Z pa pb (by rcases Nat.le_total ia.length ib.length with q | q;exact .inl (by simp;omega);exact .inr (by simp;omega)) fun g x kp' hx=>?_) (F.args_zip_next_1 _))))
    obtain ⟨ox,h1,h2⟩:=hx
    refine wpAny_bind (wpAny_isInstance (T := "StopIteration") (b:=true) ⟨ox,h1,h2⟩ isSubtype_stop ?_)
    refine wpAny_pure ?_
    have kp:∀ c q,c∉[z,p,o,i,j]->s.heap.get? c=some q->g.get? c=some q:=fun c q hc e=>by
      simp only [List.mem_cons,List.not_mem_nil,or_false,not_or] at hc
      exact kp' c q hc.1 hc.2.2.1 hc.2.2.2.1 hc.2.2.2.2 e
    refine wpAny_pure (hR g s.toks ?_ fun c q _ hc e=>kp c q hc e)
    rw [hin,List.take_length] at hD
    obtain ⟨od,es,ep,ho,r⟩:=hD
    exact ⟨od,es,ep,kp d od hd ho,r⟩
  | succ k ih =>
    intro n s hk hn Z pa pb hD hR
    have hlt:n < more.length:=by omega
    have hu:ia[n]?=some ia[n]:=List.getElem?_eq_getElem (by omega)
    have hv:ib[n]?=some ib[n]:=List.getElem?_eq_getElem (by omega)
    obtain ⟨ky,hkv,hkey⟩:=hm n _ _ hu hv
    generalize ia[n]=u at hu hkey
    generalize ib[n]=v at hv hkv
    obtain ⟨f0,fl0,zz0,hf0⟩:=Z.zz
    have hT:s.TypeIs (.ref z) "zip" := ⟨_,zz0,rfl⟩
    refine codeAny_builtin Kc ?_
    rw [Around.under_plainId zS _]
    show wpAny _ A.in1 (pyNext (.ref z) >>= _) _ _ s
    refine wpAny_bind ?_
    unfold pyNext
    refine wpAny_bind (wpAny_attempt (wpAny_callSpecial?_slot (name:=Str.ofString "__next__") hT F.slot_zip_next (wpAny_call_entry F.slot_zip_next hT F.entry_zip_next
      (QaA D Z pa pb (by simpa using hu) (by simpa using hv) fun g' S' tp sz kp0=>wpAny_pure ?_) (F.args_zip_next_1 _))))
    have kp:∀ c q,c∉[z,p,o,i,j]->s.heap.get? c=some q->g'.get? c=some q:=fun c q hc e=>by
      simp only [List.mem_cons,List.not_mem_nil,or_false,not_or] at hc
      exact kp0 c q hc.1 hc.2.2.1 hc.2.2.2.1 hc.2.2.2.2 e
    refine wpAny_bind (wpAny_holding ?_)
    refine wpAny_bind (wpAny_tryCatch ?_)
    unfold Builtin.Dict.pairItems
    refine wpAny_bind (wpAny_typeOf ⟨_,tp,rfl⟩ ?_)
    rw [if_pos (by decide)]
    refine wpAny_bind (wpAny_seqItems tp rfl (wpAny_pure ?_))
    show wpAny _ _ (holding [u,v] (dictSet d u v)) _ _ _
    refine wpAny_holding ?_
    unfold dictSet
    try with_reducible refine wpAny_holding ?_
    obtain ⟨od,es,ep,hod,rd⟩:=hD
    have hd1:g'.DictOf knd d (merged [] (more.take n)):=⟨od,es,ep,kp d od hd hod,rd⟩
    have ml:(merged [] (more.take n)).length<=sizeLine:=by
      have:=merged_length_le (K:=K) [] (more.take n)
      rw [List.length_take] at this
      simp at this;omega
    refine wpAny_bind (knd.pyHash hkey (wpAny_dictSetHashed_pairs (hsz:=ml) hkey hd1 fun h2 hd2 hs2=>?_))
    rw [<- merged_take_succ [] more n _ hkv] at hd2
    have keep:∀ c q,c≠d->c∉[z,p,o,i,j]->s.heap.get? c=some q->h2.get? c=some q:=fun c q hc hc' e=>(hs2.2 c hc).trans (kp c q hc' e)
    have ap:a∉[z,p,o,i,j]∨True:=.inr trivial
    have keepA:∀ c q,c≠d->c≠z->c≠o->c≠i->c≠j->s.heap.get? c=some q->h2.get? c=some q:=fun c q hc c1 c2 c3 c4 e=>(hs2.2 c hc).trans (kp0 c q c1 c2 c3 c4 e)
    obtain ⟨oa,ha,ra⟩:=pa
    obtain ⟨ob,hb,rb⟩:=pb
    refine wpAny_pure ⟨plainId_quiet zS _,?_⟩
    refine ih (n+1) _ (by omega) (by omega) (S'.at fun c hc q e=>(hs2.2 c (fun z'=>hd (z'▸hc))).trans e) ⟨oa,keepA a oa (Ne.symm hda) D.az D.ao D.ai D.aj ha,ra⟩ ⟨ob,keepA b ob (Ne.symm hdb) D.bz D.bo D.bi D.bj hb,rb⟩ hd2 fun h' t' hd' hk'=>?_
    exact hR h' t' hd' fun c q hc hc' e=>hk' c q hc hc' (keep c q hc hc' e)
end
section
variable {X:Cx} {pins:List (Addr×Obj)} {σ:L2.St} {H:Hp} {s:Shared} {h':Heap}
theorem Qhu {t':Nat} {fp:List Addr} {o:HO} (I:Inv X pins σ H s) (hf:∀ b∈fp,yW X pins H b) (k:∀ b o,b∉fp->s.heap.get? b=some o->h'.get? b=some o) (new:ObjOk X.prog X.w (upd H s.heap.objs.size o) h' s.heap.objs.size o):Inv X pins σ (upd H s.heap.objs.size o) { s with heap:=h',toks:=t' }:=by
 have hn:H s.heap.objs.size=none:=I.hok.fresh (Nat.le_refl _)
 refine I.step (g':=s.gens) (d':=s.drawn) (ch:=fp) (fun b hb=>⟨(hf b hb).2.2.2.1,(hf b hb).2.1,(hf b hb).2.2.2.2.1,(hf b hb).2.2.2.2.2⟩) (fun b o _ _ hc e _=>k b o hc e) (fun b o _ _ hc e _=>⟨o.slots,k b o hc e⟩)
  (fun b o _ e n=>by rw [QX (Nat.ne_of_lt (Heap.lt_size e))];exact n) (fun b o hc e=>⟨o,k b o hc e⟩) (fun b xs e=>by rw [QX (Zm e hn)];exact e) (fun b o u e=>by rw [QX (Zm e hn)];exact e) (fun b ps e=>⟨#[],by rw [QX (Zm e hn),e];simp⟩) (fun m hm=>?_) (fun b u e=>?_) I.bare
 ·obtain ⟨o,es,ep,ho,r⟩:=hm
  exact ⟨o,es,ep,k _ o (fun z=>(hf _ z).2.1 rfl) ho,r⟩
 ·by_cases hb:b=s.heap.objs.size
  ·subst hb
   rw [Za] at e;cases e
   exact new
  ·rw [QX hb] at e
   have nf:∀ c u,H c=some u->c∉fp:=fun c u q z=>by rw [(hf c z).1] at q;cases q
   refine (I.hok b u e).stay (fun c v hc q=>k c v ?_ q) (fun c q=>by rw [QX (Zm q hn)];exact q) fun c xs q=>by rw [QX (Zm q hn)];exact q
   rcases hc with z | z
   ·rw [z];exact nf b u e
   ·exact nf c _ z
theorem Qcc:∀ {xk:List (Key×V)} {ib:List Value},Vals (xk.map (·.2)) ib->KV xk ((xk.map (·.1)).zip ib)
 | [],_,.nil=>.nil
 | (k,x)::xk,_,.cons a b=>.cons ⟨rfl,a⟩ (Qcc b)
theorem Qcb:∀ {xk:List (Key×V)} {ia:List Value},Vals (xk.map fun p=>kV p.1) ia->∀ (n:Nat) (u:Value),ia[n]?=some u->∃ p,xk[n]?=some p/\(ZO X.prog X.w).is p.1 u=true
 | [],_,.nil,n,u,h=>by cases h
 | p::xk,_,.cons a b,0,u,h=>by cases h;exact ⟨p,rfl,VQ a⟩
 | p::xk,_,.cons a b,n+1,u,h=>Qcb b n u h
theorem QeX {E:Value->Shared->Prop} {Q:Value->Shared->Prop} {z p o i j a b:Addr} {xk:List (Key×V)} (I:Inv X pins σ H s) (hc:X.calm=true) (D:ZA z p o i j a b) (Z:ZU s.heap z p o i j a b 0) (hf:∀ c∈[z,p,o,i,j],yW X pins H c)
  (qa:SqT X.K H a (xk.map fun p=>kV p.1)) (qb:SqT X.K H b (xk.map (·.2))) (q:∀ (s':Shared),Inv X pins σ (upd H s.heap.objs.size (.dK (J1 [] xk))) s'->Q (.ref s.heap.objs.size) s') :
  wpAny (model X.prog X.w) X.A (call (.type "dict") [.ref z]) Q E s:=by
 have hh:=I.ok.hd hc
 obtain ⟨ia,ra,pa,za⟩:=I.tuple qa
 obtain ⟨ib,rb,pb,zb⟩:=I.tuple qb
 have la:=ra.length
 have lb:=rb.length
 rw [List.length_map] at la lb za
 have lts:∀ c∈[z,p,o,i,j],c < s.heap.objs.size:=fun c hc=>by
  obtain ⟨⟨f0,fl0,zz0,hf0⟩,pp,⟨u1,u2,oo⟩,⟨oi,ei,_⟩,⟨oj,ej,_⟩⟩:=Z
  simp only [List.mem_cons,List.not_mem_nil,or_false] at hc
  rcases hc with rfl | rfl | rfl | rfl | rfl
  ·exact Heap.lt_size zz0
  ·exact Heap.lt_size pp
  ·exact Heap.lt_size oo
  ·exact Heap.lt_size ei
  ·exact Heap.lt_size ej
 have hkv:=Qcc rb
 have lm:((xk.map (·.1)).zip ib).length=xk.length:=by rw [List.length_zip,List.length_map];omega
 refine callType_codes (Q₁:=fun obj s₁=>obj=.ref s.heap.objs.size/\s₁={ s with heap:=s.heap.push { cls:=.type "dict", data:=.dict #[] } }) PySem.F.kt_called_dict (PySem.F.kt_typeCall_dict_1 _) PySem.F.entry_dict_init (kt_code_dict_new _ ⟨rfl,rfl⟩) ?_
 rintro obj s₁ ⟨rfl,rfl⟩
 have hnew:(s.heap.push { cls:=.type "dict", data:=.dict #[] }).DictOf (ZO X.prog X.w) s.heap.objs.size []:=Heap.DictOf.new s.heap
 obtain ⟨f0,fl0,zz0,hf0⟩:=Z.zz
 have hz1:(s.heap.push { cls:=.type "dict", data:=.dict #[] }).get? z=_:=Heap.get?_push_of_some _ zz0
 refine ⟨hnew.typeIs,PySem.F.args_dict_init_2 _ _,?_⟩
 unfold Builtin.«dict.__init__»
 refine wpAny_bind ?_
 unfold Builtin.Dict.selfAndRest
 refine wpAny_bind (wpAny_notOrdered_dict hnew.typeIs ?_)
 show wpAny _ _ (pure (s.heap.objs.size,[Value.ref z])) _ _ _
 refine wpAny_pure ?_
 show wpAny _ _ (Builtin.Dict.updateFrom "dict.__init__" s.heap.objs.size (.ref z) [] .none) _ _ _
 unfold Builtin.Dict.updateFrom
 refine wpAny_bind (wpAny_typeOf ⟨_,hz1,rfl⟩ ?_)
 rw [if_pos (by decide)]
 refine wpAny_bind (Qfv hz1 (by exact hh) fun h1 t1 e1 hx=>?_)
 rw [if_pos (show (none:Option Value).isNone=true from rfl)]
 refine wpAny_bind (wpAny_rule ?_)
 have kp:∀ c q,s.heap.get? c=some q->h1.get? c=some q:=fun c q e=>hx.keeps c q (Heap.get?_push_of_some _ e)
 have Z1:ZU h1 z p o i j a b 0:=Z.at fun c _ u e=>kp c u e
 have hT:∀ (s':Shared),s'.heap=h1->s'.TypeIs (.ref z) "zip" := fun s' e=>⟨_,by rw [e];exact hx.keeps _ _ hz1,rfl⟩
 refine wpAny_bind (wpAny_pyIter_slot (hT _ rfl) F.slot_zip_iter (wpAny_call_entry F.slot_zip_iter (hT _ rfl) F.entry_zip_iter (wpAny_pure ⟨_,rfl, "zip", _,hT _ rfl,(F.slot_zip_next).1,?_⟩) (F.args_zip_iter_1 _)))
 refine wpAny_pure ⟨plainId_quiet zS _,?_⟩
 obtain ⟨oa,ea,xa⟩:=pa
 obtain ⟨ob,eb,xb⟩:=pb
 refine QdA (knd:=ZO X.prog X.w) (ia:=ia) (ib:=ib) (more:=(xk.map (·.1)).zip ib) (by exact hh) D (fun hm=>Nat.lt_irrefl _ (lts _ hm)) (Ne.symm (Nat.ne_of_lt (Heap.lt_size ea))) (Ne.symm (Nat.ne_of_lt (Heap.lt_size eb))) (by rw [lm];exact za) (by rw [lm];omega) (fun n u v hu hv=>?_) _ 0 _ rfl (Nat.zero_le _) Z1 ⟨oa,kp _ _ ea,xa⟩ ⟨ob,kp _ _ eb,xb⟩ ?_ fun h' t' hd' hk'=>⟨rfl,q _ ?_⟩
 ·obtain ⟨pr,p1,p2⟩:=Qcb (X:=X) ra n u hu
  refine ⟨pr.1,?_,p2⟩
  rw [List.getElem?_zip_eq_some]
  exact ⟨by rw [List.getElem?_map,p1];rfl,hv⟩
 ·obtain ⟨od,es,ep,hod,r⟩:=hnew
  exact ⟨od,es,ep,hx.keeps _ _ hod,r⟩
 ·have zk:(J1 [] xk).length<=sizeLine:=by
   have h1:=YR xk []
   rw [List.length_nil] at h1
   omega
  refine Qhu (fp:=[z,p,o,i,j]) I hf (fun c q hc e=>?_) (uP zk (beq_eq_false_iff_ne.mpr (Ne.symm (Nat.ne_of_lt I.big))) (hkv.merge .nil) hd')
  exact hk' c q (Nat.ne_of_lt (Heap.lt_size e)) hc (kp c q e)
end
section
variable {X:Cx}
theorem QcH {x y:Expr} {ta:TA} {p p' pos pos':Pos} (hgl:Gl X "dict") (hml:X.mg "dict" = none) (hg:Gl X "zip") (hm:X.mg "zip" = none) (hc:X.calm=true) (ha:PA X [x,y] ta)
    (hs:starEach [x,y] X.env=[(false,eval x X.env),(false,eval y X.env)]:=by rfl) (hs2:starEach [y] X.env=[(false,eval y X.env)]:=by rfl) (hs3:starEach [.Call (.Name "zip" p') [x,y] [] pos'] X.env=[(false,eval (.Call (.Name "zip" p') [x,y] [] pos') X.env)]:=by rfl) :
    PE X (.Call (.Name "dict" p) [.Call (.Name "zip" p') [x,y] [] pos'] [] pos) (fun σ H Q=>ta σ H fun vs H1=>∃ a b xk,vs=[.ref a,.ref b]/\SqT X.K H1 a (xk.map fun p=>kV p.1)/\SqT X.K H1 b (xk.map (·.2)) /\
      ∀ (l:Addr),H1 l=none->X.K.lookup l=none->Q (.ref l) (upd H1 l (.dK (J1 [] xk)))):=by
  intro pins s σ H Q I h
  refine wpAny_Call_Name_kw (YQ I hgl hml boot_dict ?_)
  refine PyProof.Rows.callWith_type1 ?_ hs3 rfl
  rw [hs3]
  show wpAny _ _ (spliced ((false,eval (.Call (.Name "zip" p') [x,y] [] pos') X.env)::[])) _ _ s
  refine Calls.spliced_cons (Call_ (YQ I hg hm boot_zip (PyProof.Rows.callWith_type1 (thn (ha pos' pins s σ H _ I h) fun us s1 ⟨vs,H1,I1,r1,q1⟩=>?_) (by rw [hs,hs2]) (by rw [hs2];rfl))))
  obtain ⟨a,b,xk,e,qa,qb,q⟩:=q1
  subst e
  cases r1 with
  | cons r rr =>
    cases rr with
    | cons r' rr =>
      cases rr
      cases r
      cases r'
      refine QdB I1 qa qb fun s2 z pp o i j I2 D Z hf=>Calls.spliced_nil ?_
      refine QeX I2 hc D Z hf qa qb fun s3 I3=>⟨.ref s2.heap.objs.size,_,I3,rfl,q _ I2.fresh I2.kfresh⟩
def zkD:List DV->Option (List Key)
  | []=>some []
  | d::ds=>match X6 d,zkD ds with
    | some k,some ks=>some (k::ks)
    | _,_=>none
def zp (f g:DEx):DEx:=fun env=>do
 let x <- f env
 let xs <- xQ x
 let y <- g env
 let ys <- xQ y
 let ks <- opM (zkD xs)
 QE (decide (ks.length=ys.length))
 XU (.dic (YS [] (ks.zip ys)))
theorem Qax {K:PySem.W.Frag} {ρ:List Addr} {B:Addr->Prop} {H:Hp}:∀ {ds:List DV} {ks:List Key} {xs:List V},zkD ds=some ks->RepL K ρ B H ds xs->xs=ks.map kV
  | [],_,xs,h,r=>by cases h;unfold RepL at r;exact r
  | d::ds,ks,xs,h,r=>by
    unfold RepL at r
    obtain ⟨x,q,rfl,r1,r2⟩:=r
    unfold zkD at h
    split at h
    . rename_i k ks' h1 h2
      cases h
      rw [Y6 h1 r1,Qax h2 r2];rfl
    . cases h
theorem uu {K:PySem.W.Frag} {ρ:List Addr} {B:Addr->Prop} {H:Hp}:∀ {ks:List Key} {es:List DV} {ys:List V},ks.length=es.length->RepL K ρ B H es ys->∃ xk:List (Key×V),RepK K ρ B H (ks.zip es) xk/\xk.map (fun p=>kV p.1)=ks.map kV/\xk.map (·.2)=ys
  | [],[],ys,_,r=>by unfold RepL at r;subst r;exact ⟨[],.nil,rfl,rfl⟩
  | k::ks,e::es,ys,hl,r=>by
    unfold RepL at r
    obtain ⟨y,q,rfl,r1,r2⟩:=r
    obtain ⟨xk,a1,a2,a3⟩:=uu (by simpa using hl) r2
    exact ⟨(k,y)::xk,.cons ⟨rfl,r1⟩ a1,by rw [List.map_cons,List.map_cons,a2],by rw [List.map_cons,a3]⟩
  | [],_::_,_,h,_=>by cases h
  | _::_,[],_,h,_=>by cases h
theorem va {f g:DEx} {x y:Expr} {p p' pos pos':Pos} (hml:X.mg "dict" = none) (hm:X.mg "zip" = none) (hc:X.calm=true) (hx:DE X x f) (hy:DE X y g) (hgl:Gl X "dict" := by rfl) (hg:Gl X "zip" := by rfl)
  (hs:starEach [x,y] X.env=[(false,eval x X.env),(false,eval y X.env)]:=by rfl) (hs2:starEach [y] X.env=[(false,eval y X.env)]:=by rfl) (hs3:starEach [.Call (.Name "zip" p') [x,y] [] pos'] X.env=[(false,eval (.Call (.Name "zip" p') [x,y] [] pos') X.env)]:=by rfl) :
  DE X (.Call (.Name "dict" p) [.Call (.Name "zip" p') [x,y] [] pos'] [] pos) (zp f g) :=
 L2.PE.imp (QcH hgl hml hg hm hc (X9 hx (X9 hy pa_nil (by rw [hs2];rfl)) (by rw [hs,hs2])) hs hs2 hs3) fun σ H Q ⟨Z,env,ρ,B,hp,d,hp',S,e,k⟩=>by
  obtain ⟨d1,hp1,e1,e0⟩:=Qj e
  obtain ⟨xs,hp2,e2,e0⟩:=Qj e0
  obtain ⟨rfl,rfl⟩:=Xe e2
  obtain ⟨d2,hp3,e3,e0⟩:=Qj e0
  obtain ⟨ys,hp4,e4,e0⟩:=Qj e0
  obtain ⟨rfl,rfl⟩:=Xe e4
  obtain ⟨ks,hp5,e5,e0⟩:=Qj e0
  obtain ⟨h1,rfl⟩:=Qcw e5
  obtain ⟨_,hp6,e6,e0⟩:=Qj e0
  obtain ⟨h2,rfl⟩:=QL e6
  cases e0
  refine tD.run S e1 fun v ρ1 B1 H1 g1 S1 r1=>tD.run S1 e3 fun u ρ2 B2 H2 g2 S2 r2=>?_
  obtain ⟨a,vs,rfl,na,qa,la⟩:=(RepV.grow S1.wo.rb g2 _ _ r1).tupI
  obtain ⟨b,us,rfl,nb,qb,lb⟩:=r2.tupI
  obtain ⟨xk,a1,a2,a3⟩:=uu (of_decide_eq_true h2) lb
  obtain rfl:=Qax h1 la
  subst a3
  refine ⟨a,b,xk,rfl,by rw [a2];exact qa,qb,fun l hn hk=>?_⟩
  have W:=S2.wo
  have g:Gr X.K ρ2 B2 H2 (ρ2++[l]) (jZ B2 l) (upd H2 l (.dK (J1 [] xk))):=Gr.wnew hn hk
  refine k _ _ _ _ ((g1.trans g2).trans g) (W.wnew hn hk (RepK.orep (RepK.gs ?_ (RepK.merge a1 (kvs:=[]) (xs:=[]) .nil)) Za)) ?_
  ·exact g.gs W.rb
  ·unfold RepV
   exact ⟨_,rfl,by rw [<- W.len];simp⟩
end
end D
namespace L2
open PySem PySem.Spec PyProof.Rows
section
variable {X:Cx}
theorem QcF {a b:Expr} {ta:TA} {p p' pos pos':Pos} (hgt:Gl X "list") (hmt:X.mg "list" = none) (hg:Gl X "range") (hm:X.mg "range" = none) (hc:X.calm=true) (ha:PA X [a,b] ta)
    (hs:starEach [a,b] X.env=[(false,eval a X.env),(false,eval b X.env)]:=by rfl) (hs2:starEach [b] X.env=[(false,eval b X.env)]:=by rfl) (hs3:starEach [.Call (.Name "range" p') [a,b] [] pos'] X.env=[(false,eval (.Call (.Name "range" p') [a,b] [] pos') X.env)]:=by rfl) :
    PE X (.Call (.Name "list" p) [.Call (.Name "range" p') [a,b] [] pos'] [] pos) (fun σ H Q=>ta σ H fun vs H1=>∃ i j:Int,vs=[.int i,.int j]/\(-(2 ^ 62)<=i/\i < 2 ^ 62 /\ -(2 ^ 62)<=j/\j < 2 ^ 62)/\(j - i).toNat<=2 ^ 20/\∀ l,H1 l=none->Q (.ref l) (upd H1 l (.lst ((GH i 1 (j - i).toNat).map .int)))):=by
  intro pins s σ H Q I h
  refine wpAny_Call_Name_kw (YQ I hgt hmt boot_list ?_)
  refine PyProof.Rows.callWith_type1 ?_ hs3 rfl
  rw [hs3]
  show wpAny _ _ (spliced ((false,eval (.Call (.Name "range" p') [a,b] [] pos') X.env)::[])) _ _ s
  refine Calls.spliced_cons (Call_ (YQ I hg hm boot_range (PyProof.Rows.callWith_type1 (thn (ha pos' pins s σ H _ I h) fun us s1 ⟨vs,H1,I1,r1,q1⟩=>?_) (by rw [hs,hs2]) (by rw [hs2];rfl))))
  obtain ⟨i,j,e,⟨q1,q2,q3,q4⟩,q5,q⟩:=q1
  subst e
  cases r1 with
  | cons r rr =>
    cases rr with
    | cons r' rr =>
      cases rr
      obtain ⟨t,rfl⟩:=r
      obtain ⟨t',rfl⟩:=r'
      refine call_range_2 (Calls.spliced_nil ?_)
      refine call_list_range (n:=(j - i).toNat) (I1.ok.hd hc) (IsRange.new ..) (small_one q1 q2 q3 q4) (by rw [rangeSize_one];split<;>omega) (Nat.le_trans q5 (by decide)) fun h' tk acc c' k hS it=>?_
      refine ⟨.ref _,upd H1 _ (.lst ((GH i 1 (j - i).toNat).map .int)),Inv.laid (t':=tk) (I1.kept (t':=s1.toks+1) fun b o e=>Heap.get?_push_of_some _ e) k (Nat.le_refl _) ?_,rfl,q _ ((I1.kept (t':=s1.toks+1) fun b o e=>Heap.get?_push_of_some _ e).hok.fresh (Nat.le_refl _))⟩
      exact ⟨by rw [List.length_map];simp only [GH,List.length_map,List.length_range];exact Nat.le_trans q5 (by decide),acc.toList,c',gR it,by simpa using hS⟩
end
end L2
namespace D
open PySem PySem.Spec PyProof.Rows L2
section
variable {X:Cx} {a b:Expr} {pos:Pos}
def K5 (f:DAx):DEx:=fun env=>do let xs <- f env;let ds <- QcY xs;QE (qY ds);XU (.lst ds)
theorem QbN {f:DAx} {p p' pos':Pos} (hmt:X.mg "list" = none) (hm:X.mg "range" = none) (hc:X.calm=true) (ha:DA X [a,b] f) (hgt:Gl X "list" := by rfl) (hg:Gl X "range" := by rfl)
  (hs:starEach [a,b] X.env=[(false,eval a X.env),(false,eval b X.env)]:=by rfl) (hs2:starEach [b] X.env=[(false,eval b X.env)]:=by rfl) (hs3:starEach [.Call (.Name "range" p') [a,b] [] pos'] X.env=[(false,eval (.Call (.Name "range" p') [a,b] [] pos') X.env)]:=by rfl) :
  DE X (.Call (.Name "list" p) [.Call (.Name "range" p') [a,b] [] pos'] [] pos) (K5 f) :=
 L2.PE.imp (QcF hgt hmt hg hm hc ha hs hs2 hs3).kf fun σ H Q ⟨Z,env,ρ,B,hp,d,hp',S,e,k⟩=>by
  obtain ⟨xs,hp1,e1,e2⟩:=Qj e
  obtain ⟨ds,hp2,e3,e4⟩:=Qj e2
  obtain ⟨i,j,rfl,h1,h2,rfl,rfl⟩:=Qbj e3
  obtain ⟨_,hp3,e5,e6⟩:=Qj e4
  obtain ⟨hs,rfl⟩:=QL e5
  refine tDA.run S e1 fun vs ρ1 B1 H1 g1 S1 r1=>?_
  have h1':=of_decide_eq_true h1
  have h2':=of_decide_eq_true h2
  have hl:(j - i).toNat<=100000:=by have:=of_decide_eq_true hs;rw [Jj] at this;exact this
  refine ⟨i,j,r1.ints2,⟨h1'.1,h1'.2,h2'.1,h2'.2⟩,Nat.le_trans hl (by decide),?_⟩
  rw [gC] at e6
  cases e6
  exact K6 S1.wo (Kq _) (k.after g1)
end
end D
namespace K22
open PySem PySem.Spec PyProof.Rows L2 D
def top (i:Nat):Stmt:=PySem.Challenge.pw_sidelink_k22_each_step_told.main.body.getD i (.Pass ⟨0,0,0,0⟩)
abbrev XQ:Stmt:=ZF (top 27) 12
def XN:DSx:=sIf (JY (eB (qD leD ltD (eC (.int 0)) (Qb 1) (Zl Jr (Qc (QS "Shelf" "kept" (Qb 0)) (Qm)))))) (Qfc) (Q5)
def ZC:List DV->M DV:=Zb 2 XN
abbrev xE:Stmt:=ZF (top 27) 1
def jT:DSx:=Qq (Jk (QF "Shelf" "check_number" 2 ZC (Qb 0) (Qc (Qb 1) (Qm)))) (Qq (Yq "Shelf" "read_count" ja (Qb 0) (eC (.int 1))) (QJ (Qf ixG (QS "Shelf" "kept" (Qb 0)) (Qb 1))))
def Zd:List DV->M DV:=Zb 2 jT
abbrev Ub:Stmt:=top 42
def qG (self:List DV->M DV):DSx:=sIf (JY (eB (Qu 2 self (Qc (Qb 2) (Qc (Qb 3) (Qm)))))) (QJ (eC (.bl false))) (Q5)
def jR (self:List DV->M DV):DSx:=vM (yd (Qb 0) (Qb 1)) (gT [2,3]) (qG self)
def Vy (self:List DV->M DV):DSx:=Qq (sIf (eB (vh "tuple" (Qb 1))) (Qq (sIf (eOr (JY (eB (vh "tuple" (Qb 0)))) (eB (Qf neG (Zl Jr (Qc (Qb 0) (Qm))) (Zl Jr (Qc (Qb 1) (Qm)))))) (QJ (eC (.bl false))) (Q5)) (Qq (jR self) (QJ (eC (.bl true))))) (Q5)) (Qq (sIf (eOr (eB (Qf isD (Qb 1) (eC .non))) (eB (vh "str" (Qb 1)))) (QJ (J3 (Qf eqG (Qb 0) (Qb 1)) (Qf eqG (vh "str" (Qb 0)) (vh "str" (Qb 1))))) (Q5)) (QJ (J3 (vh "int" (Qb 0)) (J3 (X2 (vh "bool" (Qb 0))) (Qf eqG (Qb 0) (Qb 1))))))
def Zx:Nat->List DV->M DV
 | 0=>fun _=>failure
 | n+1=>Zb 4 (Vy (Zx n))
abbrev js:Stmt:=ZF (top 27) 8
def ji:DSx:=QJ (Zl Jr (Qc (QS "Shelf" "kept" (Qb 0)) (Qm)))
def Jc:List DV->M DV:=Zb 1 ji
abbrev xG:Stmt:=ZF (top 27) 4
def jV:DSx:=QJ (QS "Shelf" "top" (Qb 0))
def ZH:List DV->M DV:=Zb 1 jV
abbrev qf:Stmt:=ZF (top 27) 10
def Y5:DSx:=QJ (QS "Shelf" "write_count" (Qb 0))
def ZD:List DV->M DV:=Zb 1 Y5
abbrev qe:Stmt:=ZF (top 27) 9
def Y4:DSx:=QJ (QS "Shelf" "read_count" (Qb 0))
def Q0:List DV->M DV:=Zb 1 Y4
abbrev ju:Stmt:=ZF (top 21) 2
def UD:DSx:=Qq (sIf (JY (eB (QS "Walk" "ended" (Qb 0)))) (QJ (eC .non)) (Q5)) (Qq (sIf (eB (Qf eqG (Qf ixG (QS "Walk" "deed" (Qb 0)) (eC (.int 0))) (eC (.str "stretch")))) (QJ (Zl QgW (Qc (QS "Walk" "pairs" (Qb 0)) (Qm)))) (Q5)) (QJ (QS "Walk" "worth" (Qb 0))))
def XE:List DV->M DV:=Zb 1 UD
abbrev yJ:Stmt:=ZF (top 21) 1
def GV:DSx:=QJ (QS "Walk" "ended" (Qb 0))
def XL:List DV->M DV:=Zb 1 GV
abbrev YF:Stmt:=ZF (top 21) 9
def Jx:DEx:=ZN true (xOf (yd (Qf ixG (Qb 2) (eC (.int 1))) (Qf ixG (Qb 2) (eC (.int 2))))) [3,4] (eB (qD leD ltD (Qb 1) (Qf ixG (Qb 0) (eC (.int 0))) (Qb 2))) (Qb 0)
def jX:DSx:=Qq (QA 3 (Qf ixG (QS "Walk" "deed" (Qb 0)) (eC (.int 1)))) (Qq (QA 4 (Qf ixG (QS "Walk" "deed" (Qb 0)) (eC (.int 2)))) (Qq (QA 5 (Jx)) (Qq (Jk (JX "list" xr (QS "Walk" "pairs" (Qb 0)) (Qc (Qb 5) (Qm)))) (Qq (sIf (eOr (eB (Qf isD (Qf ixG (Qb 2) (eC (.int 3))) (eC .non))) (eB (Qf geD (Qf ixG (Qb 2) (eC (.int 3))) (Qb 4)))) (Qq (Zp "Walk" "ended" (Qb 0) (eC (.bl true))) (QJ (Q3 (Qc (eC (.str "read")) (Qc (Qb 1) (Qc (Zl yu (Qc (Qb 5) (Qm))) (Qc (eC .non) (Qc (eC .non) (Qm))))))))) (Q5)) (Qq (Zp "Walk" "aim" (Qb 0) (Qf ixG (Qb 2) (eC (.int 3)))) (Qq (Zp "Walk" "place" (Qb 0) (Qf ixG (Qb 2) (eC (.int 4)))) (QJ (Q3 (Qc (eC (.str "read")) (Qc (Qb 1) (Qc (Zl yu (Qc (Qb 5) (Qm))) (Qc (QS "Walk" "place" (Qb 0)) (Qc (QS "Walk" "aim" (Qb 0)) (Qm))))))))))))))
def Xh:List DV->M DV:=Zb 6 jX
abbrev jt:Stmt:=ZF (top 27) 2
def jk:DSx:=Qq (Jk (QF "Shelf" "check_number" 2 ZC (Qb 0) (Qc (Qb 1) (Qm)))) (Qq (Yq "Shelf" "write_count" ja (Qb 0) (eC (.int 1))) (Zo (Qb 2) (gSb (QS "Shelf" "kept" (Qb 0)) (Qb 1))))
def JJ:List DV->M DV:=Zb 3 jk
abbrev Ud:Stmt:=top 14
def uE:DSx:=QJ (Q3 (Qc (Qf ixD (Qb 0) (eC (.int 0))) (Qc (Qb 1) (Qc (Qb 2) (Qc (Qf ixD (Qb 0) (eC (.int 3))) (Qc (Qf ixD (Qb 0) (eC (.int 4))) (Qm)))))))
def qu:List DV->M DV:=Zb 3 uE
abbrev YG:Stmt:=top 16
def zZ:DEx:=ZN false (xOf (iTp (Qb 0))) [1] (eB (Qf leD (Qb 0) (Qb 1))) (Qb 0)
def jY:DSx:=QJ (Zl Jr (Qc (zZ) (Qm)))
def ZI:List DV->M DV:=Zb 2 jY
abbrev jw:Stmt:=top 15
def yV:DEx:=ZN false (xOf (iTp (Qb 0))) [1] (eB (Qf ltD (Qb 0) (Qb 1))) (Qb 0)
def UH:DSx:=QJ (Zl Jr (Qc (yV) (Qm)))
def XG:List DV->M DV:=Zb 2 UH
abbrev Uf:Stmt:=top 13
def uG:DSx:=Qq (QA 4 (Qf ixD (Qb 0) (eC (.int 1)))) (Qq (QA 5 (Qf ixD (Qb 0) (eC (.int 2)))) (Qq (QA 6 (Qu 2 XG (Qc (Qb 4) (Qc (Qb 1) (Qm))))) (Qq (QA 7 (Qu 2 ZI (Qc (Qb 4) (Qc (Qb 1) (Qm))))) (QJ (Qu 3 qu (Qc (Qb 0) (Qc (Qf Zt (Qf Zt (eSl (Qb 4) (Zj) (Zk (Qb 6))) (Qb 2)) (eSl (Qb 4) (Zk (Qb 7)) (Zj))) (Qc (Qf Zt (Qf Zt (eSl (Qb 5) (Zj) (Zk (Qb 6))) (Qb 3)) (eSl (Qb 5) (Zk (Qb 7)) (Zj))) (Qm)))))))))
def qw:List DV->M DV:=Zb 8 uG
abbrev Kw:Stmt:=top 11
def QaJ:DSx:=QJ (Qu 4 qw (Qc (Qb 0) (Qc (Qb 1) (Qc (Q3 (Qm)) (Qc (Q3 (Qm)) (Qm))))))
def xU:List DV->M DV:=Zb 2 QaJ
abbrev Ug:Stmt:=top 9
def uH:DSx:=Qq (QA 2 (Qf ixD (Qb 0) (eC (.int 1)))) (Qq (QA 3 (Qu 2 XG (Qc (Qb 2) (Qc (Qb 1) (Qm))))) (Qq (sIf (eB (Qf eqD (Qb 3) (Qu 2 ZI (Qc (Qb 2) (Qc (Qb 1) (Qm)))))) (QJ (eC .non)) (Q5)) (QJ (Qf ixD (Qf ixD (Qb 0) (eC (.int 2))) (Qb 3)))))
def J9:List DV->M DV:=Zb 4 uH
abbrev zH:Stmt:=ZF (top 21) 8
def Vv:DSx:=Qq (Zp "Walk" "worth" (Qb 0) (Qu 2 J9 (Qc (Qb 2) (Qc (QS "Walk" "aim" (Qb 0)) (Qm))))) (Qq (sIf (eB (Qf Yt (QS "Walk" "worth" (Qb 0)) (eC .non))) (Jk (QF "Shelf" "write" 3 JJ (QS "Walk" "shelf" (Qb 0)) (Qc (Qb 1) (Qc (Qu 2 xU (Qc (Qb 2) (Qc (QS "Walk" "aim" (Qb 0)) (Qm)))) (Qm))))) (Q5)) (Qq (Zp "Walk" "ended" (Qb 0) (eC (.bl true))) (QJ (Q3 (Qc (eC (.str "cut")) (Qc (Qb 1) (Qc (QS "Walk" "worth" (Qb 0)) (Qm))))))))
def Yf:List DV->M DV:=Zb 3 Vv
abbrev yI:Stmt:=ZF (top 27) 3
def yx:DSx:=Qq (Yq "Shelf" "write_count" ja (Qb 0) (eC (.int 1))) (Qq (Jk (JX "list" Z3 (QS "Shelf" "kept" (Qb 0)) (Qc (Qb 1) (Qm)))) (QJ (Qf yr (Zl Jr (Qc (QS "Shelf" "kept" (Qb 0)) (Qm))) (eC (.int 1)))))
def XJ:List DV->M DV:=Zb 2 yx
abbrev vQ:Stmt:=top 19
def QbI:DSx:=Qq (QA 2 (Qf ixD (Qb 0) (eC (.int 0)))) (Qq (QA 3 (Qf ixD (Qb 0) (eC (.int 1)))) (Qq (QA 4 (Qf ixD (Qb 0) (eC (.int 2)))) (Qq (QA 5 (Qf uO (Zl qH (Qc (Qb 3) (Qm))) (eC (.int 2)))) (Qq (QA 6 (Qf ixD (Qb 3) (Qb 5))) (Qq (QA 7 (eIf (eB (Qf eqD (Qb 2) (eC (.int 0)))) (Qb 5) (Qf Zt (Qb 5) (eC (.int 1))))) (Qq (QA 8 (Q3 (Qc (Qb 2) (Qc (eSl (Qb 3) (Zj) (Zk (Qb 5))) (Qc (eSl (Qb 4) (Zj) (Zk (Qb 7))) (Qc (Qb 6) (Qc (Qb 1) (Qm)))))))) (Qq (QA 9 (Q3 (Qc (Qb 2) (Qc (eSl (Qb 3) (Zk (Qb 7)) (Zj)) (Qc (eSl (Qb 4) (Zk (Qb 7)) (Zj)) (Qc (Qf ixD (Qb 0) (eC (.int 3))) (Qc (Qf ixD (Qb 0) (eC (.int 4))) (Qm)))))))) (QJ (Q3 (Qc (Qb 8) (Qc (Qb 9) (Qc (Qb 6) (Qm)))))))))))))
def jP:List DV->M DV:=Zb 10 QbI
abbrev xF:Stmt:=ZF (top 27) 7
def jU:DSx:=QJ (QS "Shelf" "page_room" (Qb 0))
def ZX:List DV->M DV:=Zb 1 jU
abbrev Kr:Stmt:=top 18
def QaE:DSx:=QJ (Qf gtD (Zl qH (Qc (Qf ixD (Qb 0) (eC (.int 1))) (Qm))) (Qb 1))
def Yd:List DV->M DV:=Zb 2 QaE
abbrev jv:Stmt:=ZF (top 21) 12
def UE:DSx:=Qq (sIf (JY (eB (Qu 2 Yd (Qc (Qb 2) (Qc (QF "Shelf" "room" 1 ZX (QS "Walk" "shelf" (Qb 0)) Qm) (Qm)))))) (Qq (Jk (QF "Shelf" "write" 3 JJ (QS "Walk" "shelf" (Qb 0)) (Qc (Qb 1) (Qc (Qb 2) (Qm))))) (Qq (Zp "Walk" "ended" (Qb 0) (eC (.bl true))) (QJ (eC .non)))) (Q5)) (Qq (QA 3 (Qu 2 jP (Qc (Qb 2) (Qc (QF "Shelf" "pages" 1 Jc (QS "Walk" "shelf" (Qb 0)) Qm) (Qm))))) (Qq (Zp "Walk" "new_page" (Qb 0) (QF "Shelf" "lay" 2 XJ (QS "Walk" "shelf" (Qb 0)) (Qc (Qf ixG (Qb 3) (eC (.int 1))) (Qm)))) (Qq (Jk (QF "Shelf" "write" 3 JJ (QS "Walk" "shelf" (Qb 0)) (Qc (Qb 1) (Qc (Qf ixG (Qb 3) (eC (.int 0))) (Qm))))) (Qq (Zp "Walk" "aim" (Qb 0) (Qf ixG (Qb 3) (eC (.int 2)))) (Qq (Zp "Walk" "goal" (Qb 0) (Qf Zt (Qf ixG (Qb 2) (eC (.int 0))) (eC (.int 1)))) (Qq (Zp "Walk" "place" (Qb 0) (JX "dict" J5 (QS "Walk" "forks" (Qb 0)) (Qc (QS "Walk" "goal" (Qb 0)) (Qm)))) (QJ (QS "Walk" "new_page" (Qb 0)))))))))
def XF:List DV->M DV:=Zb 4 UE
abbrev yP:Stmt:=top 10
def G0:DSx:=QJ (Qu 4 qw (Qc (Qb 0) (Qc (Qb 1) (Qc (Q3 (Qc (Qb 1) (Qm))) (Qc (Q3 (Qc (Qb 2) (Qm))) (Qm))))))
def zg:List DV->M DV:=Zb 3 G0
abbrev qX:Stmt:=ZF (top 21) 7
def yY:DSx:=Qq (Zp "Walk" "worth" (Qb 0) (Qu 2 J9 (Qc (Qb 2) (Qc (QS "Walk" "aim" (Qb 0)) (Qm))))) (Qq (QA 3 (QF "Walk" "settle" 3 XF (Qb 0) (Qc (Qb 1) (Qc (Qu 3 zg (Qc (Qb 2) (Qc (QS "Walk" "aim" (Qb 0)) (Qc (Qf ixG (QS "Walk" "deed" (Qb 0)) (eC (.int 2))) (Qm))))) (Qm))))) (QJ (Q3 (Qc (eC (.str "put")) (Qc (Qb 1) (Qc (QS "Walk" "worth" (Qb 0)) (Qc (Qb 3) (Qm))))))))
def XS:List DV->M DV:=Zb 4 yY
abbrev YE:Stmt:=ZF (top 21) 6
def jW:DSx:=Qq (Zp "Walk" "worth" (Qb 0) (Qu 2 J9 (Qc (Qb 2) (Qc (QS "Walk" "aim" (Qb 0)) (Qm))))) (Qq (Zp "Walk" "ended" (Qb 0) (eC (.bl true))) (QJ (Q3 (Qc (eC (.str "found")) (Qc (Qb 1) (Qc (QS "Walk" "worth" (Qb 0)) (Qm)))))))
def Xg:List DV->M DV:=Zb 3 jW
abbrev zI:Stmt:=ZF (top 21) 5
def Vw:DSx:=Qq (QA 3 (Qf ixG (QS "Walk" "deed" (Qb 0)) (eC (.int 0)))) (Qq (sIf (eB (Qf eqG (Qb 3) (eC (.str "find")))) (QJ (QF "Walk" "find_worth" 3 Xg (Qb 0) (Qc (Qb 1) (Qc (Qb 2) (Qm))))) (Q5)) (Qq (sIf (eB (Qf eqG (Qb 3) (eC (.str "put")))) (QJ (QF "Walk" "put_pair" 3 XS (Qb 0) (Qc (Qb 1) (Qc (Qb 2) (Qm))))) (Q5)) (Qq (sIf (eB (Qf eqG (Qb 3) (eC (.str "cut")))) (QJ (QF "Walk" "cut_key" 3 Yf (Qb 0) (Qc (Qb 1) (Qc (Qb 2) (Qm))))) (Q5)) (QJ (QF "Walk" "read_pairs" 3 Xh (Qb 0) (Qc (Qb 1) (Qc (Qb 2) (Qm))))))))
def Yg:List DV->M DV:=Zb 4 Vw
abbrev Ue:Stmt:=top 12
def uF:DSx:=Qq (QA 3 (Qf ixD (Qb 0) (eC (.int 1)))) (Qq (QA 4 (Qf ixD (Qb 0) (eC (.int 2)))) (Qq (QA 5 (Qu 2 ZI (Qc (Qb 3) (Qc (Qb 1) (Qm))))) (Qq (QA 6 (Qf Zt (Qb 5) (eC (.int 1)))) (QJ (Qu 3 qu (Qc (Qb 0) (Qc (Qf Zt (Qf Zt (eSl (Qb 3) (Zj) (Zk (Qb 5))) (Q3 (Qc (Qb 1) (Qm)))) (eSl (Qb 3) (Zk (Qb 5)) (Zj))) (Qc (Qf Zt (Qf Zt (eSl (Qb 4) (Zj) (Zk (Qb 6))) (Q3 (Qc (Qb 2) (Qm)))) (eSl (Qb 4) (Zk (Qb 6)) (Zj))) (Qm)))))))))
def qv:List DV->M DV:=Zb 7 uF
abbrev qg:Stmt:=ZF (top 21) 10
def xW:DSx:=Qq (QA 3 (QF "Walk" "settle" 3 XF (Qb 0) (Qc (Qb 1) (Qc (Qu 3 qv (Qc (Qb 2) (Qc (QS "Walk" "aim" (Qb 0)) (Qc (QS "Walk" "new_page" (Qb 0)) (Qm))))) (Qm))))) (QJ (Q3 (Qc (eC (.str "told")) (Qc (Qb 1) (Qc (Qb 3) (Qm))))))
def Xz:List DV->M DV:=Zb 4 xW
abbrev xH:Stmt:=ZF (top 21) 4
def KR:DSx:=Qq (Zp "Walk" "place" (Qb 0) (Qb 3)) (QJ (Q3 (Qc (Qb 1) (Qc (Qb 2) (Qc (Qb 3) (Qm))))))
def JV:List DV->M DV:=Zb 4 KR
abbrev Ks:Stmt:=top 8
def QaF:DSx:=QJ (Qf ixD (Qf ixD (Qb 0) (eC (.int 2))) (Qu 2 ZI (Qc (Qf ixD (Qb 0) (eC (.int 1))) (Qc (Qb 1) (Qm)))))
def YX:List DV->M DV:=Zb 2 QaF
abbrev vO:Stmt:=top 7
def QbG:DSx:=Qq (QA 2 (Qf ixD (Qb 0) (eC (.int 3)))) (QJ (J3 (Qf Yt (Qb 2) (eC .non)) (Qf geD (Qb 1) (Qb 2))))
def YW:List DV->M DV:=Zb 3 QbG
abbrev Yr:Stmt:=ZF (top 27) 6
def Yk:DSx:=Qq (Jk (QF "Shelf" "check_number" 2 ZC (Qb 0) (Qc (Qb 2) (Qm)))) (Qq (QA 3 (Qf Zt (Qf ixG (Qf ixG (QS "Shelf" "kept" (Qb 0)) (QS "Shelf" "top" (Qb 0))) (eC (.int 0))) (eC (.int 1)))) (Qq (Zp "Shelf" "top" (Qb 0) (QF "Shelf" "lay" 2 XJ (Qb 0) (Qc (Q3 (Qc (Qb 3) (Qc (Q3 (Qc (Qb 1) (Qm))) (Qc (Q3 (Qc (QS "Shelf" "top" (Qb 0)) (Qc (Qb 2) (Qm)))) (Qc (eC .non) (Qc (eC .non) (Qm))))))) (Qm)))) (QJ (QS "Shelf" "top" (Qb 0)))))
def Jf:List DV->M DV:=Zb 4 Yk
abbrev Xv:Stmt:=ZF (top 21) 11
def qz:DSx:=Qq (Zp "Walk" "ended" (Qb 0) (eC (.bl true))) (QJ (Q3 (Qc (eC (.str "raised")) (Qc (Qb 1) (Qc (QF "Shelf" "raise_root" 3 Jf (QS "Walk" "shelf" (Qb 0)) (Qc (QS "Walk" "aim" (Qb 0)) (Qc (QS "Walk" "new_page" (Qb 0)) (Qm)))) (Qm))))))
def Z5:List DV->M DV:=Zb 2 qz
abbrev yK:Stmt:=ZF (top 21) 3
def GW:DSx:=Qq (sIf (eB (QS "Walk" "ended" (Qb 0))) (QJ (eC .non)) (Q5)) (Qq (QA 1 (eIf (eB (Qf isD (QS "Walk" "place" (Qb 0)) (eC .non))) (QF "Shelf" "root" 1 ZH (QS "Walk" "shelf" (Qb 0)) Qm) (QS "Walk" "place" (Qb 0)))) (Qq (QA 2 (QF "Shelf" "read" 2 Zd (QS "Walk" "shelf" (Qb 0)) (Qc (Qb 1) (Qm)))) (Qq (sIf (Xf (eB (Qf isD (QS "Walk" "place" (Qb 0)) (eC .non))) (eB (Qf ltD (Qf ixG (Qb 2) (eC (.int 0))) (QS "Walk" "goal" (Qb 0))))) (QJ (QF "Walk" "raise_root_over" 2 Z5 (Qb 0) (Qc (Qb 1) (Qm)))) (Q5)) (Qq (sIf (eB (Qu 2 YW (Qc (Qb 2) (Qc (QS "Walk" "aim" (Qb 0)) (Qm))))) (QJ (QF "Walk" "go_on" 4 JV (Qb 0) (Qc (eC (.str "side")) (Qc (Qb 1) (Qc (Qf ixG (Qb 2) (eC (.int 4))) (Qm)))))) (Q5)) (Qq (sIf (eB (Qf gtD (Qf ixG (Qb 2) (eC (.int 0))) (QS "Walk" "goal" (Qb 0)))) (Qq (Zo (Qb 1) (gSb (QS "Walk" "forks" (Qb 0)) (Qf ixG (Qb 2) (eC (.int 0))))) (QJ (QF "Walk" "go_on" 4 JV (Qb 0) (Qc (eC (.str "down")) (Qc (Qb 1) (Qc (Qu 2 YX (Qc (Qb 2) (Qc (QS "Walk" "aim" (Qb 0)) (Qm)))) (Qm))))))) (Q5)) (Qq (sIf (eB (Qf gtD (QS "Walk" "goal" (Qb 0)) (eC (.int 0)))) (QJ (QF "Walk" "tell_fork" 3 Xz (Qb 0) (Qc (Qb 1) (Qc (Qb 2) (Qm))))) (Q5)) (QJ (QF "Walk" "do_deed" 3 Yg (Qb 0) (Qc (Qb 1) (Qc (Qb 2) (Qm)))))))))))
def JR:List DV->M DV:=Zb 3 GW
abbrev vP:Stmt:=top 36
def ux:DEx:=ZN false (xOf (iTp (Qb 0))) [1] (eB (Qf leD (Qb 0) (Qb 1))) (Qb 0)
def QbH:DSx:=QJ (Zl Jr (Qc (ux) (Qm)))
def Yh:List DV->M DV:=Zb 2 QbH
abbrev Uc:Stmt:=top 38
def qr:DEx:=ZN false (xLs (Qb 4)) [5] (jf) (Qf ixG (Qb 1) (Qb 0))
def uD:DSx:=Qq (sIf (eB (Qf eqG (Qf ixG (Qb 0) (eC (.int 0))) (eC (.int 0)))) (Qq (QA 5 (zp (Qf ixG (Qb 0) (eC (.int 1))) (Qf ixG (Qb 0) (eC (.int 2))))) (Qq (Zo (Qb 2) (gSb (Qb 5) (Qb 1))) (Qq (QA 4 (Zl Qan (Qc (Qb 5) (Qm)))) (QJ (Q3 (Qc (eC (.int 0)) (Qc (Zl yu (Qc (Qb 4) (Qm))) (Qc (Zl yu (Qc (qr) (Qm))) (Qc (Qf ixG (Qb 0) (eC (.int 3))) (Qc (Qf ixG (Qb 0) (eC (.int 4))) (Qm))))))))))) (Q5)) (Qq (QA 3 (Qu 2 Yh (Qc (Qf ixG (Qb 0) (eC (.int 1))) (Qc (Qb 1) (Qm))))) (Qq (QA 4 (Qf Zt (Qf Zt (eSl (Qf ixG (Qb 0) (eC (.int 1))) (Zj) (Zk (Qb 3))) (Q3 (Qc (Qb 1) (Qm)))) (eSl (Qf ixG (Qb 0) (eC (.int 1))) (Zk (Qb 3)) (Zj)))) (QJ (Q3 (Qc (Qf ixG (Qb 0) (eC (.int 0))) (Qc (Qb 4) (Qc (Qf Zt (Qf Zt (eSl (Qf ixG (Qb 0) (eC (.int 2))) (Zj) (Zk (Qf Zt (Qb 3) (eC (.int 1))))) (Q3 (Qc (Qb 2) (Qm)))) (eSl (Qf ixG (Qb 0) (eC (.int 2))) (Zk (Qf Zt (Qb 3) (eC (.int 1)))) (Zj))) (Qc (Qf ixG (Qb 0) (eC (.int 3))) (Qc (Qf ixG (Qb 0) (eC (.int 4))) (Qm))))))))))
def Jg:List DV->M DV:=Zb 6 uD
abbrev Kv:Stmt:=top 39
def QaI:DSx:=Qq (sIf (eB (Qf leD (Zl Jr (Qc (Qf ixG (Qb 3) (eC (.int 1))) (Qm))) (Qf ixG (Qb 0) (eC (.str "room"))))) (Qq (Zo (Qb 3) (gSb (Qf ixG (Qb 0) (eC (.str "pages"))) (Qb 2))) (Qq (Zo (eC (.int 1)) (gSb (Qb 0) (eC (.str "writings")))) (Qq (Zo (eC (.bl true)) (gSb (Qb 1) (eC (.str "over")))) (QJ (eC .non))))) (Q5)) (Qq (QA 4 (Qf uO (Zl Jr (Qc (Qf ixG (Qb 3) (eC (.int 1))) (Qm))) (eC (.int 2)))) (Qq (QA 5 (Qf ixG (Qf ixG (Qb 3) (eC (.int 1))) (Qb 4))) (Qq (QA 6 (Zl Jr (Qc (Qf ixG (Qb 0) (eC (.str "pages"))) (Qm)))) (Qq (QA 7 (Qf Zt (Qb 4) (Zl vA (Qc (Qf gtD (Qf ixG (Qb 3) (eC (.int 0))) (eC (.int 0))) (Qm))))) (Qq (Jk (JX "list" Z3 (Qf ixG (Qb 0) (eC (.str "pages"))) (Qc (Q3 (Qc (Qf ixG (Qb 3) (eC (.int 0))) (Qc (eSl (Qf ixG (Qb 3) (eC (.int 1))) (Zk (Qb 7)) (Zj)) (Qc (eSl (Qf ixG (Qb 3) (eC (.int 2))) (Zk (Qb 7)) (Zj)) (Qc (Qf ixG (Qb 3) (eC (.int 3))) (Qc (Qf ixG (Qb 3) (eC (.int 4))) (Qm))))))) (Qm)))) (Qq (Zo (Q3 (Qc (Qf ixG (Qb 3) (eC (.int 0))) (Qc (eSl (Qf ixG (Qb 3) (eC (.int 1))) (Zj) (Zk (Qb 4))) (Qc (eSl (Qf ixG (Qb 3) (eC (.int 2))) (Zj) (Zk (Qb 7))) (Qc (Qb 5) (Qc (Qb 6) (Qm))))))) (gSb (Qf ixG (Qb 0) (eC (.str "pages"))) (Qb 2))) (Qq (Zo (eC (.int 2)) (gSb (Qb 0) (eC (.str "writings")))) (Qq (Zo (Qb 5) (gSb (Qb 1) (eC (.str "aim")))) (Qq (Zo (Qb 6) (gSb (Qb 1) (eC (.str "kid")))) (Qq (Zo (Qf Zt (Qf ixG (Qb 3) (eC (.int 0))) (eC (.int 1))) (gSb (Qb 1) (eC (.str "level")))) (Qq (Zo (JX "dict" J5 (Qf ixG (Qb 1) (eC (.str "ways"))) (Qc (Qf Zt (Qf ixG (Qb 3) (eC (.int 0))) (eC (.int 1))) (Qm))) (gSb (Qb 1) (eC (.str "here")))) (QJ (Qb 6)))))))))))))
def Xb:List DV->M DV:=Zb 8 QaI
abbrev yN:Stmt:=top 37
def YJ:DEx:=ZN false (xOf (yd (Qf ixG (Qb 0) (eC (.int 1))) (Qf ixG (Qb 0) (eC (.int 2))))) [1,2] (Xf (eB (Qf leD (Qb 1) (Qf ixG (Qb 0) (eC (.int 0))))) (eB (Qf ltD (Qf ixG (Qb 0) (eC (.int 0))) (Qb 2)))) (Qb 0)
def GY:DSx:=QJ (Zl yu (Qc (YJ) (Qm)))
def Xa:List DV->M DV:=Zb 3 GY
abbrev V9:Stmt:=top 40
def X3:DEx:=ZN false (xLs (Qb 7)) [] (jf) (Qf ixG (Qb 0) (eC (.int 1)))
def X4:DEx:=ZN false (xLs (Qb 7)) [] (jf) (Qf ixG (Qb 0) (eC (.int 0)))
def X5:DEx:=ZN false (xOf (yd (Qf ixG (Qb 3) (eC (.int 1))) (Qf ixG (Qb 3) (eC (.int 2))))) [1] (eB (Qf neG (Qf ixG (Qb 0) (eC (.int 0))) (Qf ixG (Qb 1) (eC (.str "aim"))))) (Qb 0)
def uC:DSx:=Qq (QA 4 (Qf ixG (Qb 1) (eC (.str "deed")))) (Qq (QA 5 (JX "dict" J5 (zp (Qf ixG (Qb 3) (eC (.int 1))) (Qf ixG (Qb 3) (eC (.int 2)))) (Qc (Qf ixG (Qb 1) (eC (.str "aim"))) (Qm)))) (Qq (sIf (eB (Qf eqG (Qf ixG (Qb 4) (eC (.int 0))) (eC (.str "put")))) (QJ (Q3 (Qc (eC (.str "put")) (Qc (Qb 2) (Qc (Qb 5) (Qc (Qu 4 Xb (Qc (Qb 0) (Qc (Qb 1) (Qc (Qb 2) (Qc (Qu 3 Jg (Qc (Qb 3) (Qc (Qf ixG (Qb 1) (eC (.str "aim"))) (Qc (Qf ixG (Qb 4) (eC (.int 2))) (Qm))))) (Qm)))))) (Qm))))))) (Q5)) (Qq (sIf (eB (Qf eqG (Qf ixG (Qb 4) (eC (.int 0))) (eC (.str "stretch")))) (Qq (QA 6 (Qu 3 Xa (Qc (Qb 3) (Qc (Qf ixG (Qb 4) (eC (.int 1))) (Qc (Qf ixG (Qb 4) (eC (.int 2))) (Qm)))))) (Qq (sIf (eOr (eB (Qf isD (Qf ixG (Qb 3) (eC (.int 3))) (eC .non))) (eB (Qf geD (Qf ixG (Qb 3) (eC (.int 3))) (Qf ixG (Qb 4) (eC (.int 2)))))) (Qq (Zo (eC (.bl true)) (gSb (Qb 1) (eC (.str "over")))) (QJ (Q3 (Qc (eC (.str "read")) (Qc (Qb 2) (Qc (Qb 6) (Qc (eC .non) (Qc (eC .non) (Qm))))))))) (Q5)) (Qq (Zo (Qf ixG (Qb 3) (eC (.int 3))) (gSb (Qb 1) (eC (.str "aim")))) (Qq (Zo (Qf ixG (Qb 3) (eC (.int 4))) (gSb (Qb 1) (eC (.str "here")))) (QJ (Q3 (Qc (eC (.str "read")) (Qc (Qb 2) (Qc (Qb 6) (Qc (Qf ixG (Qb 3) (eC (.int 4))) (Qc (Qf ixG (Qb 3) (eC (.int 3))) (Qm)))))))))))) (Q5)) (Qq (Zo (eC (.bl true)) (gSb (Qb 1) (eC (.str "over")))) (Qq (sIf (eB (Qf eqG (Qf ixG (Qb 4) (eC (.int 0))) (eC (.str "find")))) (QJ (Q3 (Qc (eC (.str "found")) (Qc (Qb 2) (Qc (Qb 5) (Qm)))))) (Q5)) (Qq (sIf (eB (Qf Yt (Qb 5) (eC .non))) (Qq (QA 7 (X5)) (Qq (QA 8 (Zl yu (Qc (X4) (Qm)))) (Qq (Zo (Q3 (Qc (eC (.int 0)) (Qc (Qb 8) (Qc (Zl yu (Qc (X3) (Qm))) (Qc (Qf ixG (Qb 3) (eC (.int 3))) (Qc (Qf ixG (Qb 3) (eC (.int 4))) (Qm))))))) (gSb (Qf ixG (Qb 0) (eC (.str "pages"))) (Qb 2))) (Zo (eC (.int 1)) (gSb (Qb 0) (eC (.str "writings"))))))) (Q5)) (QJ (Q3 (Qc (eC (.str "cut")) (Qc (Qb 2) (Qc (Qb 5) (Qm))))))))))))
def qt:List DV->M DV:=Zb 9 uC
abbrev Kt:Stmt:=top 41
def QaG:DSx:=Qq (Zo (eC (.int 0)) (gSb (Qb 0) (eC (.str "writings")))) (Qq (sIf (eB (Qf ixG (Qb 1) (eC (.str "over")))) (QJ (eC .non)) (Q5)) (Qq (QA 2 (Qf ixG (Qb 1) (eC (.str "here")))) (Qq (sIf (eB (Qf isD (Qb 2) (eC .non))) (QA 2 (Qf ixG (Qb 0) (eC (.str "root")))) (Q5)) (Qq (QA 3 (Qf ixG (Qf ixG (Qb 0) (eC (.str "pages"))) (Qb 2))) (Qq (sIf (eB (Qf ltD (Qf ixG (Qb 3) (eC (.int 0))) (Qf ixG (Qb 1) (eC (.str "level"))))) (Qq (Jk (JX "list" Z3 (Qf ixG (Qb 0) (eC (.str "pages"))) (Qc (Q3 (Qc (Qf Zt (Qf ixG (Qb 3) (eC (.int 0))) (eC (.int 1))) (Qc (Q3 (Qc (Qf ixG (Qb 1) (eC (.str "aim"))) (Qm))) (Qc (Q3 (Qc (Qb 2) (Qc (Qf ixG (Qb 1) (eC (.str "kid"))) (Qm)))) (Qc (eC .non) (Qc (eC .non) (Qm))))))) (Qm)))) (Qq (Zo (Qf yr (Zl Jr (Qc (Qf ixG (Qb 0) (eC (.str "pages"))) (Qm))) (eC (.int 1))) (gSb (Qb 0) (eC (.str "root")))) (Qq (Zo (eC (.int 1)) (gSb (Qb 0) (eC (.str "writings")))) (Qq (Zo (eC (.bl true)) (gSb (Qb 1) (eC (.str "over")))) (QJ (Q3 (Qc (eC (.str "raised")) (Qc (Qb 2) (Qc (Qf ixG (Qb 0) (eC (.str "root"))) (Qm)))))))))) (Q5)) (Qq (sIf (Xf (eB (Qf Yt (Qf ixG (Qb 3) (eC (.int 3))) (eC .non))) (eB (Qf geD (Qf ixG (Qb 1) (eC (.str "aim"))) (Qf ixG (Qb 3) (eC (.int 3)))))) (Qq (Zo (Qf ixG (Qb 3) (eC (.int 4))) (gSb (Qb 1) (eC (.str "here")))) (QJ (Q3 (Qc (eC (.str "side")) (Qc (Qb 2) (Qc (Qf ixG (Qb 3) (eC (.int 4))) (Qm))))))) (Q5)) (Qq (sIf (eB (Qf gtD (Qf ixG (Qb 3) (eC (.int 0))) (Qf ixG (Qb 1) (eC (.str "level"))))) (Qq (Zo (Qb 2) (gSb (Qf ixG (Qb 1) (eC (.str "ways"))) (Qf ixG (Qb 3) (eC (.int 0))))) (Qq (Zo (Qf ixG (Qf ixG (Qb 3) (eC (.int 2))) (Qu 2 Yh (Qc (Qf ixG (Qb 3) (eC (.int 1))) (Qc (Qf ixG (Qb 1) (eC (.str "aim"))) (Qm))))) (gSb (Qb 1) (eC (.str "here")))) (QJ (Q3 (Qc (eC (.str "down")) (Qc (Qb 2) (Qc (Qf ixG (Qb 1) (eC (.str "here"))) (Qm)))))))) (Q5)) (Qq (sIf (eB (Qf eqG (Qf ixG (Qb 3) (eC (.int 0))) (eC (.int 0)))) (QJ (Qu 4 qt (Qc (Qb 0) (Qc (Qb 1) (Qc (Qb 2) (Qc (Qb 3) (Qm))))))) (Q5)) (QJ (Q3 (Qc (eC (.str "told")) (Qc (Qb 2) (Qc (Qu 4 Xb (Qc (Qb 0) (Qc (Qb 1) (Qc (Qb 2) (Qc (Qu 3 Jg (Qc (Qb 3) (Qc (Qf ixG (Qb 1) (eC (.str "aim"))) (Qc (Qf ixG (Qb 1) (eC (.str "kid"))) (Qm))))) (Qm)))))) (Qm))))))))))))))
def Ye:List DV->M DV:=Zb 4 QaG
abbrev jy:Stmt:=top 43
def XR:DEx:=ZN false (xLs (Qb 10)) [0,1] (JY (eB (Qu 2 (Zx 6) (Qc (QF "Shelf" "read" 2 Zd (Qb 1) (Qc (Qb 0) (Qm))) (Qc (Qf ixG (Qf ixG (Qb 2) (eC (.str "pages"))) (Qb 0)) (Qm)))))) (Qb 0)
def UJ:DSx:=Qq (QA 4 (Zl Jr (Qc (Qf ixG (Qb 1) (eC (.str "pages"))) (Qm)))) (Qq (QA 5 (Q3 (Qc (QF "Shelf" "readings" 1 Q0 (Qb 0) Qm) (Qc (QF "Shelf" "writings" 1 ZD (Qb 0) Qm) (Qm))))) (Qq (QA 6 (Qu 2 Ye (Qc (Qb 1) (Qc (Qb 3) (Qm))))) (Qq (QA 7 (QF "Walk" "step" 1 JR (Qb 2) Qm)) (Qq (QA 8 (QF "Walk" "over" 1 XL (Qb 2) Qm)) (Qq (sIf (Xf (JY (eB (Qb 8))) (eB (Qf Yt (QF "Walk" "answer" 1 XE (Qb 2) Qm) (eC .non)))) (QJ (eC (.bl false))) (Q5)) (Qq (QA 9 (Zl vA (Qc (Qf Yt (Qb 6) (eC .non)) (Qm)))) (Qq (sIf (eB (Qf neG (Q3 (Qc (QF "Shelf" "readings" 1 Q0 (Qb 0) Qm) (Qc (QF "Shelf" "writings" 1 ZD (Qb 0) Qm) (Qm)))) (Q3 (Qc (Qf Zt (Qf ixG (Qb 5) (eC (.int 0))) (Qb 9)) (Qc (Qf Zt (Qf ixG (Qb 5) (eC (.int 1))) (Qf ixG (Qb 1) (eC (.str "writings")))) (Qm)))))) (QJ (eC (.bl false))) (Q5)) (Qq (sIf (eOr (JY (eB (Qu 2 (Zx 6) (Qc (Qb 7) (Qc (Qb 6) (Qm)))))) (eOr (eB (Qf neG (Qb 8) (Qf ixG (Qb 3) (eC (.str "over"))))) (eB (Qf neG (QF "Shelf" "root" 1 ZH (Qb 0) Qm) (Qf ixG (Qb 1) (eC (.str "root"))))))) (QJ (eC (.bl false))) (Q5)) (Qq (sIf (eB (Qf neG (QF "Shelf" "pages" 1 Jc (Qb 0) Qm) (Zl Jr (Qc (Qf ixG (Qb 1) (eC (.str "pages"))) (Qm))))) (QJ (eC (.bl false))) (Q5)) (Qq (QA 10 (K5 (Qc (Qb 4) (Qc (Zl Jr (Qc (Qf ixG (Qb 1) (eC (.str "pages"))) (Qm))) (Qm))))) (Qq (sIf (eB (Qf Yt (Qb 6) (eC .non))) (Jk (JX "list" Z3 (Qb 10) (Qc (Qf ixG (Qb 6) (eC (.int 1))) (Qm)))) (Q5)) (QJ (Qf eqG (XR) (Y7 (Qm)))))))))))))))
def XH:List DV->M DV:=Zb 11 UJ
abbrev Ua:Stmt:=top 30
def Vx:DSx:=Qq (QA 3 (Qf VW (Qf Zt (Qb 0) (Qf uO (Qb 1) (eC (.int 3)))) (Qb 1))) (QJ (Qf VW (Qf VW (Qf qJ (Qf VW (Qf qJ (Qb 3) (Qb 3)) (Qb 1)) (Qb 3)) (Qb 1)) (Qb 2)))
def Qx:List DV->M DV:=Zb 4 Vx
abbrev qW:Stmt:=ZF (top 21) 0
def yX:DSx:=Qq (Zp "Walk" "shelf" (Qb 0) (Qb 1)) (Qq (Zp "Walk" "deed" (Qb 0) (Qb 2)) (Qq (Zp "Walk" "aim" (Qb 0) (Qf ixG (Qb 2) (eC (.int 1)))) (Qq (Zp "Walk" "goal" (Qb 0) (eC (.int 0))) (Qq (Zp "Walk" "place" (Qb 0) (eC .non)) (Qq (Zp "Walk" "forks" (Qb 0) (Jo)) (Qq (Zp "Walk" "new_page" (Qb 0) (eC .non)) (Qq (Zp "Walk" "worth" (Qb 0) (eC .non)) (Qq (Zp "Walk" "pairs" (Qb 0) (Ym (Qm))) (Zp "Walk" "ended" (Qb 0) (eC (.bl false)))))))))))
def ZP:List DV->M DV:=Zb 3 yX
abbrev yO:Stmt:=top 32
def GZ:DSx:=Qq (sIf (eB (Qf eqD (Qu 3 Qx (Qc (Qb 0) (Qc (eC (.int 10037)) (Qc (eC (.int 4)) (Qm))))) (eC (.int 0)))) (QJ (Qf yr (Qf VW (Qf Zt (Qf qJ (Qf VW (Qb 0) (Qf zD (eC (.int 10)) (eC (.int 40)))) (eC (.int 1000000000039))) (eC (.int 5))) (Qf Zt (Qf qJ (eC (.int 2)) (Qf zD (eC (.int 10)) (eC (.int 30)))) (eC (.int 1)))) (Qf zD (eC (.int 10)) (eC (.int 30))))) (Q5)) (QJ (Qf yr (Qu 3 Qx (Qc (Qb 0) (Qc (eC (.int 10039)) (Qc (eC (.int 9)) (Qm))))) (eC (.int 4))))
def zf:List DV->M DV:=Zb 1 GZ
abbrev Ku:Stmt:=top 31
def QaH:DSx:=Qq (QA 1 (Qu 3 Qx (Qc (Qb 0) (Qc (eC (.int 10007)) (Qc (eC (.int 5)) (Qm)))))) (Qq (sIf (eB (Qf eqD (Qb 1) (eC (.int 0)))) (QJ (Qf yr (Qf VW (Qf Zt (Qf qJ (Qf VW (Qb 0) (Qf zD (eC (.int 10)) (eC (.int 40)))) (eC (.int 1000000000039))) (eC (.int 11))) (Qf Zt (Qf qJ (eC (.int 2)) (Qf zD (eC (.int 10)) (eC (.int 30)))) (eC (.int 1)))) (Qf zD (eC (.int 10)) (eC (.int 30))))) (Q5)) (QJ (Qf yr (Qu 3 Qx (Qc (Qb 0) (Qc (eC (.int 10009)) (Qc (Qf ixD (Y7 (Qc (eC (.int 10)) (Qc (eC (.int 10)) (Qc (eC (.int 41)) (Qc (eC (.int 120)) (Qc (eC (.int 120)) (Qm))))))) (Qb 1)) (Qm))))) (eC (.int 5)))))
def YY:List DV->M DV:=Zb 2 QaH
abbrev V7:Stmt:=top 33
def uA:DSx:=Qq (QA 1 (Qu 3 Qx (Qc (Qb 0) (Qc (eC (.int 10061)) (Qc (eC (.int 10)) (Qm)))))) (Qq (QA 2 (Qu 1 YY (Qc (Qb 0) (Qm)))) (Qq (sIf (eB (Qf ltD (Qb 1) (eC (.int 5)))) (QJ (Q3 (Qc (eC (.str "put")) (Qc (Qb 2) (Qc (Qu 1 zf (Qc (Qb 0) (Qm))) (Qm)))))) (Q5)) (Qq (sIf (eB (Qf ltD (Qb 1) (eC (.int 7)))) (QJ (Q3 (Qc (eC (.str "cut")) (Qc (Qb 2) (Qm))))) (Q5)) (Qq (sIf (eB (Qf ltD (Qb 1) (eC (.int 9)))) (QJ (Q3 (Qc (eC (.str "find")) (Qc (Qb 2) (Qm))))) (Q5)) (Qq (QA 3 (Zl Gu (Qc (Qb 2) (Qc (Qf yr (Qf zD (eC (.int 10)) (eC (.int 30))) (eC (.int 1))) (Qm))))) (Qq (QA 4 (Zl Gu (Qc (Qf zD (eC (.int 10)) (eC (.int 30))) (Qc (Qf Zt (Qf Zt (Qb 3) (eC (.int 1))) (Qu 3 Qx (Qc (Qb 0) (Qc (eC (.int 10067)) (Qc (eC (.int 50)) (Qm)))))) (Qm))))) (Qq (QA 5 (Zl Gu (Qc (Qf zD (eC (.int 10)) (eC (.int 30))) (Qc (Qf Zt (Qf Zt (Qb 3) (eC (.int 51))) (Qu 3 Qx (Qc (Qb 0) (Qc (eC (.int 10151)) (Qc (eC (.int 150)) (Qm)))))) (Qm))))) (QJ (Q3 (Qc (eC (.str "stretch")) (Qc (Qb 3) (Qc (Qf ixD (Y7 (Qc (Qf Zt (Qb 3) (eC (.int 1))) (Qc (Qb 4) (Qc (Qb 5) (Qc (Qf zD (eC (.int 10)) (eC (.int 30))) (Qm)))))) (Qu 3 Qx (Qc (Qb 0) (Qc (eC (.int 10069)) (Qc (eC (.int 4)) (Qm)))))) (Qm)))))))))))))
def Yi:List DV->M DV:=Zb 6 uA
abbrev V8:Stmt:=top 34
def xq:DSx:=Qq (sIf (eB (QF "Walk" "over" 1 XL (Qb 2) Qm)) (QJ (Qb 2)) (Q5)) (Jk (QF "Walk" "step" 1 JR (Qb 2) Qm))
def jQ:DSx:=vM (Vc (Qc (eC (.int 1000)) (Qm))) (gN 3) (xq)
def uB:DSx:=Qq (QA 2 (JZ "Walk" 3 ZP (Qc (Qb 0) (Qc (Qb 1) (Qm))))) (Qq (jQ) (QJ (Qb 2)))
def Yj:List DV->M DV:=Zb 4 uB
abbrev qd:Stmt:=ZF (top 27) 0
def Y3:DSx:=Qq (Zp "Shelf" "page_room" (Qb 0) (Qb 1)) (Qq (Zp "Shelf" "kept" (Qb 0) (Ym (Qc (eC (.tup [.int 0,.tup [],.tup [],.non,.non])) (Qm)))) (Qq (Zp "Shelf" "top" (Qb 0) (eC (.int 0))) (Qq (Zp "Shelf" "read_count" (Qb 0) (eC (.int 0))) (Zp "Shelf" "write_count" (Qb 0) (eC (.int 0))))))
def Je:List DV->M DV:=Zb 2 Y3
abbrev yM:Stmt:=top 35
def jq:DSx:=Qq (QA 5 (Qf yr (Qu 3 Qx (Qc (Qf Zt (Qb 0) (Qf qJ (eC (.int 7)) (Qb 4))) (Qc (eC (.int 10099)) (Qc (eC (.int 120)) (Qm))))) (eC (.int 5)))) (Qq (Jk (Qu 2 Yj (Qc (Qb 2) (Qc (Q3 (Qc (eC (.str "put")) (Qc (Qb 5) (Qc (Qb 4) (Qm))))) (Qm))))) (Zo (Qb 4) (gSb (Qb 1) (Qb 5))))
def jg:DSx:=vM (Vc (Qc (Qb 3) (Qm))) (gN 4) (jq)
def GX:DSx:=Qq (QA 2 (JZ "Shelf" 2 Je (Qc (Qf Zt (eC (.int 2)) (Qf qJ (Qu 3 Qx (Qc (Qb 0) (Qc (eC (.int 10079)) (Qc (eC (.int 7)) (Qm))))) (Qu 3 Qx (Qc (Qb 0) (Qc (eC (.int 10091)) (Qc (eC (.int 2)) (Qm))))))) (Qm)))) (Qq (QA 3 (Qu 3 Qx (Qc (Qb 0) (Qc (eC (.int 10093)) (Qc (eC (.int 25)) (Qm)))))) (Qq (sIf (eB (Qf eqG (Qu 3 Qx (Qc (Qb 0) (Qc (eC (.int 10141)) (Qc (eC (.int 8)) (Qm))))) (eC (.int 3)))) (QA 3 (eC (.int 60))) (Q5)) (Qq (jg) (QJ (Qb 2)))))
def Yu:List DV->M DV:=Zb 6 GX
abbrev jx:Stmt:=top 29
def YL:DSx:=Qq (sIf (eB (Qf ltD (Qb 1) (Zl qH (Qc (Qb 0) (Qm))))) (QJ (Qf ixD (Qb 0) (Qb 1))) (Q5)) (QJ (eC (.int 0)))
def JK:List DV->M DV:=Zb 2 YL
abbrev yL:Stmt:=top 44
def kS:DSx:=sIf (JY (eB (Qu 2 (Zx 6) (Qc (QF "Shelf" "read" 2 Zd (Qb 2) (Qc (Qb 8) (Qm))) (Qc (Qf ixG (Qf ixG (Qb 3) (eC (.str "pages"))) (Qb 8)) (Qm)))))) (QJ (eC (.bl false))) (Q5)
def gY:DSx:=vM (Vc (Qc (Zl Jr (Qc (Qf ixG (Qb 3) (eC (.str "pages"))) (Qm))) (Qm))) (gN 8) (kS)
def kT:DSx:=sIf (JY (eB (Qu 4 XH (Qc (Qb 2) (Qc (Qb 3) (Qc (Qf ixG (Qb 5) (Qb 9)) (Qc (Qf ixG (Qb 6) (Qb 9)) (Qm)))))))) (QJ (eC (.bl false))) (Q5)
def KL:DSx:=vM (Vc (Qc (Qb 10) (Qm))) (gN 11) (kT)
def Gj:DSx:=Qq (QA 9 (Qu 3 Qx (Qc (Qb 7) (Qc (eC (.int 10111)) (Qc (Qb 4) (Qm)))))) (Qq (sIf (eOr (eB (Qf isD (Qf ixG (Qb 5) (Qb 9)) (eC .non))) (eB (Qf ixG (Qf ixG (Qb 6) (Qb 9)) (eC (.str "over"))))) (Qq (QA 12 (Qu 1 Yi (Qc (Qb 7) (Qm)))) (Qq (QA 13 (QF "Shelf" "readings" 1 Q0 (Qb 2) Qm)) (Qq (Zo (JZ "Walk" 3 ZP (Qc (Qb 2) (Qc (Qb 12) (Qm)))) (gSb (Qb 5) (Qb 9))) (Qq (sIf (eB (Qf neG (QF "Shelf" "readings" 1 Q0 (Qb 2) Qm) (Qb 13))) (QJ (eC (.bl false))) (Q5)) (Qq (Zo (Xd [(eC (.str "deed"),Qb 12),(eC (.str "aim"),Qf ixG (Qb 12) (eC (.int 1))),(eC (.str "here"),eC .non),(eC (.str "level"),eC (.int 0)),(eC (.str "ways"),Jo)]) (gSb (Qb 6) (Qb 9))) (Qq (Zo (eC (.bl false)) (gSb (Qf ixG (Qb 6) (Qb 9)) (eC (.str "over")))) (Zo (eC (.bl true)) (gSb (Qf ixG (Qb 6) (Qb 9)) (eC (.str "fresh")))))))))) (Q5)) (Qq (QA 10 (Qf Zt (eC (.int 1)) (Qu 3 Qx (Qc (Qb 7) (Qc (eC (.int 10133)) (Qc (eC (.int 5)) (Qm))))))) (Qq (sIf (eB (Qf ixG (Qf ixG (Qb 6) (Qb 9)) (eC (.str "fresh")))) (Qq (QA 10 (Qf qJ (Qb 10) (Qu 3 Qx (Qc (Qb 7) (Qc (eC (.int 10139)) (Qc (eC (.int 2)) (Qm))))))) (Zo (eC (.bl false)) (gSb (Qf ixG (Qb 6) (Qb 9)) (eC (.str "fresh"))))) (Q5)) (KL))))
def gZ:DSx:=Qag (xLs (eSl (Qb 0) (Zj) (Zk (eC (.int 120))))) (gN 7) (Gj)
def KI:DEx:=ZN true (xOf (Vc (Qc (Qb 4) (Qm)))) [] (jf) (eC .non)
def KJ:DEx:=ZN true (xOf (Vc (Qc (Qb 4) (Qm)))) [] (jf) (eC .non)
def jO:DEx:=ZN true (xOf (Vc (Qc (QF "Shelf" "pages" 1 Jc (Qb 2) Qm) (Qm)))) [2] (jf) (QF "Shelf" "read" 2 Zd (Qb 1) (Qc (Qb 0) (Qm)))
def QgF:DSx:=Qq (QA 1 (Qu 2 JK (Qc (Qb 0) (Qc (eC (.int 0)) (Qm))))) (Qq (QA 2 (Qu 2 Yu (Qc (Qb 1) (Qc (Jo) (Qm))))) (Qq (QA 3 (Xd [(eC (.str "pages"),jO),(eC (.str "root"),QF "Shelf" "root" 1 ZH (Qb 2) Qm),(eC (.str "room"),QF "Shelf" "room" 1 ZX (Qb 2) Qm)])) (Qq (QA 4 (Qf Zt (eC (.int 1)) (Qu 3 Qx (Qc (Qb 1) (Qc (eC (.int 10103)) (Qc (eC (.int 6)) (Qm))))))) (Qq (QA 5 (KJ)) (Qq (QA 6 (KI)) (Qq (gZ) (Qq (gY) (QJ (eC (.bl true))))))))))
def GT:List DV->M DV:=Zb 14 QgF
structure Al (K:PySem.W.Frag) (mg:Str->Option Value):Prop where
 z0:mg "len" = none
 z1:mg "isinstance" = none
 z2:mg "int" = none
 z3:mg "bool" = none
 z4:mg "str" = none
 z5:mg "tuple" = none
 z6:mg "zip" = none
 z7:mg "list" = none
 z8:mg "sorted" = none
 z9:mg "dict" = none
 z10:mg "range" = none
 z11:mg "min" = none
 g0:UG mg "SIDE" 4
 g1:UG mg "HIGH" 3
 g2:UG mg "KEYS" 1
 g3:UG mg "PARTS" 2
 g4:UG mg "LEVEL" 0
 t0:UT K mg "EMPTY_LEAF" (.tup [.int 0,.tup [],.tup [],.non,.non])
 k0:qx K "Shelf" "kept"
 k1:qx K "Shelf" "read_count"
 k2:qx K "Shelf" "top"
 k3:qx K "Shelf" "write_count"
 k4:qx K "Walk" "worth"
 k5:qx K "Walk" "deed"
 k6:qx K "Walk" "pairs"
 k7:qx K "Walk" "ended"
 k8:qx K "Walk" "aim"
 k9:qx K "Walk" "place"
 k10:qx K "Walk" "shelf"
 k11:qx K "Shelf" "page_room"
 k12:qx K "Walk" "new_page"
 k13:qx K "Walk" "forks"
 k14:qx K "Walk" "goal"
 u0:UM K "Shelf" "check_number" "Shelf.check_number" XQ
 u1:UM K "Shelf" "read" "Shelf.read" xE
 u2:UF K mg "_law_same" Ub
 u3:UM K "Shelf" "pages" "Shelf.pages" js
 u4:UM K "Shelf" "root" "Shelf.root" xG
 u5:UM K "Shelf" "writings" "Shelf.writings" qf
 u6:UM K "Shelf" "readings" "Shelf.readings" qe
 u7:UM K "Walk" "answer" "Walk.answer" ju
 u8:UM K "Walk" "over" "Walk.over" yJ
 u9:UM K "Walk" "read_pairs" "Walk.read_pairs" YF
 u10:UM K "Shelf" "write" "Shelf.write" jt
 u11:UF K mg "refilled" Ud
 u12:UF K mg "count_not_above" YG
 u13:UF K mg "count_below" jw
 u14:UF K mg "with_run" Uf
 u15:UF K mg "without" Kw
 u16:UF K mg "worth_of" Ug
 u17:UM K "Walk" "cut_key" "Walk.cut_key" zH
 u18:UM K "Shelf" "lay" "Shelf.lay" yI
 u19:UF K mg "parted" vQ
 u20:UM K "Shelf" "room" "Shelf.room" xF
 u21:UF K mg "is_full" Kr
 u22:UM K "Walk" "settle" "Walk.settle" jv
 u23:UF K mg "with_pair" yP
 u24:UM K "Walk" "put_pair" "Walk.put_pair" qX
 u25:UM K "Walk" "find_worth" "Walk.find_worth" YE
 u26:UM K "Walk" "do_deed" "Walk.do_deed" zI
 u27:UF K mg "with_kid" Ue
 u28:UM K "Walk" "tell_fork" "Walk.tell_fork" qg
 u29:UM K "Walk" "go_on" "Walk.go_on" xH
 u30:UF K mg "kid_for" Ks
 u31:UF K mg "beyond" vO
 u32:UM K "Shelf" "raise_root" "Shelf.raise_root" Yr
 u33:UM K "Walk" "raise_root_over" "Walk.raise_root_over" Xv
 u34:UM K "Walk" "step" "Walk.step" yK
 u35:UF K mg "_law_at" vP
 u36:UF K mg "_law_with" Uc
 u37:UF K mg "_law_put" Kv
 u38:UF K mg "_law_pairs" yN
 u39:UF K mg "_law_leaf" V9
 u40:UF K mg "_law_due" Kt
 u41:UF K mg "_law_stepped" jy
 u42:UF K mg "_law_pick" Ua
 u43:UI K mg "Walk" "Walk.__init__" qW
 u44:UF K mg "_law_worth" yO
 u45:UF K mg "_law_key" Ku
 u46:UF K mg "_law_deed" V7
 u47:UF K mg "_law_done" V8
 u48:UI K mg "Shelf" "Shelf.__init__" qd
 u49:UF K mg "_law_begun" yM
 u50:UF K mg "_law_cell_at" jx
theorem zd:Qy ["self", "number"] ["self", "number"] (Qs XQ):=Zf (by decide +kernel)
theorem UU:Qy ["self", "number"] ["self", "number"] (Qs xE):=Zf (by decide +kernel)
theorem sc_law_same:Qy ["found", "due", "one", "other"] ["found", "due"] (Qs Ub):=Zf (by decide +kernel)
theorem Uh:Qy ["self"] ["self"] (Qs js):=Zf (by decide +kernel)
theorem UW:Qy ["self"] ["self"] (Qs xG):=Zf (by decide +kernel)
theorem xK:Qy ["self"] ["self"] (Qs qf):=Zf (by decide +kernel)
theorem xJ:Qy ["self"] ["self"] (Qs qe):=Zf (by decide +kernel)
theorem Uj:Qy ["self"] ["self"] (Qs ju):=Zf (by decide +kernel)
theorem GC:Qy ["self"] ["self"] (Qs yJ):=Zf (by decide +kernel)
theorem sc_Walk_read_pairs:Qy ["self", "number", "leaf", "low", "high", "pairs"] ["self", "number", "leaf"] (Qs YF):=Zf (by decide +kernel)
theorem Ui:Qy ["self", "number", "page"] ["self", "number", "page"] (Qs jt):=Zf (by decide +kernel)
theorem vR:Qy ["page", "keys", "parts"] ["page", "keys", "parts"] (Qs Ud):=Zf (by decide +kernel)
theorem jI:Qy ["keys", "key"] ["keys", "key"] (Qs YG):=Zf (by decide +kernel)
theorem Uk:Qy ["keys", "key"] ["keys", "key"] (Qs jw):=Zf (by decide +kernel)
theorem sc_with_run:Qy ["page", "key", "new_keys", "new_worths", "keys", "worths", "start", "stop"] ["page", "key", "new_keys", "new_worths"] (Qs Uf):=Zf (by decide +kernel)
theorem gI:Qy ["page", "key"] ["page", "key"] (Qs Kw):=Zf (by decide +kernel)
theorem sc_worth_of:Qy ["page", "key", "keys", "place"] ["page", "key"] (Qs Ug):=Zf (by decide +kernel)
theorem Vf:Qy ["self", "number", "leaf"] ["self", "number", "leaf"] (Qs zH):=Zf (by decide +kernel)
theorem GB:Qy ["self", "page"] ["self", "page"] (Qs yI):=Zf (by decide +kernel)
theorem sc_parted:Qy ["page", "number", "level", "keys", "parts", "middle", "key", "cut", "old", "new"] ["page", "number"] (Qs vQ):=Zf (by decide +kernel)
theorem UV:Qy ["self"] ["self"] (Qs xF):=Zf (by decide +kernel)
theorem gG:Qy ["page", "room"] ["page", "room"] (Qs Kr):=Zf (by decide +kernel)
theorem sc_Walk_settle:Qy ["self", "number", "page", "halves"] ["self", "number", "page"] (Qs jv):=Zf (by decide +kernel)
theorem GF:Qy ["page", "key", "worth"] ["page", "key", "worth"] (Qs yP):=Zf (by decide +kernel)
theorem sc_Walk_put_pair:Qy ["self", "number", "leaf", "new_page"] ["self", "number", "leaf"] (Qs qX):=Zf (by decide +kernel)
theorem jH:Qy ["self", "number", "leaf"] ["self", "number", "leaf"] (Qs YE):=Zf (by decide +kernel)
theorem sc_Walk_do_deed:Qy ["self", "number", "leaf", "word"] ["self", "number", "leaf"] (Qs zI):=Zf (by decide +kernel)
theorem sc_with_kid:Qy ["page", "key", "kid", "keys", "kids", "place", "behind"] ["page", "key", "kid"] (Qs Ue):=Zf (by decide +kernel)
theorem sc_Walk_tell_fork:Qy ["self", "number", "fork", "new_page"] ["self", "number", "fork"] (Qs qg):=Zf (by decide +kernel)
theorem UX:Qy ["self", "word", "number", "to"] ["self", "word", "number", "to"] (Qs xH):=Zf (by decide +kernel)
theorem gH:Qy ["page", "key"] ["page", "key"] (Qs Ks):=Zf (by decide +kernel)
theorem sc_beyond:Qy ["page", "key", "high"] ["page", "key"] (Qs vO):=Zf (by decide +kernel)
theorem sc_Shelf_raise_root:Qy ["self", "key", "number", "level"] ["self", "key", "number"] (Qs Yr):=Zf (by decide +kernel)
theorem qh:Qy ["self", "number"] ["self", "number"] (Qs Xv):=Zf (by decide +kernel)
theorem sc_Walk_step:Qy ["self", "number", "page"] ["self"] (Qs yK):=Zf (by decide +kernel)
theorem Qbl:Qy ["keys", "key"] ["keys", "key"] (Qs vP):=Zf (by decide +kernel)
theorem sc_law_with:Qy ["page", "key", "part", "at", "keys", "worths"] ["page", "key", "part"] (Qs Uc):=Zf (by decide +kernel)
theorem sc_law_put:Qy ["side", "state", "number", "page", "half", "key", "new", "behind"] ["side", "state", "number", "page"] (Qs Kv):=Zf (by decide +kernel)
theorem GD:Qy ["page", "low", "high"] ["page", "low", "high"] (Qs yN):=Zf (by decide +kernel)
theorem sc_law_leaf:Qy ["side", "state", "number", "page", "deed", "old", "pairs", "left", "keys"] ["side", "state", "number", "page"] (Qs V9):=Zf (by decide +kernel)
theorem sc_law_due:Qy ["side", "state", "number", "page"] ["side", "state"] (Qs Kt):=Zf (by decide +kernel)
theorem sc_law_stepped:Qy ["shelf", "side", "walk", "state", "many", "counts", "due", "found", "over", "read", "some"] ["shelf", "side", "walk", "state"] (Qs jy):=Zf (by decide +kernel)
theorem sc_law_pick:Qy ["cell", "prime", "many", "low"] ["cell", "prime", "many"] (Qs Ua):=Zf (by decide +kernel)
theorem yn:Qy ["self", "shelf", "deed"] ["self", "shelf", "deed"] (Qs qW):=Zf (by decide +kernel)
theorem GE:Qy ["cell"] ["cell"] (Qs yO):=Zf (by decide +kernel)
theorem sc_law_key:Qy ["cell", "way"] ["cell"] (Qs Ku):=Zf (by decide +kernel)
theorem sc_law_deed:Qy ["cell", "kind", "key", "low", "near", "far"] ["cell"] (Qs V7):=Zf (by decide +kernel)
theorem sc_law_done:Qy ["shelf", "deed", "walk", "k"] ["shelf", "deed"] (Qs V8):=Zf (by decide +kernel)
theorem xI:Qy ["self", "room"] ["self", "room"] (Qs qd):=Zf (by decide +kernel)
theorem sc_law_begun:Qy ["cell", "table", "shelf", "many", "k", "key"] ["cell", "table"] (Qs yM):=Zf (by decide +kernel)
theorem Ul:Qy ["script", "k"] ["script", "k"] (Qs jx):=Zf (by decide +kernel)
theorem sc_law:Qy ["script", "first", "shelf", "side", "hands", "walks", "states", "cell", "number", "hand", "many", "k", "deed", "readings"] ["script"] (Qs yL):=Zf (by decide +kernel)
section
variable {P:Program} {w:World} {K:PySem.W.Frag} {mg:Str->Option Value} {base:Heap} (Z:Al K mg)
include Z
theorem JF:XM P w K mg base "Shelf" "check_number" 1 2 ZC:=hM Z.u0 zd fun _ _ _ _ _ _ _ hr=>Qr (Zh (YN (ve Qa7 UP Ql (Qa 1) (Jh J0 Z.z0 PySem.boot_len (Qd (QM Z.k0 (Qa 0)) Qn)))) (Qr QdM) QK)
theorem Xl:XM P w K mg base "Shelf" "read" 2 2 Zd:=hM Z.u1 UU fun _ _ _ _ _ _ _ hr=>Qg (JW (ZE (JF Z) hr (by decide) QB (Qa 0) (Qd (Qa 1) Qn))) (Qg (x8 Z.k1 (Qa 0) Ql) (Qr (Qw (Qp (Qt hr) (QM Z.k0 (Qa 0)) (Qa 1)))))
theorem X7:∀ j:Nat,Has P w K mg base "_law_same" (0+j) 2 (Zx j)
 | 0=>let ⟨_,_,F,hm⟩:=Z.u2.ex;Qb3 F hm (ps:=["found", "due"]) (fun _ _ _ _ _ _ us hl=>match us,hl with | [_,_],_=>rfl)
 | j+1=>have h_law_same:=X7 j;hf Z.u2 sc_law_same fun _ _ _ _ _ _ _ hr=>Qg (Zh (Xj (jA Z.z1 Z.z5 boot_tuple (by decide) (Qa 1))) (Qg (Zh (DW.pt (VH (YN (Xj (jA Z.z1 Z.z5 boot_tuple (by decide) (Qa 0)))) (x9 (Q1 (V1 hr.units) (Jh J0 Z.z0 PySem.boot_len (Qd (Qa 0) Qn)) (Jh J0 Z.z0 PySem.boot_len (Qd (Qa 1) Qn)) (QP _))))) (Qr (Qw JN)) QK) (Qg (VG PassesOwn.never rfl (Qft (by rfl) (by exact Z.z6) (Qa 0) (Qa 1)) (Qfr [2,3] sc_law_same.nd (by repeat' (first | exact trivial | refine ⟨rfl,(by first | exact .inl rfl | exact .inr rfl),.inl rfl,?_⟩)) rfl (fun _ _ _=>rfl)) (Qr (Zh (YN (Xj (QG h_law_same hr (Nat.le_refl _) QB (Qd (Qa 2) (Qd (Qa 3) Qn))))) (Qr (Qw JN)) QK))) (Qr (Qw JN)))) QK) (Qg (Zh (DW.pt (VH (Q1 gm (Qa 1) Zu (QP _)) (x9 (Xj (jA Z.z1 Z.z4 boot_str (by decide) (Qa 1)))))) (Qr (Qw (KZ (qB (Yy hr.units) (Qa 0) (Qa 1) (QP _)) (uM (qB (Yy hr.units) (jA Z.z1 Z.z4 boot_str (by decide) (Qa 0)) (jA Z.z1 Z.z4 boot_str (by decide) (Qa 1)) (QP _)))))) QK) (Qr (Qw (KZ (jA Z.z1 Z.z2 boot_int (by decide) (Qa 0)) (KZ (Qfp (jA Z.z1 Z.z3 boot_bool (by decide) (Qa 0))) (uM (qB (Yy hr.units) (Qa 0) (Qa 1) (QP _))))))))
theorem XW:XM P w K mg base "Shelf" "pages" 1 1 Jc:=hM Z.u3 Uh fun _ _ _ _ _ _ _ hr=>Qr (Qw (Jh J0 Z.z0 PySem.boot_len (Qd (QM Z.k0 (Qa 0)) Qn)))
theorem Yo:XM P w K mg base "Shelf" "root" 1 1 ZH:=hM Z.u4 UW fun _ _ _ _ _ _ _ hr=>Qr (Qw (QM Z.k2 (Qa 0)))
theorem Yp:XM P w K mg base "Shelf" "writings" 1 1 ZD:=hM Z.u5 xK fun _ _ _ _ _ _ _ hr=>Qr (Qw (QM Z.k3 (Qa 0)))
theorem JG:XM P w K mg base "Shelf" "readings" 1 1 Q0:=hM Z.u6 xJ fun _ _ _ _ _ _ _ hr=>Qr (Qw (QM Z.k1 (Qa 0)))
theorem y8:XM P w K mg base "Walk" "answer" 1 1 XE:=hM Z.u7 Uj fun _ _ _ _ _ _ _ hr=>Qg (Zh (YN (Xj (QM Z.k7 (Qa 0)))) (Qr (Qw Zu)) QK) (Qg (Zh (Q1 (Yy hr.units) (Qp (Qt hr) (QM Z.k5 (Qa 0)) Ql) Qv (QP _)) (Qr (Qw (jl QdH Z.z7 boot_list (Qd (QM Z.k6 (Qa 0)) Qn)))) QK) (Qr (Qw (QM Z.k4 (Qa 0)))))
theorem jo:XM P w K mg base "Walk" "over" 1 1 XL:=hM Z.u8 GC fun _ _ _ _ _ _ _ hr=>Qr (Qw (QM Z.k7 (Qa 0)))
theorem jc:XM P w K mg base "Walk" "read_pairs" 1 3 Xh:=hM Z.u9 sc_Walk_read_pairs fun _ _ _ _ _ _ _ hr=>let ⟨_,g_SIDE⟩:=Z.g0.ex;let ⟨_,g_HIGH⟩:=Z.g1.ex;let ⟨_,g_KEYS⟩:=Z.g2.ex;let ⟨_,g_PARTS⟩:=Z.g3.ex;Qg (QH 3 sc_Walk_read_pairs.nd (Qp (Qt hr) (QM Z.k5 (Qa 0)) Ql)) (Qg (QH 4 sc_Walk_read_pairs.nd (Qp (Qt hr) (QM Z.k5 (Qa 0)) Ql)) (Qg (j6 5 sc_Walk_read_pairs.nd (caps:=["low", "high"]) (idx:=[3,4]) ⟨by with_unfolding_all rfl,by decide +kernel,rfl,by decide +kernel,rfl,(by exact ⟨rfl,⟨rfl,trivial⟩⟩),by with_unfolding_all rfl,(by exact ⟨rfl,.inl rfl,⟨_,rfl⟩,(fun h=>NameKind.noConfusion (Option.some.inj (show some NameKind.cell=some NameKind.local from h))),⟨rfl,.inl rfl,⟨_,rfl⟩,(fun h=>NameKind.noConfusion (Option.some.inj (show some NameKind.cell=some NameKind.local from h))),trivial⟩⟩),by decide⟩ rfl (j8 (K1 (by rfl) (by exact Z.z6) (Qp (Qt hr) (Qa 2) (Zg rfl g_KEYS)) (Qp (Qt hr) (Qa 2) (Zg rfl g_PARTS)))) (fun _ _ _ _=>qC (ve Qa7 UP (Qa 1) (Qp (Qt hr) (Qa 0) Ql) (Qa 2))) (fun _ _ _ _=>Qa 0)) (Qg (JW (zj Qck PySem.F.plainAttrs_list PySem.F.slot_list_extend PySem.F.type_list_extend (QM Z.k6 (Qa 0)) (Qd (Qa 5) Qn))) (Qg (Zh (DW.pt (VH (Q1 gm (Qp (Qt hr) (Qa 2) (Zg rfl g_HIGH)) Zu (QP _)) (x9 (Q1 Qed (Qp (Qt hr) (Qa 2) (Zg rfl g_HIGH)) (Qa 4) (QP _))))) (Qg (ZB Z.k7 (Qa 0) JN) (Qr (Qw (Q2 (Qd Qv (Qd (Qa 1) (Qd (jl Yl Z.z5 boot_tuple (Qd (Qa 5) Qn)) (Qd Zu (Qd Zu Qn))))))))) QK) (Qg (ZB Z.k8 (Qa 0) (Qp (Qt hr) (Qa 2) (Zg rfl g_HIGH))) (Qg (ZB Z.k9 (Qa 0) (Qp (Qt hr) (Qa 2) (Zg rfl g_SIDE))) (Qr (Qw (Q2 (Qd Qv (Qd (Qa 1) (Qd (jl Yl Z.z5 boot_tuple (Qd (Qa 5) Qn)) (Qd (QM Z.k9 (Qa 0)) (Qd (QM Z.k8 (Qa 0)) Qn))))))))))))))
theorem XX:XM P w K mg base "Shelf" "write" 2 3 JJ:=hM Z.u10 Ui fun _ _ _ _ _ _ _ hr=>Qg (JW (ZE (JF Z) hr (by decide) QB (Qa 0) (Qd (Qa 1) Qn))) (Qg (x8 Z.k3 (Qa 0) Ql) (Qr (Zz (Qa 2) (Zy (Qt hr) (QM Z.k0 (Qa 0)) (Qa 1)))))
theorem xl:Has P w K mg base "refilled" 1 3 qu:=hf Z.u11 vR fun _ _ _ _ _ _ _ hr=>let ⟨_,g_SIDE⟩:=Z.g0.ex;let ⟨_,g_HIGH⟩:=Z.g1.ex;let ⟨_,g_LEVEL⟩:=Z.g4.ex;Qr (Qw (Q2 (Qd (JO (Qa 0) (Zg rfl g_LEVEL)) (Qd (Qa 1) (Qd (Qa 2) (Qd (JO (Qa 0) (Zg rfl g_HIGH)) (Qd (JO (Qa 0) (Zg rfl g_SIDE)) Qn)))))))
theorem Jy:Has P w K mg base "count_not_above" 1 2 ZI:=hf Z.u12 jI fun _ _ _ _ _ _ _ hr=>Qr (Qw (Jh J0 Z.z0 PySem.boot_len (Qd (Xi (caps:=["key"]) (idx:=[1]) ⟨by with_unfolding_all rfl,by decide +kernel,rfl,by decide +kernel,rfl,(by exact ⟨rfl,trivial⟩),by with_unfolding_all rfl,(by exact ⟨rfl,.inl rfl,⟨_,rfl⟩,(fun h=>NameKind.noConfusion (Option.some.inj (show some NameKind.cell=some NameKind.local from h))),trivial⟩),by decide⟩ rfl (j8 (uN (Qa 0))) (fun _ _ _ _=>qC (Q1 Qa7 (Qa 0) (Qa 1) (QP _))) (fun _ _ _ _=>Qa 0)) Qn)))
theorem qV:Has P w K mg base "count_below" 1 2 XG:=hf Z.u13 Uk fun _ _ _ _ _ _ _ hr=>Qr (Qw (Jh J0 Z.z0 PySem.boot_len (Qd (Xi (caps:=["key"]) (idx:=[1]) ⟨by with_unfolding_all rfl,by decide +kernel,rfl,by decide +kernel,rfl,(by exact ⟨rfl,trivial⟩),by with_unfolding_all rfl,(by exact ⟨rfl,.inl rfl,⟨_,rfl⟩,(fun h=>NameKind.noConfusion (Option.some.inj (show some NameKind.cell=some NameKind.local from h))),trivial⟩),by decide⟩ rfl (j8 (uN (Qa 0))) (fun _ _ _ _=>qC (Q1 UP (Qa 0) (Qa 1) (QP _))) (fun _ _ _ _=>Qa 0)) Qn)))
theorem xm:Has P w K mg base "with_run" 2 4 qw:=hf Z.u14 sc_with_run fun _ _ _ _ _ _ _ hr=>let ⟨_,g_PARTS⟩:=Z.g3.ex;let ⟨_,g_KEYS⟩:=Z.g2.ex;Qg (QH 4 sc_with_run.nd (JO (Qa 0) (Zg rfl g_KEYS))) (Qg (QH 5 sc_with_run.nd (JO (Qa 0) (Zg rfl g_PARTS))) (Qg (QH 6 sc_with_run.nd (QG (qV Z) hr (by decide) QB (Qd (Qa 4) (Qd (Qa 1) Qn)))) (Qg (QH 7 sc_with_run.nd (QG (Jy Z) hr (by decide) QB (Qd (Qa 4) (Qd (Qa 1) Qn)))) (Qr (Qw (QG (xl Z) hr (by decide) QB (Qd (Qa 0) (Qd (QC ZT (QC ZT (J2 (Qa 4) ZZ (Z0 (Qa 6))) (Qa 2)) (J2 (Qa 4) (Z0 (Qa 7)) ZZ)) (Qd (QC ZT (QC ZT (J2 (Qa 5) ZZ (Z0 (Qa 6))) (Qa 3)) (J2 (Qa 5) (Z0 (Qa 7)) ZZ)) Qn)))))))))
theorem vz:Has P w K mg base "without" 3 2 xU:=hf Z.u15 gI fun _ _ _ _ _ _ _ hr=>Qr (Qw (QG (xm Z) hr (by decide) QB (Qd (Qa 0) (Qd (Qa 1) (Qd (Q2 Qn) (Qd (Q2 Qn) Qn))))))
theorem qE:Has P w K mg base "worth_of" 2 2 J9:=hf Z.u16 sc_worth_of fun _ _ _ _ _ _ _ hr=>let ⟨_,g_PARTS⟩:=Z.g3.ex;let ⟨_,g_KEYS⟩:=Z.g2.ex;Qg (QH 2 sc_worth_of.nd (JO (Qa 0) (Zg rfl g_KEYS))) (Qg (QH 3 sc_worth_of.nd (QG (qV Z) hr (by decide) QB (Qd (Qa 2) (Qd (Qa 1) Qn)))) (Qg (Zh (Q1 (Qec hr.units) (Qa 3) (QG (Jy Z) hr (by decide) QB (Qd (Qa 2) (Qd (Qa 1) Qn))) (QP _)) (Qr (Qw Zu)) QK) (Qr (Qw (JO (JO (Qa 0) (Zg rfl g_PARTS)) (Qa 3))))))
theorem yb:XM P w K mg base "Walk" "cut_key" 4 3 Yf:=hM Z.u17 Vf fun _ _ _ _ _ _ _ hr=>Qg (ZB Z.k4 (Qa 0) (QG (qE Z) hr (by decide) QB (Qd (Qa 2) (Qd (QM Z.k8 (Qa 0)) Qn)))) (Qg (Zh (Q1 V0 (QM Z.k4 (Qa 0)) Zu (QP _)) (Qr (JW (ZE (XX Z) hr (by decide) QB (QM Z.k10 (Qa 0)) (Qd (Qa 1) (Qd (QG (vz Z) hr (by decide) QB (Qd (Qa 2) (Qd (QM Z.k8 (Qa 0)) Qn))) Qn))))) QK) (Qg (ZB Z.k7 (Qa 0) JN) (Qr (Qw (Q2 (Qd Qv (Qd (Qa 1) (Qd (QM Z.k4 (Qa 0)) Qn))))))))
theorem jn:XM P w K mg base "Shelf" "lay" 1 2 XJ:=hM Z.u18 GB fun _ _ _ _ _ _ _ hr=>Qg (x8 Z.k3 (Qa 0) Ql) (Qg (JW (zj xt PySem.F.plainAttrs_list PySem.F.slot_list_append PySem.F.type_list_append (QM Z.k0 (Qa 0)) (Qd (Qa 1) Qn))) (Qr (Qw (QC yG (Jh J0 Z.z0 PySem.boot_len (Qd (QM Z.k0 (Qa 0)) Qn)) Ql))))
theorem uU:Has P w K mg base "parted" 1 2 jP:=hf Z.u19 sc_parted fun _ _ _ _ _ _ _ hr=>let ⟨_,g_SIDE⟩:=Z.g0.ex;let ⟨_,g_HIGH⟩:=Z.g1.ex;let ⟨_,g_PARTS⟩:=Z.g3.ex;let ⟨_,g_KEYS⟩:=Z.g2.ex;let ⟨_,g_LEVEL⟩:=Z.g4.ex;Qg (QH 2 sc_parted.nd (JO (Qa 0) (Zg rfl g_LEVEL))) (Qg (QH 3 sc_parted.nd (JO (Qa 0) (Zg rfl g_KEYS))) (Qg (QH 4 sc_parted.nd (JO (Qa 0) (Zg rfl g_PARTS))) (Qg (QH 5 sc_parted.nd (QC Qcy (Jh ki Z.z0 PySem.boot_len (Qd (Qa 3) Qn)) Ql)) (Qg (QH 6 sc_parted.nd (JO (Qa 3) (Qa 5))) (Qg (QH 7 sc_parted.nd (Qe3 (Q1 (Qec hr.units) (Qa 2) Ql (QP _)) (Qa 5) (QC ZT (Qa 5) Ql))) (Qg (QH 8 sc_parted.nd (Q2 (Qd (Qa 2) (Qd (J2 (Qa 3) ZZ (Z0 (Qa 5))) (Qd (J2 (Qa 4) ZZ (Z0 (Qa 7))) (Qd (Qa 6) (Qd (Qa 1) Qn))))))) (Qg (QH 9 sc_parted.nd (Q2 (Qd (Qa 2) (Qd (J2 (Qa 3) (Z0 (Qa 7)) ZZ) (Qd (J2 (Qa 4) (Z0 (Qa 7)) ZZ) (Qd (JO (Qa 0) (Zg rfl g_HIGH)) (Qd (JO (Qa 0) (Zg rfl g_SIDE)) Qn))))))) (Qr (Qw (Q2 (Qd (Qa 8) (Qd (Qa 9) (Qd (Qa 6) Qn)))))))))))))
theorem zr:XM P w K mg base "Shelf" "room" 1 1 ZX:=hM Z.u20 UV fun _ _ _ _ _ _ _ hr=>Qr (Qw (QM Z.k11 (Qa 0)))
theorem vq:Has P w K mg base "is_full" 1 2 Yd:=hf Z.u21 gG fun _ _ _ _ _ _ _ hr=>let ⟨_,g_KEYS⟩:=Z.g2.ex;Qr (Qw (qB Qcz (Jh ki Z.z0 PySem.boot_len (Qd (JO (Qa 0) (Zg rfl g_KEYS)) Qn)) (Qa 1) (QP _)))
theorem qU:XM P w K mg base "Walk" "settle" 3 3 XF:=hM Z.u22 sc_Walk_settle fun _ _ _ _ _ _ _ hr=>let ⟨_,g_LEVEL⟩:=Z.g4.ex;Qg (Zh (YN (Xj (QG (vq Z) hr (by decide) QB (Qd (Qa 2) (Qd (ZL (zr Z) hr (by decide) QB (QM Z.k10 (Qa 0))) Qn))))) (Qg (JW (ZE (XX Z) hr (by decide) QB (QM Z.k10 (Qa 0)) (Qd (Qa 1) (Qd (Qa 2) Qn)))) (Qg (ZB Z.k7 (Qa 0) JN) (Qr (Qw Zu)))) QK) (Qg (QH 3 sc_Walk_settle.nd (QG (uU Z) hr (by decide) QB (Qd (Qa 2) (Qd (ZL (XW Z) hr (by decide) QB (QM Z.k10 (Qa 0))) Qn)))) (Qg (ZB Z.k12 (Qa 0) (ZE (jn Z) hr (by decide) QB (QM Z.k10 (Qa 0)) (Qd (Qp (Qt hr) (Qa 3) Ql) Qn))) (Qg (JW (ZE (XX Z) hr (by decide) QB (QM Z.k10 (Qa 0)) (Qd (Qa 1) (Qd (Qp (Qt hr) (Qa 3) Ql) Qn)))) (Qg (ZB Z.k8 (Qa 0) (Qp (Qt hr) (Qa 3) Ql)) (Qg (ZB Z.k14 (Qa 0) (QC ZT (Qp (Qt hr) (Qa 2) (Zg rfl g_LEVEL)) Ql)) (Qg (ZB Z.k9 (Qa 0) (zj (gb (Qt hr)) PySem.F.plainAttrs_dict PySem.F.slot_dict_get PySem.F.type_dict_get (QM Z.k13 (Qa 0)) (Qd (QM Z.k14 (Qa 0)) Qn))) (Qr (Qw (QM Z.k12 (Qa 0))))))))))
theorem UO:Has P w K mg base "with_pair" 3 3 zg:=hf Z.u23 GF fun _ _ _ _ _ _ _ hr=>Qr (Qw (QG (xm Z) hr (by decide) QB (Qd (Qa 0) (Qd (Qa 1) (Qd (Q2 (Qd (Qa 1) Qn)) (Qd (Q2 (Qd (Qa 2) Qn)) Qn))))))
theorem xi:XM P w K mg base "Walk" "put_pair" 4 3 XS:=hM Z.u24 sc_Walk_put_pair fun _ _ _ _ _ _ _ hr=>Qg (ZB Z.k4 (Qa 0) (QG (qE Z) hr (by decide) QB (Qd (Qa 2) (Qd (QM Z.k8 (Qa 0)) Qn)))) (Qg (QH 3 sc_Walk_put_pair.nd (ZE (qU Z) hr (by decide) QB (Qa 0) (Qd (Qa 1) (Qd (QG (UO Z) hr (by decide) QB (Qd (Qa 2) (Qd (QM Z.k8 (Qa 0)) (Qd (Qp (Qt hr) (QM Z.k5 (Qa 0)) Ql) Qn)))) Qn)))) (Qr (Qw (Q2 (Qd Qv (Qd (Qa 1) (Qd (QM Z.k4 (Qa 0)) (Qd (Qa 3) Qn))))))))
theorem jb:XM P w K mg base "Walk" "find_worth" 3 3 Xg:=hM Z.u25 jH fun _ _ _ _ _ _ _ hr=>Qg (ZB Z.k4 (Qa 0) (QG (qE Z) hr (by decide) QB (Qd (Qa 2) (Qd (QM Z.k8 (Qa 0)) Qn)))) (Qg (ZB Z.k7 (Qa 0) JN) (Qr (Qw (Q2 (Qd Qv (Qd (Qa 1) (Qd (QM Z.k4 (Qa 0)) Qn)))))))
theorem yc:XM P w K mg base "Walk" "do_deed" 5 3 Yg:=hM Z.u26 sc_Walk_do_deed fun _ _ _ _ _ _ _ hr=>Qg (QH 3 sc_Walk_do_deed.nd (Qp (Qt hr) (QM Z.k5 (Qa 0)) Ql)) (Qg (Zh (Q1 (Yy hr.units) (Qa 3) Qv (QP _)) (Qr (Qw (ZE (jb Z) hr (by decide) QB (Qa 0) (Qd (Qa 1) (Qd (Qa 2) Qn))))) QK) (Qg (Zh (Q1 (Yy hr.units) (Qa 3) Qv (QP _)) (Qr (Qw (ZE (xi Z) hr (by decide) QB (Qa 0) (Qd (Qa 1) (Qd (Qa 2) Qn))))) QK) (Qg (Zh (Q1 (Yy hr.units) (Qa 3) Qv (QP _)) (Qr (Qw (ZE (yb Z) hr (by decide) QB (Qa 0) (Qd (Qa 1) (Qd (Qa 2) Qn))))) QK) (Qr (Qw (ZE (jc Z) hr (by decide) QB (Qa 0) (Qd (Qa 1) (Qd (Qa 2) Qn))))))))
theorem Gb:Has P w K mg base "with_kid" 2 3 qv:=hf Z.u27 sc_with_kid fun _ _ _ _ _ _ _ hr=>let ⟨_,g_PARTS⟩:=Z.g3.ex;let ⟨_,g_KEYS⟩:=Z.g2.ex;Qg (QH 3 sc_with_kid.nd (JO (Qa 0) (Zg rfl g_KEYS))) (Qg (QH 4 sc_with_kid.nd (JO (Qa 0) (Zg rfl g_PARTS))) (Qg (QH 5 sc_with_kid.nd (QG (Jy Z) hr (by decide) QB (Qd (Qa 3) (Qd (Qa 1) Qn)))) (Qg (QH 6 sc_with_kid.nd (QC ZT (Qa 5) Ql)) (Qr (Qw (QG (xl Z) hr (by decide) QB (Qd (Qa 0) (Qd (QC ZT (QC ZT (J2 (Qa 3) ZZ (Z0 (Qa 5))) (Q2 (Qd (Qa 1) Qn))) (J2 (Qa 3) (Z0 (Qa 5)) ZZ)) (Qd (QC ZT (QC ZT (J2 (Qa 4) ZZ (Z0 (Qa 6))) (Q2 (Qd (Qa 2) Qn))) (J2 (Qa 4) (Z0 (Qa 6)) ZZ)) Qn)))))))))
theorem jF:XM P w K mg base "Walk" "tell_fork" 4 3 Xz:=hM Z.u28 sc_Walk_tell_fork fun _ _ _ _ _ _ _ hr=>Qg (QH 3 sc_Walk_tell_fork.nd (ZE (qU Z) hr (by decide) QB (Qa 0) (Qd (Qa 1) (Qd (QG (Gb Z) hr (by decide) QB (Qd (Qa 2) (Qd (QM Z.k8 (Qa 0)) (Qd (QM Z.k12 (Qa 0)) Qn)))) Qn)))) (Qr (Qw (Q2 (Qd Qv (Qd (Qa 1) (Qd (Qa 3) Qn))))))
theorem zt:XM P w K mg base "Walk" "go_on" 1 4 JV:=hM Z.u29 UX fun _ _ _ _ _ _ _ hr=>Qg (ZB Z.k9 (Qa 0) (Qa 3)) (Qr (Qw (Q2 (Qd (Qa 1) (Qd (Qa 2) (Qd (Qa 3) Qn))))))
theorem vt:Has P w K mg base "kid_for" 2 2 YX:=hf Z.u30 gH fun _ _ _ _ _ _ _ hr=>let ⟨_,g_PARTS⟩:=Z.g3.ex;let ⟨_,g_KEYS⟩:=Z.g2.ex;Qr (Qw (JO (JO (Qa 0) (Zg rfl g_PARTS)) (QG (Jy Z) hr (by decide) QB (Qd (JO (Qa 0) (Zg rfl g_KEYS)) (Qd (Qa 1) Qn)))))
theorem uT:Has P w K mg base "beyond" 1 2 YW:=hf Z.u31 sc_beyond fun _ _ _ _ _ _ _ hr=>let ⟨_,g_HIGH⟩:=Z.g1.ex;Qg (QH 2 sc_beyond.nd (JO (Qa 0) (Zg rfl g_HIGH))) (Qr (Qw (KZ (qB V0 (Qa 2) Zu (QP _)) (uM (qB Qed (Qa 1) (Qa 2) (QP _))))))
theorem zq:XM P w K mg base "Shelf" "raise_root" 2 3 Jf:=hM Z.u32 sc_Shelf_raise_root fun _ _ _ _ _ _ _ hr=>let ⟨_,g_LEVEL⟩:=Z.g4.ex;Qg (JW (ZE (JF Z) hr (by decide) QB (Qa 0) (Qd (Qa 2) Qn))) (Qg (QH 3 sc_Shelf_raise_root.nd (QC ZT (Qp (Qt hr) (Qp (Qt hr) (QM Z.k0 (Qa 0)) (QM Z.k2 (Qa 0))) (Zg rfl g_LEVEL)) Ql)) (Qg (ZB Z.k2 (Qa 0) (ZE (jn Z) hr (by decide) QB (Qa 0) (Qd (Q2 (Qd (Qa 3) (Qd (Q2 (Qd (Qa 1) Qn)) (Qd (Q2 (Qd (QM Z.k2 (Qa 0)) (Qd (Qa 2) Qn))) (Qd Zu (Qd Zu Qn)))))) Qn))) (Qr (Qw (QM Z.k2 (Qa 0))))))
theorem YO:XM P w K mg base "Walk" "raise_root_over" 3 2 Z5:=hM Z.u33 qh fun _ _ _ _ _ _ _ hr=>Qg (ZB Z.k7 (Qa 0) JN) (Qr (Qw (Q2 (Qd Qv (Qd (Qa 1) (Qd (ZE (zq Z) hr (by decide) QB (QM Z.k10 (Qa 0)) (Qd (QM Z.k8 (Qa 0)) (Qd (QM Z.k12 (Qa 0)) Qn))) Qn))))))
theorem jp:XM P w K mg base "Walk" "step" 6 1 JR:=hM Z.u34 sc_Walk_step fun _ _ _ _ _ _ _ hr=>let ⟨_,g_LEVEL⟩:=Z.g4.ex;let ⟨_,g_SIDE⟩:=Z.g0.ex;Qg (Zh (Xj (QM Z.k7 (Qa 0))) (Qr (Qw Zu)) QK) (Qg (QH 1 sc_Walk_step.nd (Qe3 (Q1 gm (QM Z.k9 (Qa 0)) Zu (QP _)) (ZL (Yo Z) hr (by decide) QB (QM Z.k10 (Qa 0))) (QM Z.k9 (Qa 0)))) (Qg (QH 2 sc_Walk_step.nd (ZE (Xl Z) hr (by decide) QB (QM Z.k10 (Qa 0)) (Qd (Qa 1) Qn))) (Qg (Zh (DW.pt (K2 (Q1 gm (QM Z.k9 (Qa 0)) Zu (QP _)) (Vj (Q1 UP (Qp (Qt hr) (Qa 2) (Zg rfl g_LEVEL)) (QM Z.k14 (Qa 0)) (QP _))))) (Qr (Qw (ZE (YO Z) hr (by decide) QB (Qa 0) (Qd (Qa 1) Qn)))) QK) (Qg (Zh (Xj (QG (uT Z) hr (by decide) QB (Qd (Qa 2) (Qd (QM Z.k8 (Qa 0)) Qn)))) (Qr (Qw (ZE (zt Z) hr (by decide) QB (Qa 0) (Qd Qv (Qd (Qa 1) (Qd (Qp (Qt hr) (Qa 2) (Zg rfl g_SIDE)) Qn)))))) QK) (Qg (Zh (Q1 Qcz (Qp (Qt hr) (Qa 2) (Zg rfl g_LEVEL)) (QM Z.k14 (Qa 0)) (QP _)) (Qg (Zz (Qa 1) (Zy (Qt hr) (QM Z.k13 (Qa 0)) (Qp (Qt hr) (Qa 2) (Zg rfl g_LEVEL)))) (Qr (Qw (ZE (zt Z) hr (by decide) QB (Qa 0) (Qd Qv (Qd (Qa 1) (Qd (QG (vt Z) hr (by decide) QB (Qd (Qa 2) (Qd (QM Z.k8 (Qa 0)) Qn))) Qn))))))) QK) (Qg (Zh (Q1 Qcz (QM Z.k14 (Qa 0)) Ql (QP _)) (Qr (Qw (ZE (jF Z) hr (by decide) QB (Qa 0) (Qd (Qa 1) (Qd (Qa 2) Qn))))) QK) (Qr (Qw (ZE (yc Z) hr (by decide) QB (Qa 0) (Qd (Qa 1) (Qd (Qa 2) Qn)))))))))))
theorem VN:Has P w K mg base "_law_at" 1 2 Yh:=hf Z.u35 Qbl fun _ _ _ _ _ _ _ hr=>Qr (Qw (Jh J0 Z.z0 PySem.boot_len (Qd (Xi (caps:=["key"]) (idx:=[1]) ⟨by with_unfolding_all rfl,by decide +kernel,rfl,by decide +kernel,rfl,(by exact ⟨rfl,trivial⟩),by with_unfolding_all rfl,(by exact ⟨rfl,.inl rfl,⟨_,rfl⟩,(fun h=>NameKind.noConfusion (Option.some.inj (show some NameKind.cell=some NameKind.local from h))),trivial⟩),by decide⟩ rfl (j8 (uN (Qa 0))) (fun _ _ _ _=>qC (Q1 Qa7 (Qa 0) (Qa 1) (QP _))) (fun _ _ _ _=>Qa 0)) Qn)))
theorem xj:Has P w K mg base "_law_with" 2 3 Jg:=hf Z.u36 sc_law_with fun _ _ _ _ _ _ _ hr=>Qg (Zh (Q1 (Yy hr.units) (Qp (Qt hr) (Qa 0) Ql) Ql (QP _)) (Qg (QH 5 sc_law_with.nd (va Z.z9 Z.z6 rfl (Qp (Qt hr) (Qa 0) Ql) (Qp (Qt hr) (Qa 0) Ql))) (Qg (Zz (Qa 2) (Zy (Qt hr) (Qa 5) (Qa 1))) (Qg (QH 4 sc_law_with.nd (Jh (QaL rfl) Z.z8 boot_sorted (Qd (Qa 5) Qn))) (Qr (Qw (Q2 (Qd Ql (Qd (jl Yl Z.z5 boot_tuple (Qd (Qa 4) Qn)) (Qd (jl Yl Z.z5 boot_tuple (Qd (Xi (caps:=["worths"]) (idx:=[5]) ⟨by with_unfolding_all rfl,by decide +kernel,rfl,by decide +kernel,rfl,(by exact ⟨rfl,trivial⟩),by with_unfolding_all rfl,(by exact ⟨rfl,.inl rfl,⟨_,rfl⟩,(fun h=>NameKind.noConfusion (Option.some.inj (show some NameKind.cell=some NameKind.local from h))),trivial⟩),by decide⟩ rfl (j7 (Qa 4)) (fun _ _ _ _=>zR) (fun _ _ _ _=>Qp (Qt hr) (Qa 1) (Qa 0))) Qn)) (Qd (Qp (Qt hr) (Qa 0) Ql) (Qd (Qp (Qt hr) (Qa 0) Ql) Qn))))))))))) QK) (Qg (QH 3 sc_law_with.nd (QG (VN Z) hr (by decide) QB (Qd (Qp (Qt hr) (Qa 0) Ql) (Qd (Qa 1) Qn)))) (Qg (QH 4 sc_law_with.nd (QC ZT (QC ZT (J2 (Qp (Qt hr) (Qa 0) Ql) ZZ (Z0 (Qa 3))) (Q2 (Qd (Qa 1) Qn))) (J2 (Qp (Qt hr) (Qa 0) Ql) (Z0 (Qa 3)) ZZ))) (Qr (Qw (Q2 (Qd (Qp (Qt hr) (Qa 0) Ql) (Qd (Qa 4) (Qd (QC ZT (QC ZT (J2 (Qp (Qt hr) (Qa 0) Ql) ZZ (Z0 (QC ZT (Qa 3) Ql))) (Q2 (Qd (Qa 2) Qn))) (J2 (Qp (Qt hr) (Qa 0) Ql) (Z0 (QC ZT (Qa 3) Ql)) ZZ)) (Qd (Qp (Qt hr) (Qa 0) Ql) (Qd (Qp (Qt hr) (Qa 0) Ql) Qn))))))))))
theorem yA:Has P w K mg base "_law_put" 1 4 Xb:=hf Z.u37 sc_law_put fun _ _ _ _ _ _ _ hr=>Qg (Zh (Q1 Qa7 (Jh J0 Z.z0 PySem.boot_len (Qd (Qp (Qt hr) (Qa 3) Ql) Qn)) (Qp (Qt hr) (Qa 0) Qv) (QP _)) (Qg (Zz (Qa 3) (Zy (Qt hr) (Qp (Qt hr) (Qa 0) Qv) (Qa 2))) (Qg (Zz Ql (Zy (Qt hr) (Qa 0) Qv)) (Qg (Zz JN (Zy (Qt hr) (Qa 1) Qv)) (Qr (Qw Zu))))) QK) (Qg (QH 4 sc_law_put.nd (QC Qcy (Jh J0 Z.z0 PySem.boot_len (Qd (Qp (Qt hr) (Qa 3) Ql) Qn)) Ql)) (Qg (QH 5 sc_law_put.nd (Qp (Qt hr) (Qp (Qt hr) (Qa 3) Ql) (Qa 4))) (Qg (QH 6 sc_law_put.nd (Jh J0 Z.z0 PySem.boot_len (Qd (Qp (Qt hr) (Qa 0) Qv) Qn))) (Qg (QH 7 sc_law_put.nd (QC ZT (Qa 4) (jl Qe1 Z.z2 boot_int (Qd (qB Qcz (Qp (Qt hr) (Qa 3) Ql) Ql (QP _)) Qn)))) (Qg (JW (zj xt PySem.F.plainAttrs_list PySem.F.slot_list_append PySem.F.type_list_append (Qp (Qt hr) (Qa 0) Qv) (Qd (Q2 (Qd (Qp (Qt hr) (Qa 3) Ql) (Qd (J2 (Qp (Qt hr) (Qa 3) Ql) (Z0 (Qa 7)) ZZ) (Qd (J2 (Qp (Qt hr) (Qa 3) Ql) (Z0 (Qa 7)) ZZ) (Qd (Qp (Qt hr) (Qa 3) Ql) (Qd (Qp (Qt hr) (Qa 3) Ql) Qn)))))) Qn))) (Qg (Zz (Q2 (Qd (Qp (Qt hr) (Qa 3) Ql) (Qd (J2 (Qp (Qt hr) (Qa 3) Ql) ZZ (Z0 (Qa 4))) (Qd (J2 (Qp (Qt hr) (Qa 3) Ql) ZZ (Z0 (Qa 7))) (Qd (Qa 5) (Qd (Qa 6) Qn)))))) (Zy (Qt hr) (Qp (Qt hr) (Qa 0) Qv) (Qa 2))) (Qg (Zz Ql (Zy (Qt hr) (Qa 0) Qv)) (Qg (Zz (Qa 5) (Zy (Qt hr) (Qa 1) Qv)) (Qg (Zz (Qa 6) (Zy (Qt hr) (Qa 1) Qv)) (Qg (Zz (QC ZT (Qp (Qt hr) (Qa 3) Ql) Ql) (Zy (Qt hr) (Qa 1) Qv)) (Qg (Zz (zj (gb (Qt hr)) PySem.F.plainAttrs_dict PySem.F.slot_dict_get PySem.F.type_dict_get (Qp (Qt hr) (Qa 1) Qv) (Qd (QC ZT (Qp (Qt hr) (Qa 3) Ql) Ql) Qn)) (Zy (Qt hr) (Qa 1) Qv)) (Qr (Qw (Qa 6))))))))))))))
theorem UL:Has P w K mg base "_law_pairs" 1 3 Xa:=hf Z.u38 GD fun _ _ _ _ _ _ _ hr=>Qr (Qw (jl Yl Z.z5 boot_tuple (Qd (Xi (caps:=["low", "high"]) (idx:=[1,2]) ⟨by with_unfolding_all rfl,by decide +kernel,rfl,by decide +kernel,rfl,(by exact ⟨rfl,⟨rfl,trivial⟩⟩),by with_unfolding_all rfl,(by exact ⟨rfl,.inl rfl,⟨_,rfl⟩,(fun h=>NameKind.noConfusion (Option.some.inj (show some NameKind.cell=some NameKind.local from h))),⟨rfl,.inl rfl,⟨_,rfl⟩,(fun h=>NameKind.noConfusion (Option.some.inj (show some NameKind.cell=some NameKind.local from h))),trivial⟩⟩),by decide⟩ rfl (j8 (K1 (by rfl) (by exact Z.z6) (Qp (Qt hr) (Qa 0) Ql) (Qp (Qt hr) (Qa 0) Ql))) (fun _ _ _ _=>qC (DW.pt (K2 (Q1 Qa7 (Qa 1) (Qp (Qt hr) (Qa 0) Ql) (QP _)) (Vj (Q1 UP (Qp (Qt hr) (Qa 0) Ql) (Qa 2) (QP _)))))) (fun _ _ _ _=>Qa 0)) Qn)))
theorem Ga:Has P w K mg base "_law_leaf" 3 4 qt:=hf Z.u39 sc_law_leaf fun _ _ _ _ _ _ _ hr=>Qg (QH 4 sc_law_leaf.nd (Qp (Qt hr) (Qa 1) Qv)) (Qg (QH 5 sc_law_leaf.nd (zj (gb (Qt hr)) PySem.F.plainAttrs_dict PySem.F.slot_dict_get PySem.F.type_dict_get (va Z.z9 Z.z6 rfl (Qp (Qt hr) (Qa 3) Ql) (Qp (Qt hr) (Qa 3) Ql)) (Qd (Qp (Qt hr) (Qa 1) Qv) Qn))) (Qg (Zh (Q1 (Yy hr.units) (Qp (Qt hr) (Qa 4) Ql) Qv (QP _)) (Qr (Qw (Q2 (Qd Qv (Qd (Qa 2) (Qd (Qa 5) (Qd (QG (yA Z) hr (by decide) QB (Qd (Qa 0) (Qd (Qa 1) (Qd (Qa 2) (Qd (QG (xj Z) hr (by decide) QB (Qd (Qa 3) (Qd (Qp (Qt hr) (Qa 1) Qv) (Qd (Qp (Qt hr) (Qa 4) Ql) Qn)))) Qn))))) Qn))))))) QK) (Qg (Zh (Q1 (Yy hr.units) (Qp (Qt hr) (Qa 4) Ql) Qv (QP _)) (Qg (QH 6 sc_law_leaf.nd (QG (UL Z) hr (by decide) QB (Qd (Qa 3) (Qd (Qp (Qt hr) (Qa 4) Ql) (Qd (Qp (Qt hr) (Qa 4) Ql) Qn))))) (Qg (Zh (DW.pt (VH (Q1 gm (Qp (Qt hr) (Qa 3) Ql) Zu (QP _)) (x9 (Q1 Qed (Qp (Qt hr) (Qa 3) Ql) (Qp (Qt hr) (Qa 4) Ql) (QP _))))) (Qg (Zz JN (Zy (Qt hr) (Qa 1) Qv)) (Qr (Qw (Q2 (Qd Qv (Qd (Qa 2) (Qd (Qa 6) (Qd Zu (Qd Zu Qn))))))))) QK) (Qg (Zz (Qp (Qt hr) (Qa 3) Ql) (Zy (Qt hr) (Qa 1) Qv)) (Qg (Zz (Qp (Qt hr) (Qa 3) Ql) (Zy (Qt hr) (Qa 1) Qv)) (Qr (Qw (Q2 (Qd Qv (Qd (Qa 2) (Qd (Qa 6) (Qd (Qp (Qt hr) (Qa 3) Ql) (Qd (Qp (Qt hr) (Qa 3) Ql) Qn)))))))))))) QK) (Qg (Zz JN (Zy (Qt hr) (Qa 1) Qv)) (Qg (Zh (Q1 (Yy hr.units) (Qp (Qt hr) (Qa 4) Ql) Qv (QP _)) (Qr (Qw (Q2 (Qd Qv (Qd (Qa 2) (Qd (Qa 5) Qn)))))) QK) (Qg (Zh (Q1 V0 (Qa 5) Zu (QP _)) (Qg (j6 7 sc_law_leaf.nd (caps:=["state"]) (idx:=[1]) ⟨by with_unfolding_all rfl,by decide +kernel,rfl,by decide +kernel,rfl,(by exact ⟨rfl,trivial⟩),by with_unfolding_all rfl,(by exact ⟨rfl,.inl rfl,⟨_,rfl⟩,(fun h=>NameKind.noConfusion (Option.some.inj (show some NameKind.cell=some NameKind.local from h))),trivial⟩),by decide⟩ rfl (j8 (K1 (by rfl) (by exact Z.z6) (Qp (Qt hr) (Qa 3) Ql) (Qp (Qt hr) (Qa 3) Ql))) (fun _ _ _ _=>qC (Q1 (V1 hr.units) (Qp (Qt hr) (Qa 0) Ql) (Qp (Qt hr) (Qa 1) Qv) (QP _))) (fun _ _ _ _=>Qa 0)) (Qg (QH 8 sc_law_leaf.nd (jl Yl Z.z5 boot_tuple (Qd (Xi (caps:=[]) (idx:=[]) ⟨by with_unfolding_all rfl,by decide +kernel,rfl,by decide +kernel,rfl,(by exact trivial),by with_unfolding_all rfl,(by exact trivial),by decide⟩ rfl (j7 (Qa 7)) (fun _ _ _ _=>zR) (fun _ _ _ _=>Qp (Qt hr) (Qa 0) Ql)) Qn))) (Qg (Zz (Q2 (Qd Ql (Qd (Qa 8) (Qd (jl Yl Z.z5 boot_tuple (Qd (Xi (caps:=[]) (idx:=[]) ⟨by with_unfolding_all rfl,by decide +kernel,rfl,by decide +kernel,rfl,(by exact trivial),by with_unfolding_all rfl,(by exact trivial),by decide⟩ rfl (j7 (Qa 7)) (fun _ _ _ _=>zR) (fun _ _ _ _=>Qp (Qt hr) (Qa 0) Ql)) Qn)) (Qd (Qp (Qt hr) (Qa 3) Ql) (Qd (Qp (Qt hr) (Qa 3) Ql) Qn)))))) (Zy (Qt hr) (Qp (Qt hr) (Qa 0) Qv) (Qa 2))) (Qr (Zz Ql (Zy (Qt hr) (Qa 0) Qv)))))) QK) (Qr (Qw (Q2 (Qd Qv (Qd (Qa 2) (Qd (Qa 5) Qn))))))))))))
theorem vv:Has P w K mg base "_law_due" 4 2 Ye:=hf Z.u40 sc_law_due fun _ _ _ _ _ _ _ hr=>Qg (Zz Ql (Zy (Qt hr) (Qa 0) Qv)) (Qg (Zh (Xj (Qp (Qt hr) (Qa 1) Qv)) (Qr (Qw Zu)) QK) (Qg (QH 2 sc_law_due.nd (Qp (Qt hr) (Qa 1) Qv)) (Qg (Zh (Q1 gm (Qa 2) Zu (QP _)) (Qr (QH 2 sc_law_due.nd (Qp (Qt hr) (Qa 0) Qv))) QK) (Qg (QH 3 sc_law_due.nd (Qp (Qt hr) (Qp (Qt hr) (Qa 0) Qv) (Qa 2))) (Qg (Zh (Q1 UP (Qp (Qt hr) (Qa 3) Ql) (Qp (Qt hr) (Qa 1) Qv) (QP _)) (Qg (JW (zj xt PySem.F.plainAttrs_list PySem.F.slot_list_append PySem.F.type_list_append (Qp (Qt hr) (Qa 0) Qv) (Qd (Q2 (Qd (QC ZT (Qp (Qt hr) (Qa 3) Ql) Ql) (Qd (Q2 (Qd (Qp (Qt hr) (Qa 1) Qv) Qn)) (Qd (Q2 (Qd (Qa 2) (Qd (Qp (Qt hr) (Qa 1) Qv) Qn))) (Qd Zu (Qd Zu Qn)))))) Qn))) (Qg (Zz (QC yG (Jh J0 Z.z0 PySem.boot_len (Qd (Qp (Qt hr) (Qa 0) Qv) Qn)) Ql) (Zy (Qt hr) (Qa 0) Qv)) (Qg (Zz Ql (Zy (Qt hr) (Qa 0) Qv)) (Qg (Zz JN (Zy (Qt hr) (Qa 1) Qv)) (Qr (Qw (Q2 (Qd Qv (Qd (Qa 2) (Qd (Qp (Qt hr) (Qa 0) Qv) Qn)))))))))) QK) (Qg (Zh (DW.pt (K2 (Q1 V0 (Qp (Qt hr) (Qa 3) Ql) Zu (QP _)) (Vj (Q1 Qed (Qp (Qt hr) (Qa 1) Qv) (Qp (Qt hr) (Qa 3) Ql) (QP _))))) (Qg (Zz (Qp (Qt hr) (Qa 3) Ql) (Zy (Qt hr) (Qa 1) Qv)) (Qr (Qw (Q2 (Qd Qv (Qd (Qa 2) (Qd (Qp (Qt hr) (Qa 3) Ql) Qn))))))) QK) (Qg (Zh (Q1 Qcz (Qp (Qt hr) (Qa 3) Ql) (Qp (Qt hr) (Qa 1) Qv) (QP _)) (Qg (Zz (Qa 2) (Zy (Qt hr) (Qp (Qt hr) (Qa 1) Qv) (Qp (Qt hr) (Qa 3) Ql))) (Qg (Zz (Qp (Qt hr) (Qp (Qt hr) (Qa 3) Ql) (QG (VN Z) hr (by decide) QB (Qd (Qp (Qt hr) (Qa 3) Ql) (Qd (Qp (Qt hr) (Qa 1) Qv) Qn)))) (Zy (Qt hr) (Qa 1) Qv)) (Qr (Qw (Q2 (Qd Qv (Qd (Qa 2) (Qd (Qp (Qt hr) (Qa 1) Qv) Qn)))))))) QK) (Qg (Zh (Q1 (Yy hr.units) (Qp (Qt hr) (Qa 3) Ql) Ql (QP _)) (Qr (Qw (QG (Ga Z) hr (by decide) QB (Qd (Qa 0) (Qd (Qa 1) (Qd (Qa 2) (Qd (Qa 3) Qn))))))) QK) (Qr (Qw (Q2 (Qd Qv (Qd (Qa 2) (Qd (QG (yA Z) hr (by decide) QB (Qd (Qa 0) (Qd (Qa 1) (Qd (Qa 2) (Qd (QG (xj Z) hr (by decide) QB (Qd (Qa 3) (Qd (Qp (Qt hr) (Qa 1) Qv) (Qd (Qp (Qt hr) (Qa 1) Qv) Qn)))) Qn))))) Qn))))))))))))))
theorem Vb:Has P w K mg base "_law_stepped" 7 4 XH:=hf Z.u41 sc_law_stepped fun _ _ _ _ _ _ _ hr=>Qg (QH 4 sc_law_stepped.nd (Jh J0 Z.z0 PySem.boot_len (Qd (Qp (Qt hr) (Qa 1) Qv) Qn))) (Qg (QH 5 sc_law_stepped.nd (Q2 (Qd (ZL (JG Z) hr (by decide) QB (Qa 0)) (Qd (ZL (Yp Z) hr (by decide) QB (Qa 0)) Qn)))) (Qg (QH 6 sc_law_stepped.nd (QG (vv Z) hr (by decide) QB (Qd (Qa 1) (Qd (Qa 3) Qn)))) (Qg (QH 7 sc_law_stepped.nd (ZL (jp Z) hr (by decide) QB (Qa 2))) (Qg (QH 8 sc_law_stepped.nd (ZL (jo Z) hr (by decide) QB (Qa 2))) (Qg (Zh (DW.pt (K2 (YN (Xj (Qa 8))) (Vj (Q1 V0 (ZL (y8 Z) hr (by decide) QB (Qa 2)) Zu (QP _))))) (Qr (Qw JN)) QK) (Qg (QH 9 sc_law_stepped.nd (jl Qe1 Z.z2 boot_int (Qd (qB V0 (Qa 6) Zu (QP _)) Qn))) (Qg (Zh (Q1 (V1 hr.units) (Q2 (Qd (ZL (JG Z) hr (by decide) QB (Qa 0)) (Qd (ZL (Yp Z) hr (by decide) QB (Qa 0)) Qn))) (Q2 (Qd (QC ZT (Qp (Qt hr) (Qa 5) Ql) (Qa 9)) (Qd (QC ZT (Qp (Qt hr) (Qa 5) Ql) (Qp (Qt hr) (Qa 1) Qv)) Qn))) (QP _)) (Qr (Qw JN)) QK) (Qg (Zh (DW.pt (VH (YN (Xj (QG (X7 Z 6) hr (by decide) QB (Qd (Qa 7) (Qd (Qa 6) Qn))))) (VH (Q1 (V1 hr.units) (Qa 8) (Qp (Qt hr) (Qa 3) Qv) (QP _)) (x9 (Q1 (V1 hr.units) (ZL (Yo Z) hr (by decide) QB (Qa 0)) (Qp (Qt hr) (Qa 1) Qv) (QP _)))))) (Qr (Qw JN)) QK) (Qg (Zh (Q1 (V1 hr.units) (ZL (XW Z) hr (by decide) QB (Qa 0)) (Jh J0 Z.z0 PySem.boot_len (Qd (Qp (Qt hr) (Qa 1) Qv) Qn)) (QP _)) (Qr (Qw JN)) QK) (Qg (QH 10 sc_law_stepped.nd (QbN Z.z7 Z.z10 rfl (Qd (Qa 4) (Qd (Jh J0 Z.z0 PySem.boot_len (Qd (Qp (Qt hr) (Qa 1) Qv) Qn)) Qn)))) (Qg (Zh (Q1 V0 (Qa 6) Zu (QP _)) (Qr (JW (zj xt PySem.F.plainAttrs_list PySem.F.slot_list_append PySem.F.type_list_append (Qa 10) (Qd (Qp (Qt hr) (Qa 6) Ql) Qn)))) QK) (Qr (Qw (qB (Yy hr.units) (Xi (caps:=["shelf", "side"]) (idx:=[0,1]) ⟨by with_unfolding_all rfl,by decide +kernel,rfl,by decide +kernel,rfl,(by exact ⟨rfl,⟨rfl,trivial⟩⟩),by with_unfolding_all rfl,(by exact ⟨rfl,.inl rfl,⟨_,rfl⟩,(fun h=>NameKind.noConfusion (Option.some.inj (show some NameKind.cell=some NameKind.local from h))),⟨rfl,.inl rfl,⟨_,rfl⟩,(fun h=>NameKind.noConfusion (Option.some.inj (show some NameKind.cell=some NameKind.local from h))),trivial⟩⟩),by decide⟩ rfl (j7 (Qa 10)) (fun _ _ _ _=>qC (YN (Xj (QG (X7 Z 6) hr (by decide) QB (Qd (ZE (Xl Z) hr (by decide) QB (Qa 1) (Qd (Qa 0) Qn)) (Qd (Qp (Qt hr) (Qp (Qt hr) (Qa 2) Qv) (Qa 0)) Qn)))))) (fun _ _ _ _=>Qa 0)) (uL Qn) (QP _)))))))))))))))
theorem Q7:Has P w K mg base "_law_pick" 1 3 Qx:=hf Z.u42 sc_law_pick fun _ _ _ _ _ _ _ hr=>Qg (QH 3 sc_law_pick.nd (QC yF (QC ZT (Qa 0) (QC Qcy (Qa 1) Ql)) (Qa 1))) (Qr (Qw (QC yF (QC yF (QC xx (QC yF (QC xx (Qa 3) (Qa 3)) (Qa 1)) (Qa 3)) (Qa 1)) (Qa 2))))
theorem Yw:Qby P w K mg base "Walk" 1 3 ZP:=hI Z.u43 yn fun _ _ _ _ _ _ _ hr=>Qg (ZB Z.k10 (Qa 0) (Qa 1)) (Qg (ZB Z.k5 (Qa 0) (Qa 2)) (Qg (ZB Z.k8 (Qa 0) (Qp (Qt hr) (Qa 2) Ql)) (Qg (ZB Z.k14 (Qa 0) Ql) (Qg (ZB Z.k9 (Qa 0) Zu) (Qg (ZB Z.k13 (Qa 0) VC) (Qg (ZB Z.k12 (Qa 0) Zu) (Qg (ZB Z.k4 (Qa 0) Zu) (Qg (ZB Z.k6 (Qa 0) (ko Qn)) (Qr (ZB Z.k7 (Qa 0) JN))))))))))
theorem UN:Has P w K mg base "_law_worth" 2 1 zf:=hf Z.u44 GE fun _ _ _ _ _ _ _ hr=>Qg (Zh (Q1 (Qec hr.units) (QG (Q7 Z) hr (by decide) QB (Qd (Qa 0) (Qd Ql (Qd Ql Qn)))) Ql (QP _)) (Qr (Qw (QC yG (QC yF (QC ZT (QC xx (QC yF (Qa 0) (QC jr Ql Ql)) Ql) Ql) (QC ZT (QC xx Ql (QC jr Ql Ql)) Ql)) (QC jr Ql Ql)))) QK) (Qr (Qw (QC yG (QG (Q7 Z) hr (by decide) QB (Qd (Qa 0) (Qd Ql (Qd Ql Qn)))) Ql)))
theorem vw:Has P w K mg base "_law_key" 2 1 YY:=hf Z.u45 sc_law_key fun _ _ _ _ _ _ _ hr=>Qg (QH 1 sc_law_key.nd (QG (Q7 Z) hr (by decide) QB (Qd (Qa 0) (Qd Ql (Qd Ql Qn))))) (Qg (Zh (Q1 (Qec hr.units) (Qa 1) Ql (QP _)) (Qr (Qw (QC yG (QC yF (QC ZT (QC xx (QC yF (Qa 0) (QC jr Ql Ql)) Ql) Ql) (QC ZT (QC xx Ql (QC jr Ql Ql)) Ql)) (QC jr Ql Ql)))) QK) (Qr (Qw (QC yG (QG (Q7 Z) hr (by decide) QB (Qd (Qa 0) (Qd Ql (Qd (JO (uL (Qd Ql (Qd Ql (Qd Ql (Qd Ql (Qd Ql Qn)))))) (Qa 1)) Qn)))) Ql))))
theorem K8:Has P w K mg base "_law_deed" 3 1 Yi:=hf Z.u46 sc_law_deed fun _ _ _ _ _ _ _ hr=>Qg (QH 1 sc_law_deed.nd (QG (Q7 Z) hr (by decide) QB (Qd (Qa 0) (Qd Ql (Qd Ql Qn))))) (Qg (QH 2 sc_law_deed.nd (QG (vw Z) hr (by decide) QB (Qd (Qa 0) Qn))) (Qg (Zh (Q1 UP (Qa 1) Ql (QP _)) (Qr (Qw (Q2 (Qd Qv (Qd (Qa 2) (Qd (QG (UN Z) hr (by decide) QB (Qd (Qa 0) Qn)) Qn)))))) QK) (Qg (Zh (Q1 UP (Qa 1) Ql (QP _)) (Qr (Qw (Q2 (Qd Qv (Qd (Qa 2) Qn))))) QK) (Qg (Zh (Q1 UP (Qa 1) Ql (QP _)) (Qr (Qw (Q2 (Qd Qv (Qd (Qa 2) Qn))))) QK) (Qg (QH 3 sc_law_deed.nd (Jh (QbM rfl) Z.z11 boot_min (Qd (Qa 2) (Qd (QC yG (QC jr Ql Ql) Ql) Qn)))) (Qg (QH 4 sc_law_deed.nd (Jh (QbM rfl) Z.z11 boot_min (Qd (QC jr Ql Ql) (Qd (QC ZT (QC ZT (Qa 3) Ql) (QG (Q7 Z) hr (by decide) QB (Qd (Qa 0) (Qd Ql (Qd Ql Qn))))) Qn)))) (Qg (QH 5 sc_law_deed.nd (Jh (QbM rfl) Z.z11 boot_min (Qd (QC jr Ql Ql) (Qd (QC ZT (QC ZT (Qa 3) Ql) (QG (Q7 Z) hr (by decide) QB (Qd (Qa 0) (Qd Ql (Qd Ql Qn))))) Qn)))) (Qr (Qw (Q2 (Qd Qv (Qd (Qa 3) (Qd (JO (uL (Qd (QC ZT (Qa 3) Ql) (Qd (Qa 4) (Qd (Qa 5) (Qd (QC jr Ql Ql) Qn))))) (QG (Q7 Z) hr (by decide) QB (Qd (Qa 0) (Qd Ql (Qd Ql Qn))))) Qn)))))))))))))
theorem K9:Has P w K mg base "_law_done" 7 2 Yj:=hf Z.u47 sc_law_done fun _ _ _ _ _ _ _ hr=>Qg (QH 2 sc_law_done.nd (K0 (Yw Z) hr (by decide) QB (Qd (Qa 0) (Qd (Qa 1) Qn)))) (Qg (VG PassesOwn.never rfl (XB rfl Z.z10 (Qd Ql Qn)) (j2 3 sc_law_done.nd) (Qg (Zh (Xj (ZL (jo Z) hr (by decide) QB (Qa 2))) (Qr (Qw (Qa 2))) QK) (Qr (JW (ZL (jp Z) hr (by decide) QB (Qa 2)))))) (Qr (Qw (Qa 2))))
theorem jE:Qby P w K mg base "Shelf" 1 2 Je:=hI Z.u48 xI fun _ _ _ _ _ _ _ hr=>let ⟨_,g_EMPTY_LEAF,q_EMPTY_LEAF⟩:=Z.t0.ex;Qg (ZB Z.k11 (Qa 0) (Qa 1)) (Qg (ZB Z.k0 (Qa 0) (ko (Qd (QdK rfl g_EMPTY_LEAF q_EMPTY_LEAF) Qn))) (Qg (ZB Z.k2 (Qa 0) Ql) (Qg (ZB Z.k1 (Qa 0) Ql) (Qr (ZB Z.k3 (Qa 0) Ql)))))
theorem UK:Has P w K mg base "_law_begun" 8 2 Yu:=hf Z.u49 sc_law_begun fun _ _ _ _ _ _ _ hr=>Qg (QH 2 sc_law_begun.nd (K0 (jE Z) hr (by decide) QB (Qd (QC ZT Ql (QC xx (QG (Q7 Z) hr (by decide) QB (Qd (Qa 0) (Qd Ql (Qd Ql Qn)))) (QG (Q7 Z) hr (by decide) QB (Qd (Qa 0) (Qd Ql (Qd Ql Qn)))))) Qn))) (Qg (QH 3 sc_law_begun.nd (QG (Q7 Z) hr (by decide) QB (Qd (Qa 0) (Qd Ql (Qd Ql Qn))))) (Qg (Zh (Q1 (Yy hr.units) (QG (Q7 Z) hr (by decide) QB (Qd (Qa 0) (Qd Ql (Qd Ql Qn)))) Ql (QP _)) (Qr (QH 3 sc_law_begun.nd Ql)) QK) (Qg (VG PassesOwn.never rfl (XB rfl Z.z10 (Qd (Qa 3) Qn)) (j2 4 sc_law_begun.nd) (Qg (QH 5 sc_law_begun.nd (QC yG (QG (Q7 Z) hr (by decide) QB (Qd (QC ZT (Qa 0) (QC xx Ql (Qa 4))) (Qd Ql (Qd Ql Qn)))) Ql)) (Qg (JW (QG (K9 Z) hr (by decide) QB (Qd (Qa 2) (Qd (Q2 (Qd Qv (Qd (Qa 5) (Qd (Qa 4) Qn)))) Qn)))) (Qr (Zz (Qa 4) (Zy (Qt hr) (Qa 1) (Qa 5))))))) (Qr (Qw (Qa 2))))))
theorem Va:Has P w K mg base "_law_cell_at" 1 2 JK:=hf Z.u50 Ul fun _ _ _ _ _ _ _ hr=>Qg (Zh (Q1 UP (Qa 1) (Jh ki Z.z0 PySem.boot_len (Qd (Qa 0) Qn)) (QP _)) (Qr (Qw (JO (Qa 0) (Qa 1)))) QK) (Qr (Qw Ql))
theorem law_fn {g:Addr} {fd:FuncData} (F:Fun K "law" "law" yL g fd):zh P w K mg base CX0 9 g fd ["script"] (spD K 1 GT):=QgQ F sc_law fun _ _ _ _ _ _ hr=>Qg (QH 1 sc_law.nd (QG (Va Z) hr (by decide) QB (Qd (Qa 0) (Qd Ql Qn)))) (Qg (QH 2 sc_law.nd (QG (UK Z) hr (by decide) QB (Qd (Qa 1) (Qd VC Qn)))) (Qg (QH 3 sc_law.nd (kn (Yv Qv (Xi (caps:=["shelf"]) (idx:=[2]) ⟨by with_unfolding_all rfl,by decide +kernel,rfl,by decide +kernel,rfl,(by exact ⟨rfl,trivial⟩),by with_unfolding_all rfl,(by exact ⟨rfl,.inl rfl,⟨_,rfl⟩,(fun h=>NameKind.noConfusion (Option.some.inj (show some NameKind.cell=some NameKind.local from h))),trivial⟩),by decide⟩ rfl (j8 (XB rfl Z.z10 (Qd (ZL (XW Z) hr (by decide) QB (Qa 2)) Qn))) (fun _ _ _ _=>zR) (fun _ _ _ _=>ZE (Xl Z) hr (by decide) QB (Qa 1) (Qd (Qa 0) Qn))) (Yv Qv (ZL (Yo Z) hr (by decide) QB (Qa 2)) (Yv Qv (ZL (zr Z) hr (by decide) QB (Qa 2)) QbP))))) (Qg (QH 4 sc_law.nd (QC ZT Ql (QG (Q7 Z) hr (by decide) QB (Qd (Qa 1) (Qd Ql (Qd Ql Qn)))))) (Qg (j6 5 sc_law.nd (caps:=[]) (idx:=[]) ⟨by with_unfolding_all rfl,by decide +kernel,rfl,by decide +kernel,rfl,(by exact trivial),by with_unfolding_all rfl,(by exact trivial),by decide⟩ rfl (j8 (XB rfl Z.z10 (Qd (Qa 4) Qn))) (fun _ _ _ _=>zR) (fun _ _ _ _=>Zu)) (Qg (j6 6 sc_law.nd (caps:=[]) (idx:=[]) ⟨by with_unfolding_all rfl,by decide +kernel,rfl,by decide +kernel,rfl,(by exact trivial),by with_unfolding_all rfl,(by exact trivial),by decide⟩ rfl (j8 (XB rfl Z.z10 (Qd (Qa 4) Qn))) (fun _ _ _ _=>zR) (fun _ _ _ _=>Zu)) (Qg (QdN PassesOwn.never rfl (j7 (J2 (Qa 0) ZZ (Z0 Ql))) (j2 7 sc_law.nd) (Qg (QH 9 sc_law.nd (QG (Q7 Z) hr (by decide) QB (Qd (Qa 7) (Qd Ql (Qd (Qa 4) Qn))))) (Qg (Zh (DW.pt (VH (Q1 gm (Qp (Qt hr) (Qa 5) (Qa 9)) Zu (QP _)) (x9 (Xj (Qp (Qt hr) (Qp (Qt hr) (Qa 6) (Qa 9)) Qv))))) (Qg (QH 12 sc_law.nd (QG (K8 Z) hr (by decide) QB (Qd (Qa 7) Qn))) (Qg (QH 13 sc_law.nd (ZL (JG Z) hr (by decide) QB (Qa 2))) (Qg (Zz (K0 (Yw Z) hr (by decide) QB (Qd (Qa 2) (Qd (Qa 12) Qn))) (Zy (Qt hr) (Qa 5) (Qa 9))) (Qg (Zh (Q1 (V1 hr.units) (ZL (JG Z) hr (by decide) QB (Qa 2)) (Qa 13) (QP _)) (Qr (Qw JN)) QK) (Qg (Zz (kn (Yv Qv (Qa 12) (Yv Qv (Qp (Qt hr) (Qa 12) Ql) (Yv Qv Zu (Yv Qv Ql (Yv Qv VC QbP)))))) (Zy (Qt hr) (Qa 6) (Qa 9))) (Qg (Zz JN (Zy (Qt hr) (Qp (Qt hr) (Qa 6) (Qa 9)) Qv)) (Qr (Zz JN (Zy (Qt hr) (Qp (Qt hr) (Qa 6) (Qa 9)) Qv))))))))) QK) (Qg (QH 10 sc_law.nd (QC ZT Ql (QG (Q7 Z) hr (by decide) QB (Qd (Qa 7) (Qd Ql (Qd Ql Qn)))))) (Qg (Zh (Xj (Qp (Qt hr) (Qp (Qt hr) (Qa 6) (Qa 9)) Qv)) (Qg (QH 10 sc_law.nd (QC xx (Qa 10) (QG (Q7 Z) hr (by decide) QB (Qd (Qa 7) (Qd Ql (Qd Ql Qn)))))) (Qr (Zz JN (Zy (Qt hr) (Qp (Qt hr) (Qa 6) (Qa 9)) Qv)))) QK) (Qr (VG PassesOwn.never rfl (XB rfl Z.z10 (Qd (Qa 10) Qn)) (j2 11 sc_law.nd) (Qr (Zh (YN (Xj (QG (Vb Z) hr (by decide) QB (Qd (Qa 2) (Qd (Qa 3) (Qd (Qp (Qt hr) (Qa 5) (Qa 9)) (Qd (Qp (Qt hr) (Qa 6) (Qa 9)) Qn))))))) (Qr (Qw JN)) QK))))))))) (Qg (VG PassesOwn.never rfl (XB rfl Z.z10 (Qd (Jh J0 Z.z0 PySem.boot_len (Qd (Qp (Qt hr) (Qa 3) Qv) Qn)) Qn)) (j2 8 sc_law.nd) (Qr (Zh (YN (Xj (QG (X7 Z 6) hr (by decide) QB (Qd (ZE (Xl Z) hr (by decide) QB (Qa 2) (Qd (Qa 8) Qn)) (Qd (Qp (Qt hr) (Qp (Qt hr) (Qa 3) Qv) (Qa 8)) Qn))))) (Qr (Qw JN)) QK))) (Qr (Qw JN)))))))))
end
def _root_.PySem.W.Fast.tw12015363685961506046:Nat:=0
def _root_.PySem.W.Fast.tw15754551711832449451:Nat:=0
def _root_.PySem.W.Fast.tw6314169395078109148:Nat:=0
def _root_.PySem.W.Fast.tw6623938051586473442:Nat:=0
def _root_.PySem.W.Fast.tw10860776415216870182:Nat:=0
def _root_.PySem.W.Fast.tw1777008149987522285:Nat:=0
def _root_.PySem.W.Fast.tw3146388120962380005:Nat:=0
def _root_.PySem.W.Fast.tw12340220809977993397:Nat:=0
def _root_.PySem.W.Fast.tw13717067546908974311:Nat:=0
def _root_.PySem.W.Fast.tw12445543326665318977:Nat:=0
def _root_.PySem.W.Fast.tw3266802614415447759:Nat:=0
def _root_.PySem.W.Fast.tw18049286263975938382:Nat:=0
def _root_.PySem.W.Fast.tw12951886277356654147:Nat:=0
def _root_.PySem.W.Fast.tw18363250436413419208:Nat:=0
def _root_.PySem.W.Fast.tw13276103049213467773:Nat:=0
def _root_.PySem.W.Fast.tw14207545372167367362:Nat:=0
def _root_.PySem.W.Fast.tw6638059855647642137:Nat:=0
def _root_.PySem.W.Fast.tw6707750808621811761:Nat:=0
def _root_.PySem.W.Fast.tw6074452469935606408:Nat:=0
def _root_.PySem.W.Fast.tw15863495476806908435:Nat:=0
def _root_.PySem.W.Fast.tw3237512695060027339:Nat:=0
def _root_.PySem.W.Fast.tw10086290158093710872:Nat:=0
def _root_.PySem.W.Fast.tw1806017181355022841:Nat:=0
def _root_.PySem.W.Fast.tw2042817780434098418:Nat:=0
def _root_.PySem.W.Fast.tw6634640189894082610:Nat:=0
def _root_.PySem.W.Fast.tw14752191384584782139:Nat:=0
def _root_.PySem.W.Fast.tw8671700825214853183:Nat:=0
def _root_.PySem.W.Fast.tw17101541506008750880:Nat:=0
def _root_.PySem.W.Fast.tw11085019370755797000:Nat:=0
def _root_.PySem.W.Fast.tw6899314239559139291:Nat:=0
def _root_.PySem.W.Fast.tw5296935766415752958:Nat:=0
def _root_.PySem.W.Fast.tw5452251341496044087:Nat:=0
def _root_.PySem.W.Fast.tw8211222960773273665:Nat:=0
def _root_.PySem.W.Fast.tw5206528430798606383:Nat:=0
def _root_.PySem.W.Fast.tw3944692629193621682:Nat:=0
def _root_.PySem.W.Fast.tw5557442612615905059:Nat:=0
def _root_.PySem.W.Fast.tw7281905975046607964:Nat:=0
def _root_.PySem.W.Fast.tw9325796051962907788:Nat:=0
def _root_.PySem.W.Fast.tw12529469310919299213:Nat:=0
def _root_.PySem.W.Fast.tw384003907907339064:Nat:=0
def _root_.PySem.W.Fast.tw12155688459321584455:Nat:=0
def _root_.PySem.W.Fast.tw16773077335138786818:Nat:=0
def _root_.PySem.W.Fast.tw12378785492176975745:Nat:=0
def _root_.PySem.W.Fast.tw2943102533530054482:Nat:=0
def _root_.PySem.W.Fast.tw12646912452316206734:Nat:=0
def _root_.PySem.W.Fast.tw4540235110028831346:Nat:=0
def _root_.PySem.W.Fast.tw2230273107241535483:Nat:=0
def _root_.PySem.W.Fast.tw8036409822523068702:Nat:=0
def _root_.PySem.W.Fast.tw12000047880474178681:Nat:=0
def _root_.PySem.W.Fast.tw5919818090277582753:Nat:=0
def _root_.PySem.W.Fast.tw10530010230811104188:Nat:=0
def _root_.PySem.W.Fast.tw16505504139868127597:Nat:=0
def _root_.PySem.W.Fast.tw15181012096022761969:Nat:=0
def _root_.PySem.W.Fast.tw3610679422690295175:Nat:=0
def _root_.PySem.W.Fast.tw14468773457490976458:Nat:=0
def _root_.PySem.W.Fast.tw9645053307910181360:Nat:=0
def _root_.PySem.W.Fast.tw8880991041848816603:Nat:=0
def _root_.PySem.W.Fast.tw103436735083099332:Nat:=0
def _root_.PySem.W.Fast.tw10435507614349855977:Nat:=0
def _root_.PySem.W.Fast.tw11968343236110131978:Nat:=0
def _root_.PySem.W.Fast.tw3218808458676897787:Nat:=0
def _root_.PySem.W.Fast.tw5537490808168055990:Nat:=0
def _root_.PySem.W.Fast.tw11290785362829552876:Nat:=0
def _root_.PySem.W.Fast.tw11147495185702272350:Nat:=0
def _root_.PySem.W.Fast.tw17547387078450942752:Nat:=0
def _root_.PySem.W.Fast.tw1314757167247111695:Nat:=0
def _root_.PySem.W.Fast.tw11319068389418969867:Nat:=0
def _root_.PySem.W.Fast.tw5879989842483449802:Nat:=0
def _root_.PySem.W.Fast.tw1820653537660313668:Nat:=0
def _root_.PySem.W.Fast.tw15620080281167315886:Nat:=0
def _root_.PySem.W.Fast.tw14245758109734826678:Nat:=0
def _root_.PySem.W.Fast.tw6709943934397154232:Nat:=0
def _root_.PySem.W.Fast.tw2608398076849270777:Nat:=0
def _root_.PySem.W.Fast.tw5957975967284514733:Nat:=0
def _root_.PySem.W.Fast.tw12024002440380502663:Nat:=0
def _root_.PySem.W.Fast.tw15888206941920211232:Nat:=0
def _root_.PySem.W.Fast.tw8062029747130794134:Nat:=0
def _root_.PySem.W.Fast.tw12873441762790239850:Nat:=0
def _root_.PySem.W.Fast.tw16943397231349760226:Nat:=0
def _root_.PySem.W.Fast.tw7604633545729127987:Nat:=0
def _root_.PySem.W.Fast.tw15326361003117096852:Nat:=0
def _root_.PySem.W.Fast.tw15101883272420110925:Nat:=0
def _root_.PySem.W.Fast.tw5841031301839407701:Nat:=0
def _root_.PySem.W.Fast.tw8536253199168215598:Nat:=0
def _root_.PySem.W.Fast.tw18425629286413154850:Nat:=0
def _root_.PySem.W.Fast.tw1053592367875027399:Nat:=0
def _root_.PySem.W.Fast.tw13667488945549269391:Nat:=0
def _root_.PySem.W.Fast.tw9748132186337743403:Nat:=0
def _root_.PySem.W.Fast.tw2445333042247844045:Nat:=0
def _root_.PySem.W.Fast.tw4638882231060334825:Nat:=0
def _root_.PySem.W.Fast.tw9318611592427300657:Nat:=0
def _root_.PySem.W.Fast.tw7799835519948310054:Nat:=0
def _root_.PySem.W.Fast.tw4094036549067324:Nat:=0
def _root_.PySem.W.Fast.tw15287271555413183283:Nat:=0
def _root_.PySem.W.Fast.tw38540511145510610:Nat:=0
def _root_.PySem.W.Fast.tw4582881937198753851:Nat:=0
def _root_.PySem.W.Fast.tw3642325603653296246:Nat:=0
def _root_.PySem.W.Fast.tw4757460377183756767:Nat:=0
def _root_.PySem.W.Fast.tw9750908566980853618:Nat:=0
def _root_.PySem.W.Fast.tw10641797080340775190:Nat:=0
def _root_.PySem.W.Fast.tw9729175163627693073:Nat:=0
def _root_.PySem.W.Fast.tw2502399237326113740:Nat:=0
def _root_.PySem.W.Fast.tw16135498934144413671:Nat:=0
def _root_.PySem.W.Fast.tw17284785850615797884:Nat:=0
def _root_.PySem.W.Fast.tw17187371058498808692:Nat:=0
def _root_.PySem.W.Fast.tw13415462765604867023:Nat:=0
def _root_.PySem.W.Fast.tw11260383131623396660:Nat:=0
def _root_.PySem.W.Fast.tw3087139418891370373:Nat:=0
def _root_.PySem.W.Fast.tw2530259547060255366:Nat:=0
def _root_.PySem.W.Fast.tw18311217144987276219:Nat:=0
def _root_.PySem.W.Fast.tw10007766430900140308:Nat:=0
def _root_.PySem.W.Fast.tw14542709355371885398:Nat:=0
def _root_.PySem.W.Fast.tw18330543311216028907:Nat:=0
def _root_.PySem.W.Fast.tw6653221938489995179:Nat:=0
def _root_.PySem.W.Fast.tw18309054866382050647:Nat:=0
def _root_.PySem.W.Fast.tw12348103287148219975:Nat:=0
def _root_.PySem.W.Fast.tw8325615674024144952:Nat:=0
def _root_.PySem.W.Fast.tw18320846205034371665:Nat:=0
def _root_.PySem.W.Fast.tw418589113863089051:Nat:=0
def _root_.PySem.W.Fast.tw5454374430175991107:Nat:=0
def _root_.PySem.W.Fast.tw16033721646906376752:Nat:=0
def _root_.PySem.W.Fast.tw15633315822664888715:Nat:=0
def _root_.PySem.W.Fast.tw1705579897282042720:Nat:=0
def _root_.PySem.W.Fast.tw14609525756700262354:Nat:=0
def _root_.PySem.W.Fast.tw12820277369151304386:Nat:=0
def _root_.PySem.W.Fast.tw3691099471951190082:Nat:=0
def _root_.PySem.W.Fast.tw12798742153933498151:Nat:=0
def _root_.PySem.W.Fast.tw18249728044387152274:Nat:=0
def _root_.PySem.W.Fast.tw3425657906180443892:Nat:=0
def _root_.PySem.W.Fast.tw11877457137867897110:Nat:=0
def _root_.PySem.W.Fast.tw8444260785703033718:Nat:=0
def _root_.PySem.W.Fast.tw11510623807300218004:Nat:=0
def _root_.PySem.W.Fast.tw18353694990291864340:Nat:=0
def _root_.PySem.W.Fast.tw12480097380905252285:Nat:=0
def _root_.PySem.W.Fast.tw1474776103056898074:Nat:=0
def _root_.PySem.W.Fast.tw7724208575366914195:Nat:=0
def _root_.PySem.W.Fast.tw1626705187903577071:Nat:=0
def _root_.PySem.W.Fast.tw12484532275739876877:Nat:=0
def _root_.PySem.W.Fast.tw3318278007528446743:Nat:=0
def _root_.PySem.W.Fast.tw12110880982499655109:Nat:=0
def _root_.PySem.W.Fast.tw15513716393883500008:Nat:=0
def _root_.PySem.W.Fast.tw13937113467496059506:Nat:=0
def _root_.PySem.W.Fast.tw2993375678085331652:Nat:=0
def _root_.PySem.W.Fast.tw2876810992281477715:Nat:=0
def _root_.PySem.W.Fast.tw3114940985668817416:Nat:=0
def _root_.PySem.W.Fast.tw17992901221667838811:Nat:=0
def _root_.PySem.W.Fast.tw9748978385575598197:Nat:=0
def _root_.PySem.W.Fast.tw15588663248817836364:Nat:=0
def _root_.PySem.W.Fast.tw17954987425766588004:Nat:=0
def _root_.PySem.W.Fast.tw898610632943150101:Nat:=0
def _root_.PySem.W.Fast.tw15489896627317442301:Nat:=0
def _root_.PySem.W.Fast.tw14302058599070462029:Nat:=0
def _root_.PySem.W.Fast.tw9610966067575596078:Nat:=0
def _root_.PySem.W.Fast.tw10457482129360902430:Nat:=0
def _root_.PySem.W.Fast.tw8403910866118472825:Nat:=0
def _root_.PySem.W.Fast.tw17526746645183821462:Nat:=0
def _root_.PySem.W.Fast.tw9236758464811784891:Nat:=0
def _root_.PySem.W.Fast.tw790265322928327960:Nat:=0
def _root_.PySem.W.Fast.tw12229174138995306824:Nat:=0
def _root_.PySem.W.Fast.tw14606536523690154294:Nat:=0
def _root_.PySem.W.Fast.tw2692603664501013823:Nat:=0
def _root_.PySem.W.Fast.tw8329054608789224715:Nat:=0
def _root_.PySem.W.Fast.tw7589747525612217269:Nat:=0
def _root_.PySem.W.Fast.tw13186925044624980056:Nat:=0
def _root_.PySem.W.Fast.tw18314622316848739598:Nat:=0
def _root_.PySem.W.Fast.tw9985075768788555211:Nat:=0
def _root_.PySem.W.Fast.tw12123751027951587859:Nat:=0
def _root_.PySem.W.Fast.tw7895350307303439331:Nat:=0
def _root_.PySem.W.Fast.tw6030658276414405055:Nat:=0
def _root_.PySem.W.Fast.tw5290681428878531375:Nat:=0
def _root_.PySem.W.Fast.tw1881290742755627083:Nat:=0
def _root_.PySem.W.Fast.tw17867407811977909291:Nat:=0
def _root_.PySem.W.Fast.tw14359590474966634891:Nat:=0
def _root_.PySem.W.Fast.tw5734796752904402684:Nat:=0
def _root_.PySem.W.Fast.tw13368280415287622658:Nat:=0
def _root_.PySem.W.Fast.tw6338896904972251230:Nat:=0
def _root_.PySem.W.Fast.tw15295786243698767624:Nat:=0
def _root_.PySem.W.Fast.tw4163985790913149688:Nat:=0
def _root_.PySem.W.Fast.tw4721843391616495045:Nat:=0
def _root_.PySem.W.Fast.tw9584386271797781982:Nat:=0
def _root_.PySem.W.Fast.tw9924282967351264911:Nat:=0
def _root_.PySem.W.Fast.tw2037048016197996984:Nat:=0
def _root_.PySem.W.Fast.tw5691306582707976217:Nat:=0
def _root_.PySem.W.Fast.tw7105957319661919471:Nat:=0
def shF (r:Int) (k:Nat) (t a b:Int):List (Str×DV):=[("page_room", .int r),("kept", .ref k),("top", .int t),("read_count", .int a),("write_count", .int b)]
theorem Qdb (r:Int) (k:Nat) (t a b:Int):List.lookup ("page_room" : Str) (shF r k t a b)=some (DV.int r):=by rfl
theorem qj (r:Int) (k:Nat) (t a b:Int):List.lookup ("kept" : Str) (shF r k t a b)=some (DV.ref k):=by rfl
theorem Qak (r:Int) (k:Nat) (t a b:Int):List.lookup ("top" : Str) (shF r k t a b)=some (DV.int t):=by rfl
theorem Qdc (r:Int) (k:Nat) (t a b:Int):List.lookup ("write_count" : Str) (shF r k t a b)=some (DV.int b):=by rfl
theorem Qfd (r:Int) (k:Nat) (t a b:Int):List.lookup ("read_count" : Str) (shF r k t a b)=some (DV.int a):=by rfl
theorem vW (r:Int) (k:Nat) (t a b c:Int):Xp ("write_count" : Str) (.int c) (shF r k t a b)=shF r k t a c:=by rfl
theorem Qc9 (r:Int) (k:Nat) (t a b c:Int):Xp ("read_count" : Str) (.int c) (shF r k t a b)=shF r k t c b:=by rfl
theorem Qda (r:Int) (k:Nat) (t a b c:Int):Xp ("top" : Str) (.int c) (shF r k t a b)=shF r k c a b:=by rfl
theorem Vr (r:Int) (k:Nat) (t a b:Int):(shF r k t a b).length=5:=rfl
theorem yo (r:Int) (k:Nat) (t a b:Int):List.lookup ("check_number" : Str) (shF r k t a b)=none:=by rfl
theorem Kz (r:Int) (k:Nat) (t a b:Int):List.lookup ("lay" : Str) (shF r k t a b)=none:=by rfl
theorem qN (r:Int) (k:Nat) (t a b:Int):List.lookup ("read" : Str) (shF r k t a b)=none:=by rfl
theorem zL (r:Int) (k:Nat) (t a b:Int):List.lookup ("write" : Str) (shF r k t a b)=none:=by rfl
theorem jM (r:Int) (k:Nat) (t a b:Int):List.lookup ("root" : Str) (shF r k t a b)=none:=by rfl
theorem vT (r:Int) (k:Nat) (t a b:Int):List.lookup ("raise_root" : Str) (shF r k t a b)=none:=by rfl
theorem vU (r:Int) (k:Nat) (t a b:Int):List.lookup ("room" : Str) (shF r k t a b)=none:=by rfl
theorem zJ (r:Int) (k:Nat) (t a b:Int):List.lookup ("pages" : Str) (shF r k t a b)=none:=by rfl
theorem xM (r:Int) (k:Nat) (t a b:Int):List.lookup ("readings" : Str) (shF r k t a b)=none:=by rfl
theorem vV (r:Int) (k:Nat) (t a b:Int):List.lookup ("writings" : Str) (shF r k t a b)=none:=by rfl
section
variable {r t a b:Int} {n k:Nat} {ps:List DV} {hp:Hs}
theorem V2 (h1:hp[n]?=some (.ins "Shelf" (shF r k t a b))) (h2:hp[k]?=some (.lst ps)):Jc [.ref n] hp=some (.int ps.length,hp):=by
 simp [Jc,ji,Zb,Qq,QA,QJ,YD,sIf,Q5,xD,jB,xB,xC,Qf,Qb,eC,eB,asB,Xf,eOr,JY,J3,xc,X2,eIf,j9,Qm,Qc,Q3,Y7,Qu,Zl,QE,gN,Z4,Ju,Z9,Ja,Jl,Z7,Js,Xo,Yz,xy,Z6,JQ,Jk,Zp,Yq,V6,Zo,gSb,jd,JX,Xy,QS,jC,jK,onI,onL,onD,Z3,Xm,zA,J5,ixG,Jr,qH,YT,J4,X6,asI,ja,Uv,QF,JZ,Ym,Jo,Xd,evP,ZW,Xr,JB,JU,JA,Xq,Xt,Xs,Zi,QU,Ji,h1,h2,qj]
theorem GA (h1:hp[n]?=some (.ins "Shelf" (shF r k t a b))):ZH [.ref n] hp=some (.int t,hp):=by
 simp [ZH,jV,Zb,Qq,QA,QJ,YD,sIf,Q5,xD,jB,xB,xC,Qf,Qb,eC,eB,asB,Xf,eOr,JY,J3,xc,X2,eIf,j9,Qm,Qc,Q3,Y7,Qu,Zl,QE,gN,Z4,Ju,Z9,Ja,Jl,Z7,Js,Xo,Yz,xy,Z6,JQ,Jk,Zp,Yq,V6,Zo,gSb,jd,JX,Xy,QS,jC,jK,onI,onL,onD,Z3,Xm,zA,J5,ixG,Jr,qH,YT,J4,X6,asI,ja,Uv,QF,JZ,Ym,Jo,Xd,evP,ZW,Xr,JB,JU,JA,Xq,Xt,Xs,Zi,QU,Ji,h1,Qak]
theorem Qaf (h1:hp[n]?=some (.ins "Shelf" (shF r k t a b))):ZX [.ref n] hp=some (.int r,hp):=by
 simp [ZX,jU,Zb,Qq,QA,QJ,YD,sIf,Q5,xD,jB,xB,xC,Qf,Qb,eC,eB,asB,Xf,eOr,JY,J3,xc,X2,eIf,j9,Qm,Qc,Q3,Y7,Qu,Zl,QE,gN,Z4,Ju,Z9,Ja,Jl,Z7,Js,Xo,Yz,xy,Z6,JQ,Jk,Zp,Yq,V6,Zo,gSb,jd,JX,Xy,QS,jC,jK,onI,onL,onD,Z3,Xm,zA,J5,ixG,Jr,qH,YT,J4,X6,asI,ja,Uv,QF,JZ,Ym,Jo,Xd,evP,ZW,Xr,JB,JU,JA,Xq,Xt,Xs,Zi,QU,Ji,h1,Qdb]
theorem YA (h1:hp[n]?=some (.ins "Shelf" (shF r k t a b))):Q0 [.ref n] hp=some (.int a,hp):=by
 simp [Q0,Y4,Zb,Qq,QA,QJ,YD,sIf,Q5,xD,jB,xB,xC,Qf,Qb,eC,eB,asB,Xf,eOr,JY,J3,xc,X2,eIf,j9,Qm,Qc,Q3,Y7,Qu,Zl,QE,gN,Z4,Ju,Z9,Ja,Jl,Z7,Js,Xo,Yz,xy,Z6,JQ,Jk,Zp,Yq,V6,Zo,gSb,jd,JX,Xy,QS,jC,jK,onI,onL,onD,Z3,Xm,zA,J5,ixG,Jr,qH,YT,J4,X6,asI,ja,Uv,QF,JZ,Ym,Jo,Xd,evP,ZW,Xr,JB,JU,JA,Xq,Xt,Xs,Zi,QU,Ji,h1,Qfd]
theorem yU (h1:hp[n]?=some (.ins "Shelf" (shF r k t a b))):ZD [.ref n] hp=some (.int b,hp):=by
 simp [ZD,Y5,Zb,Qq,QA,QJ,YD,sIf,Q5,xD,jB,xB,xC,Qf,Qb,eC,eB,asB,Xf,eOr,JY,J3,xc,X2,eIf,j9,Qm,Qc,Q3,Y7,Qu,Zl,QE,gN,Z4,Ju,Z9,Ja,Jl,Z7,Js,Xo,Yz,xy,Z6,JQ,Jk,Zp,Yq,V6,Zo,gSb,jd,JX,Xy,QS,jC,jK,onI,onL,onD,Z3,Xm,zA,J5,ixG,Jr,qH,YT,J4,X6,asI,ja,Uv,QF,JZ,Ym,Jo,Xd,evP,ZW,Xr,JB,JU,JA,Xq,Xt,Xs,Zi,QU,Ji,h1,Qdc]
theorem VA {i:Int} (h1:hp[n]?=some (.ins "Shelf" (shF r k t a b))) (h2:hp[k]?=some (.lst ps)) (i0:0<=i) (i1:i < ps.length) :
  ZC [.ref n,.int i] hp=some (.non,hp):=by
 have q0:¬ i < 0:=by omega
 have q1:¬ (ps.length:Int)<=i:=by omega
 simp [ZC,XN,Zb,Qq,QA,QJ,YD,sIf,Q5,xD,jB,xB,xC,Qf,Qb,eC,eB,asB,Xf,eOr,JY,J3,xc,X2,eIf,j9,Qm,Qc,Q3,Y7,Qu,Zl,QE,gN,Z4,Ju,Z9,Ja,Jl,Z7,Js,Xo,Yz,xy,Z6,JQ,Jk,Zp,Yq,V6,Zo,gSb,jd,JX,Xy,QS,jC,jK,onI,onL,onD,Z3,Xm,zA,J5,ixG,Jr,qH,YT,J4,X6,asI,ja,Uv,QF,JZ,Ym,Jo,Xd,evP,ZW,Xr,JB,JU,JA,Xq,Xt,Xs,Zi,QU,Ji,qD,h1,h2,qj,i0,i1,q0,q1]
theorem Vp {i:Nat} {d:DV} (h1:hp[n]?=some (.ins "Shelf" (shF r k t a b))) (h2:hp[k]?=some (.lst ps)) (hnk:n≠k) (hd:ps[i]?=some d) :
  Zd [.ref n,.int i] hp=some (d,hp.set n (.ins "Shelf" (shF r k t (a+1) b))):=by
 have i1:i < ps.length:=(List.getElem?_eq_some_iff.mp hd).1
 have c:=VA (i:=(i:Int)) h1 h2 (by omega) (by omega)
 have hd':=zP hd
 simp [Zd,jT,Zb,Qq,QA,QJ,YD,sIf,Q5,xD,jB,xB,xC,Qf,Qb,eC,eB,asB,Xf,eOr,JY,J3,xc,X2,eIf,j9,Qm,Qc,Q3,Y7,Qu,Zl,QE,gN,Z4,Ju,Z9,Ja,Jl,Z7,Js,Xo,Yz,xy,Z6,JQ,Jk,Zp,Yq,V6,Zo,gSb,jd,JX,Xy,QS,jC,jK,onI,onL,onD,Z3,Xm,zA,J5,ixG,Jr,qH,YT,J4,X6,asI,ja,Uv,QF,JZ,Ym,Jo,Xd,evP,ZW,Xr,JB,JU,JA,Xq,Xt,Xs,Zi,QU,Ji,h1,h2,c,qj,Qfd,Qc9,Vr,yo,hd',hnk,hnk.symm]
theorem Uz {i:Nat} {d:DV} (h1:hp[n]?=some (.ins "Shelf" (shF r k t a b))) (h2:hp[k]?=some (.lst ps)) (hnk:n≠k) (i1:i < ps.length) :
  JJ [.ref n,.int i,d] hp=some (.non,(hp.set n (.ins "Shelf" (shF r k t a (b+1)))).set k (.lst (ps.set i d))):=by
 have c:=VA (i:=(i:Int)) h1 h2 (by omega) (by omega)
 simp [JJ,jk,Zb,Qq,QA,QJ,YD,sIf,Q5,xD,jB,xB,xC,Qf,Qb,eC,eB,asB,Xf,eOr,JY,J3,xc,X2,eIf,j9,Qm,Qc,Q3,Y7,Qu,Zl,QE,gN,Z4,Ju,Z9,Ja,Jl,Z7,Js,Xo,Yz,xy,Z6,JQ,Jk,Zp,Yq,V6,Zo,gSb,jd,JX,Xy,QS,jC,jK,onI,onL,onD,Z3,Xm,zA,J5,ixG,Jr,qH,YT,J4,X6,asI,ja,Uv,QF,JZ,Ym,Jo,Xd,evP,ZW,Xr,JB,JU,JA,Xq,Xt,Xs,Zi,QU,Ji,h1,h2,c,qj,Qdc,vW,Vr,yo,hnk,hnk.symm,Gg i1]
theorem Qcf {pg:DV} (h1:hp[n]?=some (.ins "Shelf" (shF r k t a b))) (h2:hp[k]?=some (.lst ps)) (hnk:n≠k) (hl:ps.length < 99999) :
  XJ [.ref n,pg] hp=some (.int ps.length,(hp.set n (.ins "Shelf" (shF r k t a (b+1)))).set k (.lst (ps++[pg]))):=by
 have hlim:ps.length < lim:=by unfold lim;omega
 simp [XJ,yx,Zb,Qq,QA,QJ,YD,sIf,Q5,xD,jB,xB,xC,Qf,Qb,eC,eB,asB,Xf,eOr,JY,J3,xc,X2,eIf,j9,Qm,Qc,Q3,Y7,Qu,Zl,QE,gN,Z4,Ju,Z9,Ja,Jl,Z7,Js,Xo,Yz,xy,Z6,JQ,Jk,Zp,Yq,V6,Zo,gSb,jd,JX,Xy,QS,jC,jK,onI,onL,onD,Z3,Xm,zA,J5,ixG,Jr,qH,YT,J4,X6,asI,ja,Uv,QF,JZ,Ym,Jo,Xd,evP,ZW,Xr,JB,JU,JA,Xq,Xt,Xs,Zi,QU,Ji,h1,h2,qj,Qdc,vW,Vr,hlim,hnk,hnk.symm]
end
def Zv (l:Int) (ks ps:List Int) (hi sd:Option Int):DV:=.tup [.int l,.tup (ks.map .int),.tup (ps.map .int),opt hi,opt sd]
def hiB (hi:Option Int) (k:Int):Bool:=match hi with
 | none=>false
 | some h=>decide (h<=k)
def cLe (ks:List Int) (k:Int):Nat:=(ks.filter fun x=>decide (x<=k)).length
def cLt (ks:List Int) (k:Int):Nat:=(ks.filter fun x=>decide (x < k)).length
theorem XA (ks:List Int) (k:Int):cLe ks k<=ks.length:=List.length_filter_le _ _
theorem xX (ks:List Int) (k:Int):cLt ks k<=ks.length:=List.length_filter_le _ _
theorem Qgp {f:DEx} {env:En} {hp:Hs} {ds:List DV} (hf:f env hp=some (.tup ds,hp)):iTp f env hp=some (ds,hp):=by
 unfold iTp;rw [Qi hf];rfl
theorem uJ {t:DTx} {p:Int->Bool} (ks:List Int) (k:Int) (hl:ks.length<=100) (ht:∀ x hp,t [.val (.int x),.val (.int k)] hp=some (p x,hp)) (hp:Hs):Zl Jr (Qc (ZN false (xOf (iTp (Qb 0))) [1] t (Qb 0)) Qm) [.val (.tup (ks.map .int)),.val (.int k)] hp=some (.int (ks.filter p).length,hp):=by
 have q:ZN false (xOf (iTp (Qb 0))) [1] t (Qb 0) [.val (.tup (ks.map .int)),.val (.int k)] hp=some (.lst (((ks.filter p).map fun x=>x).map .int),hp):=by
  unfold ZN
  rw [Qi (UB (Qgp (ds:=ks.map .int) (Qe rfl)))]
  exact (Qi (uK (p:=p) (g:=fun x=>x) ks (fun i hi=>XY (ks.map .int) i (by rw [List.length_map];exact hi) hp) (fun x=>ht x hp) (fun x=>rfl) (by omega))).trans rfl
 rw [JD (ZJ q) (Qch ..),List.length_map,List.length_map]
theorem KU (ks:List Int) (k:Int) (hl:ks.length<=100):ZI [.tup (ks.map .int),.int k]=pure (.int (cLe ks k)):=Vi fun hp=>Qz (env:=[.val (.tup (ks.map .int)),.val (.int k)]) (QD (uJ ks k hl (fun _ _=>rfl) hp))
theorem Qe2 (ks:List Int) (k:Int) (hl:ks.length<=100):XG [.tup (ks.map .int),.int k]=pure (.int (cLt ks k)):=Vi fun hp=>Qz (env:=[.val (.tup (ks.map .int)),.val (.int k)]) (QD (uJ ks k hl (fun _ _=>rfl) hp))
theorem QaK (l:Int) (ks ps:List Int) (hi sd:Option Int) (k:Int):YW [Zv l ks ps hi sd,.int k]=pure (.bl (hiB hi k)):=by
 cases hi<;>rfl
theorem QfD (l:Int) (ks ps:List Int) (hi sd:Option Int) (k:Int) (hl:ks.length<=100) (hp:ps.length=ks.length+1):YX [Zv l ks ps hi sd,.int k]=pure (.int (ps.getD (cLe ks k) 0)):=by
 have h:=XA ks k
 have a:=KP ps (i:=(cLe ks k:Int)) (by omega) (by omega)
 rw [Int.toNat_natCast] at a
 refine YB (Yb (zT (x:=.tup (ps.map .int)) (y:=.int (cLe ks k)) rfl (ya (x:=.tup (ks.map .int)) (y:=.int k) rfl rfl (KU ks k hl)) ?_))<;>try exact []
 simp [ixD,a]
theorem Qdx (l:Int) (ks ps:List Int) (hi sd:Option Int) (k:Int) (hl:ks.length<=100) (hp:ps.length=ks.length):J9 [Zv l ks ps hi sd,.int k]=pure (if cLt ks k=cLe ks k then .non else .int (ps.getD (cLt ks k) 0)):=by
 have h:=XA ks k
 have hlt:=xX ks k
 refine YB (env:=[.val (Zv l ks ps hi sd),.val (.int k),.val (.tup (ks.map .int)),.val (.int (cLt ks k))]) ?_
 refine (Jb (Jm (d:=.tup (ks.map .int)) rfl)).trans ?_
 refine (Jb (Jm (d:=.int (cLt ks k)) (ya (x:=.tup (ks.map .int)) (y:=.int k) rfl rfl (Qe2 ks k hl)))).trans ?_
 have tst:eB (Qf eqD (Qb 3) (Qu 2 ZI (Qc (Qb 2) (Qc (Qb 1) Qm)))) [.val (Zv l ks ps hi sd),.val (.int k),.val (.tup (ks.map .int)),.val (.int (cLt ks k))]=pure (decide (cLt ks k=cLe ks k)):=by
  refine QgM (zT (x:=.int (cLt ks k)) (y:=.int (cLe ks k)) rfl (ya (x:=.tup (ks.map .int)) (y:=.int k) rfl rfl (KU ks k hl)) ?_)
  rw [Z6]
  congr 2
  rw [Bool.eq_iff_iff];simp only [beq_iff_eq,decide_eq_true_eq];omega
 by_cases hc:cLt ks k=cLe ks k
 ·rw [if_pos hc]
  exact QeI ((Qhj (tst.trans (by simp [hc]))).trans (Yb rfl))
 ·rw [if_neg hc]
  refine (Jb ((Qhi (tst.trans (by simp [hc]))).trans rfl)).trans ?_
  have hlt2:cLt ks k < ks.length:=by
   have:cLt ks k<=cLe ks k:=by
    unfold cLt cLe
    rw [<- List.countP_eq_length_filter,<- List.countP_eq_length_filter]
    exact List.countP_mono_left fun x _ hx=>by simp at hx ⊢;omega
   omega
  have a:=KP ps (i:=(cLt ks k:Int)) (by omega) (by omega)
  rw [Int.toNat_natCast] at a
  exact Yb (zT (x:=.tup (ps.map .int)) (y:=.int (cLt ks k)) rfl rfl (by simp [ixD,a]))
theorem GU {f:DEx} {g:DAx} {env:En} {x:DV} {xs:List DV} {hp hp1 hp2:Hs} (h:f env hp=some (x,hp1)) (h':g env hp1=some (xs,hp2)):Qc f g env hp=some (x::xs,hp2):=by
 unfold Qc;rw [Qi h,Qi h'];rfl
theorem QbU {F:List DV->M DV} {f f' f'' f3:DEx} {env:En} {x y z u d:DV} (h:f env=pure x) (h':f' env=pure y) (h'':f'' env=pure z) (h3:f3 env=pure u) (hF:F [x,y,z,u]=pure d):Qu 4 F (Qc f (Qc f' (Qc f'' (Qc f3 Qm)))) env=pure d:=by simp [Qu,Qc,Qm,h,h',h'',h3,QE,hF]
theorem yH (l:Int) (ks ps:List Int) (hi sd:Option Int) (a b:DV):qu [Zv l ks ps hi sd,a,b]=pure (.tup [.int l,a,b,opt hi,opt sd]):=rfl
theorem QhS (ks ns:List Int) (a b:Nat) (h:ks.length<=1000) (hn:ns.length<=10):(do let x <- slD (.tup (ks.map .int)) none (some (a:Int));let y <- Zt x (.tup (ns.map .int));let d <- slD (.tup (ks.map .int)) (some (b:Int)) none;Zt y d:M DV)=pure (.tup ((ks.take a++ns++ks.drop b).map .int)):=by
 rw [Up,Uo]
 simp only [pure_bind,Zt]
 rw [qk (by simp;omega)]
 simp only [QE,if_true,pure_bind]
 rw [qk (by simp;omega)]
 simp [List.map_take,List.map_drop]
theorem Qe5 {f g h q:DEx} {env:En} {ks ns:List Int} {a b:Nat} (hf:f env=pure (.tup (ks.map .int))) (hg:g env=pure (.int (a:Int))) (hh:h env=pure (.int (b:Int))) (hq:q env=pure (.tup (ns.map .int))) (hl:ks.length<=1000) (hn:ns.length<=10):Qf Zt (Qf Zt (eSl f Zj (Zk g)) q) (eSl f (Zk h) Zj) env=pure (.tup ((ks.take a++ns++ks.drop b).map .int)):=by
 have e1:eSl f Zj (Zk g) env=slD (.tup (ks.map .int)) none (some (a:Int)):=by simp only [eSl,hf,hg,Zj,Zk,asI,pure_bind]
 have e2:eSl f (Zk h) Zj env=slD (.tup (ks.map .int)) (some (b:Int)) none:=by simp only [eSl,hf,hh,Zj,Zk,asI,pure_bind]
 rw [<- QhS ks ns a b hl hn]
 simp only [Qf,e1,e2,hq,pure_bind,bind_assoc]
theorem yS (l:Int) (ks ps nk nw:List Int) (hi sd:Option Int) (k:Int) (hl:ks.length<=100) (hp:ps.length<=100) (h1:nk.length<=10) (h2:nw.length<=10):qw [Zv l ks ps hi sd,.int k,.tup (nk.map .int),.tup (nw.map .int)]=pure (Zv l (ks.take (cLt ks k)++nk++ks.drop (cLe ks k)) (ps.take (cLt ks k)++nw++ps.drop (cLe ks k)) hi sd):=by
 refine YB (env:=[.val (Zv l ks ps hi sd),.val (.int k),.val (.tup (nk.map .int)),.val (.tup (nw.map .int)),.val (.tup (ks.map .int)),.val (.tup (ps.map .int)),.val (.int (cLt ks k:Int)),.val (.int (cLe ks k:Int))]) ?_
 refine (Jb (Jm (d:=.tup (ks.map .int)) rfl)).trans ?_
 refine (Jb (Jm (d:=.tup (ps.map .int)) rfl)).trans ?_
 refine (Jb (Jm (d:=.int (cLt ks k:Int)) (ya (x:=.tup (ks.map .int)) (y:=.int k) rfl rfl (Qe2 ks k hl)))).trans ?_
 refine (Jb (Jm (d:=.int (cLe ks k:Int)) (ya (x:=.tup (ks.map .int)) (y:=.int k) rfl rfl (KU ks k hl)))).trans ?_
 exact Yb (QbT (x:=Zv l ks ps hi sd) rfl (Qe5 rfl rfl rfl rfl (by omega) h1) (Qe5 rfl rfl rfl rfl (by omega) h2) (yH l ks ps hi sd _ _))
def Ge (ks:List Int) (c:Nat) (k:Int):List Int:=ks.take c++k::ks.drop c
theorem Qgk (ks:List Int) (c:Nat) (k:Int) (h:ks.length<=1000):(do let a <- slD (.tup (ks.map .int)) none (some (c:Int));let b <- Zt a (.tup [.int k]);let d <- slD (.tup (ks.map .int)) (some (c:Int)) none;Zt b d:M DV)=pure (.tup ((Ge ks c k).map .int)):=by
 rw [Up,Uo]
 simp only [pure_bind,Zt]
 rw [qk (by simp;omega)]
 simp only [QE,if_true,pure_bind]
 rw [qk (by simp;omega)]
 simp [Ge,List.map_take,List.map_drop]
theorem Vk {f g h:DEx} {env:En} {ks:List Int} {c:Nat} {k:Int} (hf:f env=pure (.tup (ks.map .int))) (hg:g env=pure (.int (c:Int))) (hk:h env=pure (.int k)) (hl:ks.length<=1000):Qf Zt (Qf Zt (eSl f Zj (Zk g)) (Q3 (Qc h Qm))) (eSl f (Zk g) Zj) env=pure (.tup ((Ge ks c k).map .int)):=by
 have e1:eSl f Zj (Zk g) env=slD (.tup (ks.map .int)) none (some (c:Int)):=by simp only [eSl,hf,hg,Zj,Zk,asI,pure_bind]
 have e2:eSl f (Zk g) Zj env=slD (.tup (ks.map .int)) (some (c:Int)) none:=by simp only [eSl,hf,hg,Zj,Zk,asI,pure_bind]
 have e3:Q3 (Qc h Qm) env=pure (.tup [.int k]):=by
  simp only [Q3,Qc,Qm,hk,pure_bind];rfl
 rw [<- Qgk ks c k hl]
 simp only [Qf,e1,e2,e3,pure_bind,bind_assoc]
theorem Qa1 (l:Int) (ks ps:List Int) (hi sd:Option Int) (k kid:Int) (hl:ks.length<=100) (hp:ps.length<=1000):qv [Zv l ks ps hi sd,.int k,.int kid]=pure (Zv l (Ge ks (cLe ks k) k) (Ge ps (cLe ks k+1) kid) hi sd):=by
 refine YB (env:=[.val (Zv l ks ps hi sd),.val (.int k),.val (.int kid),.val (.tup (ks.map .int)),.val (.tup (ps.map .int)),.val (.int (cLe ks k:Int)),.val (.int ((cLe ks k:Int)+1))]) ?_
 refine (Jb (Jm (d:=.tup (ks.map .int)) rfl)).trans ?_
 refine (Jb (Jm (d:=.tup (ps.map .int)) rfl)).trans ?_
 refine (Jb (Jm (d:=.int (cLe ks k:Int)) (ya (x:=.tup (ks.map .int)) (y:=.int k) rfl rfl (KU ks k hl)))).trans ?_
 refine (Jb (Jm (d:=.int ((cLe ks k:Int)+1)) rfl)).trans ?_
 refine Yb (QbT (x:=Zv l ks ps hi sd) (y:=.tup ((Ge ks (cLe ks k) k).map .int)) (z:=.tup ((Ge ps (cLe ks k+1) kid).map .int)) rfl ?_ ?_ (yH l ks ps hi sd _ _))
 ·exact Vk rfl rfl rfl (by omega)
 ·exact Vk rfl (by show (pure (DV.int ((cLe ks k:Int)+1)):M DV)=_;rw [show ((cLe ks k:Int)+1)=((cLe ks k+1:Nat):Int) by omega]) rfl hp
def Zw (l:Int) (n:Nat):Nat:=if l=0 then n / 2 else n / 2+1
def QcB (l:Int) (ks ps:List Int) (hi sd:Option Int) (num:Int):DV :=
 .tup [Zv l (ks.take (ks.length / 2)) (ps.take (Zw l ks.length)) (some (ks.getD (ks.length / 2) 0)) (some num),Zv l (ks.drop (Zw l ks.length)) (ps.drop (Zw l ks.length)) hi sd,.int (ks.getD (ks.length / 2) 0)]
theorem Qa8 (l:Int) (ks ps:List Int) (hi sd:Option Int) (num:Int) (h3:3<=ks.length) (hl:ks.length<=100):jP [Zv l ks ps hi sd,.int num]=pure (QcB l ks ps hi sd num):=by
 have hm:((ks.length:Int)) / 2=((ks.length / 2:Nat):Int):=by omega
 have a:=KP ks (i:=((ks.length / 2:Nat):Int)) (by omega) (by omega)
 rw [Int.toNat_natCast] at a
 have hcut:(if l=0 then DV.int ((ks.length / 2:Nat):Int) else .int (((ks.length / 2:Nat):Int)+1))=.int ((Zw l ks.length:Nat):Int):=by
  unfold Zw
  split<;>simp
 generalize hC:Zw l ks.length=C at hcut
 generalize hK:ks.getD (ks.length / 2) 0=kk at a
 have e7:eIf (eB (Qf eqD (Qb 2) (eC (.int 0)))) (Qb 5) (Qf Zt (Qb 5) (eC (.int 1))) [.val (Zv l ks ps hi sd),.val (.int num),.val (.int l),.val (.tup (ks.map .int)),.val (.tup (ps.map .int)),.val (.int ((ks.length / 2:Nat):Int)),.val (.int kk),.un,.un,.un]=pure (.int (C:Int)):=by
  rw [<- hcut]
  by_cases q:l=0
  ·simp [eIf,eB,Qf,Qb,eC,Z6,asB,q]
  ·have:(l==0)=false:=by simpa using q
   simp [eIf,eB,Qf,Qb,eC,Z6,asB,q,this,Z4]
 unfold QcB
 rw [hC,hK]
 refine YB (env:=[.val (Zv l ks ps hi sd),.val (.int num),.val (.int l),.val (.tup (ks.map .int)),.val (.tup (ps.map .int)),.val (.int ((ks.length / 2:Nat):Int)),.val (.int kk),.val (.int (C:Int)),.val (Zv l (ks.take (ks.length / 2)) (ps.take C) (some kk) (some num)),.val (Zv l (ks.drop C) (ps.drop C) hi sd)]) ?_
 refine (Jb (Jm (d:=.int l) rfl)).trans ?_
 refine (Jb (Jm (d:=.tup (ks.map .int)) rfl)).trans ?_
 refine (Jb (Jm (d:=.tup (ps.map .int)) rfl)).trans ?_
 refine (Jb (Jm (d:=.int ((ks.length / 2:Nat):Int)) ?_)).trans ?_
 ·refine zT (x:=.int (ks.length:Int)) (y:=.int 2) ?_ rfl ((VF _ 2 (by decide) (by decide)).trans (by rw [hm]))
  show (pure (DV.int ((ks.map DV.int).length:Int)):M DV)=_
  rw [List.length_map]
 refine (Jb (Jm (d:=.int kk) (zT (x:=.tup (ks.map .int)) (y:=.int ((ks.length / 2:Nat):Int)) rfl rfl (Qd0 a)))).trans ?_
 refine (Jb (Jm (d:=.int (C:Int)) e7)).trans ?_
 refine (Jb (Jm (d:=Zv l (ks.take (ks.length / 2)) (ps.take C) (some kk) (some num)) ?_)).trans ?_
 ·have t1:=vj (f:=Qb 3) (g:=Qb 5) (env:=[.val (Zv l ks ps hi sd),.val (.int num),.val (.int l),.val (.tup (ks.map .int)),.val (.tup (ps.map .int)),.val (.int ((ks.length / 2:Nat):Int)),.val (.int kk),.val (.int (C:Int)),.un,.un]) (ds:=ks.map .int) (m:=ks.length / 2) rfl rfl
  have t2:=vj (f:=Qb 4) (g:=Qb 7) (env:=[.val (Zv l ks ps hi sd),.val (.int num),.val (.int l),.val (.tup (ks.map .int)),.val (.tup (ps.map .int)),.val (.int ((ks.length / 2:Nat):Int)),.val (.int kk),.val (.int (C:Int)),.un,.un]) (ds:=ps.map .int) (m:=C) rfl rfl
  simp only [List.set_cons_succ,List.set_cons_zero,List.map_cons,List.map_nil,List.length_cons,List.length_nil,List.cons_append,List.nil_append,List.replicate,Q3,Qc,Qm,t1,t2,pure_bind]
  simp only [Zv,List.map_take,opt]
  rfl
 refine (Jb (Jm (d:=Zv l (ks.drop C) (ps.drop C) hi sd) ?_)).trans ?_
 ·have t1:=vi (f:=Qb 3) (g:=Qb 7) (env:=[.val (Zv l ks ps hi sd),.val (.int num),.val (.int l),.val (.tup (ks.map .int)),.val (.tup (ps.map .int)),.val (.int ((ks.length / 2:Nat):Int)),.val (.int kk),.val (.int (C:Int)),.val (Zv l (ks.take (ks.length / 2)) (ps.take C) (some kk) (some num)),.un]) (ds:=ks.map .int) (m:=C) rfl rfl
  have t2:=vi (f:=Qb 4) (g:=Qb 7) (env:=[.val (Zv l ks ps hi sd),.val (.int num),.val (.int l),.val (.tup (ks.map .int)),.val (.tup (ps.map .int)),.val (.int ((ks.length / 2:Nat):Int)),.val (.int kk),.val (.int (C:Int)),.val (Zv l (ks.take (ks.length / 2)) (ps.take C) (some kk) (some num)),.un]) (ds:=ps.map .int) (m:=C) rfl rfl
  simp only [List.set_cons_succ,List.set_cons_zero,List.map_cons,List.map_nil,List.length_cons,List.length_nil,List.cons_append,List.nil_append,List.replicate,Q3,Qc,Qm,t1,t2,pure_bind]
  simp only [Zv,List.map_drop]
  rfl
 exact Yb rfl
theorem XC (p:TR.Pg):pgD p=Zv p.lv p.ks p.ps p.hi (p.sd.map fun n=>(n:Int)):=by
 unfold pgD Zv;cases p.sd<;>rfl
theorem Qbb (p:TR.Pg) (k:Int):YW [pgD p,.int k]=pure (.bl (TR.JM p k)):=by
 rw [XC,QaK]
 unfold hiB TR.JM
 cases p.hi<;>rfl
theorem Qf2 (p:TR.Pg) (k c:Int) (hl:p.ks.length<=100) (hp:p.ps.length=p.ks.length+1) (hc:p.ps[TR.cLe p.ks k]?=some c):YX [pgD p,.int k]=pure (.int c):=by
 rw [XC,QfD _ _ _ _ _ _ hl hp]
 rw [List.getD_eq_getElem?_getD,show p.ps[cLe p.ks k]?=some c from hc];rfl
theorem QcJ (p:TR.Pg) (k:Int) (hl:p.ks.length<=100) (hp:p.ps.length=p.ks.length):J9 [pgD p,.int k]=pure (opt (TR.QV p k)):=by
 rw [XC,Qdx _ _ _ _ _ _ hl hp]
 unfold TR.QV
 by_cases h:cLt p.ks k=cLe p.ks k
 ·rw [if_pos h,if_pos (show TR.cLt p.ks k=TR.cLe p.ks k from h)];rfl
 ·rw [if_neg h,if_neg (show ¬ TR.cLt p.ks k=TR.cLe p.ks k from h)]
  have h1:=TR.j1 p.ks k
  have h2:=TR.XA p.ks k
  have h3:¬ TR.cLt p.ks k=TR.cLe p.ks k:=h
  rw [List.getD_eq_getElem?_getD,show p.ps[cLt p.ks k]?=some (p.ps[TR.cLt p.ks k]'(by omega)) from List.getElem?_eq_getElem _,List.getElem?_eq_getElem (show TR.cLt p.ks k < p.ps.length by omega)];rfl
theorem Qel (p:TR.Pg) (k x:Int) (hl:p.ks.length<=100) (hp:p.ps.length<=100):zg [pgD p,.int k,.int x]=pure (pgD (TR.QY p k x)):=by
 have e:=yS p.lv p.ks p.ps [k] [x] p.hi (p.sd.map fun n=>(n:Int)) k hl hp (by simp) (by simp)
 rw [XC,XC]
 refine YB (env:=[.val (Zv p.lv p.ks p.ps p.hi (p.sd.map fun n=>(n:Int))),.val (.int k),.val (.int x)]) (Yb (QbU rfl rfl rfl rfl (e.trans ?_)))
 simp [TR.QY,TR.cLt,TR.cLe,cLt,cLe]
theorem gx (p:TR.Pg) (k:Int) (hl:p.ks.length<=100) (hp:p.ps.length<=100):xU [pgD p,.int k]=pure (pgD (TR.without p k)):=by
 have e:=yS p.lv p.ks p.ps [] [] p.hi (p.sd.map fun n=>(n:Int)) k hl hp (by simp) (by simp)
 rw [XC,XC]
 refine YB (env:=[.val (Zv p.lv p.ks p.ps p.hi (p.sd.map fun n=>(n:Int))),.val (.int k)]) (Yb (QbU rfl rfl rfl rfl (e.trans ?_)))
 simp [TR.without,TR.cLt,TR.cLe,cLt,cLe]
theorem gw (p:TR.Pg) (k:Int) (c:Nat) (hl:p.ks.length<=100) (hp:p.ps.length<=1000):qv [pgD p,.int k,.int c]=pure (pgD (TR.ZG p k c)):=by
 rw [XC,Qa1 _ _ _ _ _ _ _ hl hp,XC];rfl
theorem Qek (p:TR.Pg) (room:Nat):Yd [pgD p,.int room]=pure (.bl (decide (room < p.ks.length))):=by
 have e:(decide ((room:Int) < ((p.ks.map DV.int).length:Int)))=decide (room < p.ks.length):=by
  rw [List.length_map];congr 1;rw [eq_iff_iff];omega
 refine YB (env:=[.val (pgD p),.val (.int room)]) (Yb (zT (x:=.int ((p.ks.map DV.int).length:Int)) (y:=.int room) rfl rfl ((Z9 _ _).trans ?_)))
 rw [<- e]
theorem Qbc (p:TR.Pg) (n:Nat) (h3:3<=p.ks.length) (hl:p.ks.length<=100):jP [pgD p,.int n]=pure (.tup [pgD (TR.Zq p n),pgD (TR.Q6 p),.int (TR.J6 p)]):=by
 rw [XC,Qa8 _ _ _ _ _ _ h3 hl]
 unfold QcB
 rw [XC,XC]
 have hc:Zw p.lv p.ks.length=TR.Zw p:=by
  unfold Zw TR.Zw TR.mid
  by_cases h:p.lv=0
  ·simp [h]
  ·rw [if_neg h,if_neg (by omega)]
 rw [hc];rfl
structure At (hp:Hs) (n k a f q:Nat) (S:TR.Sh) (w:TR.Wk):Prop where
 h1:hp[n]?=some (.ins "Shelf" (shF S.room k S.top S.rd S.wr))
 h2:hp[k]?=some (.lst (S.pg.map pgD))
 h3:hp[a]?=some (wkO n f q w)
 h4:hp[f]?=some (.dic (fkD w.forks))
 h5:hp[q]?=some (.lst (prD w.pairs))
structure Dif (n k a f q:Nat):Prop where
 nk:n≠k
 na:n≠a
 nf:n≠f
 nq:n≠q
 ka:k≠a
 kf:k≠f
 kq:k≠q
 af:a≠f
 aq:a≠q
 fq:f≠q
def Fr (hp hp':Hs) (n k a f q:Nat):Prop:=hp.length<=hp'.length/\∀ i,i < hp.length->i≠n->i≠k->i≠a->i≠f->i≠q->hp'[i]?=hp[i]?
section
variable {hp hp' hp2:Hs} {n k a f q:Nat} {S S':TR.Sh} {w w':TR.Wk}
theorem Fr.refl:Fr hp hp n k a f q:=⟨Nat.le_refl _,fun _ _ _ _ _ _ _=>rfl⟩
theorem Fr.trans (x:Fr hp hp' n k a f q) (y:Fr hp' hp2 n k a f q):Fr hp hp2 n k a f q:=⟨Nat.le_trans x.1 y.1,fun i hi a1 a2 a3 a4 a5=>(y.2 i (Nat.lt_of_lt_of_le hi x.1) a1 a2 a3 a4 a5).trans (x.2 i hi a1 a2 a3 a4 a5)⟩
theorem gs {n m:Nat} {X:OV} {Y:Option OV} (h:n≠m) (h':hp[m]?=Y):(hp.set n X)[m]?=Y:=(QU _ _ _ _ h).trans h'
theorem gss {n:Nat} {X Y:OV} (h':hp[n]?=some Y):(hp.set n X)[n]?=some X:=Zi _ _ _ (by rw [h'];rfl)
theorem At.walk (A:At hp n k a f q S w) (D:Dif n k a f q) (w':TR.Wk) (e1:w'.forks=w.forks) (e2:w'.pairs=w.pairs):At (hp.set a (wkO n f q w')) n k a f q S w'/\Fr hp (hp.set a (wkO n f q w')) n k a f q :=
 ⟨⟨gs D.na.symm A.h1,gs D.ka.symm A.h2,gss A.h3,gs D.af (by rw [e1];exact A.h4),gs D.aq (by rw [e2];exact A.h5)⟩,by simp,fun i hi a1 a2 a3 a4 a5=>QU _ _ _ _ (Ne.symm a3)⟩
theorem At.shelf (A:At hp n k a f q S w) (D:Dif n k a f q) (S':TR.Sh) (e:S'.room=S.room):At ((hp.set n (.ins "Shelf" (shF S.room k S'.top S'.rd S'.wr))).set k (.lst (S'.pg.map pgD))) n k a f q S' w/\Fr hp ((hp.set n (.ins "Shelf" (shF S.room k S'.top S'.rd S'.wr))).set k (.lst (S'.pg.map pgD))) n k a f q :=
 ⟨⟨gs D.nk.symm (by rw [e];exact gss A.h1),gss (gs D.nk A.h2),gs D.ka (gs D.na A.h3),gs D.kf (gs D.nf A.h4),gs D.kq (gs D.nq A.h5)⟩,by simp,fun i hi a1 a2 a3 a4 a5=>(QU _ _ _ _ (Ne.symm a2)).trans (QU _ _ _ _ (Ne.symm a1))⟩
theorem At.count (A:At hp n k a f q S w) (D:Dif n k a f q) (S':TR.Sh) (e:S'.room=S.room) (e2:S'.pg=S.pg):At (hp.set n (.ins "Shelf" (shF S.room k S'.top S'.rd S'.wr))) n k a f q S' w/\Fr hp (hp.set n (.ins "Shelf" (shF S.room k S'.top S'.rd S'.wr))) n k a f q :=
 ⟨⟨by rw [e];exact gss A.h1,gs D.nk (by rw [e2];exact A.h2),gs D.na A.h3,gs D.nf A.h4,gs D.nq A.h5⟩,by simp,fun i hi a1 a2 a3 a4 a5=>QU _ _ _ _ (Ne.symm a1)⟩
theorem At.fork (A:At hp n k a f q S w) (D:Dif n k a f q) (w':TR.Wk) (h:wkO n f q w'=wkO n f q w) (e:w'.pairs=w.pairs):At (hp.set f (.dic (fkD w'.forks))) n k a f q S w'/\Fr hp (hp.set f (.dic (fkD w'.forks))) n k a f q :=
 ⟨⟨gs D.nf.symm A.h1,gs D.kf.symm A.h2,gs D.af.symm (by rw [h];exact A.h3),gss A.h4,gs D.fq (by rw [e];exact A.h5)⟩,by simp,fun i hi a1 a2 a3 a4 a5=>QU _ _ _ _ (Ne.symm a4)⟩
theorem At.pair (A:At hp n k a f q S w) (D:Dif n k a f q) (w':TR.Wk) (h:wkO n f q w'=wkO n f q w) (e:w'.forks=w.forks):At (hp.set q (.lst (prD w'.pairs))) n k a f q S w'/\Fr hp (hp.set q (.lst (prD w'.pairs))) n k a f q :=
 ⟨⟨gs D.nq.symm A.h1,gs D.kq.symm A.h2,gs D.aq.symm (by rw [h];exact A.h3),gs D.fq.symm (by rw [e];exact A.h4),gss A.h5⟩,by simp,fun i hi a1 a2 a3 a4 a5=>QU _ _ _ _ (Ne.symm a5)⟩
theorem At.more (A:At hp n k a f q S w) (x:OV):At (hp++[x]) n k a f q S w/\Fr hp (hp++[x]) n k a f q:=by
 have ap:∀ {i:Nat} {y:OV},hp[i]?=some y->(hp++[x])[i]?=some y:=fun {i y} h=>by rw [List.getElem?_append_left (List.getElem?_eq_some_iff.mp h).1];exact h
 exact ⟨⟨ap A.h1,ap A.h2,ap A.h3,ap A.h4,ap A.h5⟩,by simp,fun i hi _ _ _ _ _=>List.getElem?_append_left hi⟩
theorem kU (ps:List TR.Pg) (p:TR.Pg):ps.map pgD++[pgD p]=(ps++[p]).map pgD:=by simp
theorem map_set (ps:List TR.Pg) (i:Nat) (p:TR.Pg):(ps.map pgD).set i (pgD p)=(ps.set i p).map pgD:=by rw [List.map_set]
theorem Xw (A:At hp n k a f q S w) {env:En} (h:env[0]?=some (.val (.ref a))):QS "Walk" "shelf" (Qb 0) env hp=some (.ref n,hp):=Zn (Qe h) A.h3 (Qbv ..)
theorem Kx (A:At hp n k a f q S w) (D:Dif n k a f q) {i:Nat} (hi:i < S.pg.length) (P:TR.Pg) (h3:S.room < P.ks.length->3<=P.ks.length) (hP:P.ks.length<=100) (hl:S.pg.length < 90000) :
  ∃ hp',XF [.ref a,.int i,pgD P] hp=some (oN (TR.Q8 S w i P).1,hp')/\At hp' n k a f q (TR.Q8 S w i P).2.1 (TR.Q8 S w i P).2.2/\Fr hp hp' n k a f q:=by
 have t0:Qu 2 Yd (Qc (Qb 2) (Qc (QF "Shelf" "room" 1 ZX (QS "Walk" "shelf" (Qb 0)) Qm) Qm)) [.val (.ref a),.val (.int i),.val (pgD P),.un] hp=some (.bl (decide (S.room < P.ks.length)),hp) :=
  QW (ZQ (Qe rfl) (Q4 (Xw A rfl) A.h1 (vU ..) Xc rfl (Qaf A.h1))) rfl (Zc (Qek P S.room) hp)
 unfold TR.Q8
 by_cases hr:P.ks.length<=S.room
 ·rw [if_pos hr]
  have hd:decide (S.room < P.ks.length)=false:=decide_eq_false (by omega)
  rw [hd] at t0
  have t1:JY (eB (Qu 2 Yd (Qc (Qb 2) (Qc (QF "Shelf" "room" 1 ZX (QS "Walk" "shelf" (Qb 0)) Qm) Qm)))) [.val (.ref a),.val (.int i),.val (pgD P),.un] hp=some (true,hp):=XI (b:=false) (QR t0)
  have wr:=Uz (d:=pgD P) (i:=i) A.h1 A.h2 D.nk (by simpa using hi)
  rw [map_set] at wr
  obtain ⟨A1,F1⟩:=A.shelf D { S with pg:=S.pg.set i P,wr:=S.wr+1 } rfl
  obtain ⟨A2,F2⟩:=A1.walk D { w with ended:=true } rfl rfl
  refine ⟨_,?_,A2,F1.trans F2⟩
  refine Qz (env:=[.val (.ref a),.val (.int i),.val (pgD P),.un]) (QT ((Q9 t1).trans ?_))
  refine (Qk (Xu (Q4 (Xw A rfl) A.h1 (zL ..) (ZQ (Qe rfl) (Qe rfl)) rfl wr))).trans ?_
  exact (Qk (JE (v:=.bl true) rfl (Qe rfl) A1.h3 wl)).trans (QD (d:=.non) rfl)
 ·rw [if_neg hr]
  have hd:decide (S.room < P.ks.length)=true:=decide_eq_true (by omega)
  rw [hd] at t0
  have t1:JY (eB (Qu 2 Yd (Qc (Qb 2) (Qc (QF "Shelf" "room" 1 ZX (QS "Walk" "shelf" (Qb 0)) Qm) Qm)))) [.val (.ref a),.val (.int i),.val (pgD P),.un] hp=some (false,hp):=XI (b:=true) (QR t0)
  have pl:(S.pg.map pgD).length=S.pg.length:=by simp
  have pe:=Qbc P S.pg.length (h3 (by omega)) hP
  have ly:=Qcf (pg:=pgD (TR.Q6 P)) A.h1 A.h2 D.nk (by rw [pl];omega)
  rw [pl,kU] at ly
  obtain ⟨A1,F1⟩:=A.shelf D { S with pg:=S.pg++[TR.Q6 P],wr:=S.wr+1 } rfl
  obtain ⟨A2,F2⟩:=A1.walk D { w with newp:=some S.pg.length } rfl rfl
  have wr:=Uz (d:=pgD (TR.Zq P S.pg.length)) (i:=i) A2.h1 A2.h2 D.nk (by simp;omega)
  rw [map_set] at wr
  obtain ⟨A3,F3⟩:=A2.shelf D { S with pg:=(S.pg++[TR.Q6 P]).set i (TR.Zq P S.pg.length),wr:=S.wr+1+1 } rfl
  obtain ⟨A4,F4⟩:=A3.walk D { w with newp:=some S.pg.length,aim:=TR.J6 P } rfl rfl
  obtain ⟨A5,F5⟩:=A4.walk D { w with newp:=some S.pg.length,aim:=TR.J6 P,goal:=P.lv+1 } rfl rfl
  obtain ⟨A6,F6⟩:=A5.walk D { w with newp:=some S.pg.length,aim:=TR.J6 P,goal:=P.lv+1,place:=TR.Xx w.forks (P.lv+1) } rfl rfl
  refine ⟨_,?_,A6,F1.trans (F2.trans (F3.trans (F4.trans (F5.trans F6))))⟩
  refine Qz (env:=[.val (.ref a),.val (.int i),.val (pgD P),.val (.tup [pgD (TR.Zq P S.pg.length),pgD (TR.Q6 P),.int (TR.J6 P)])]) ?_
  refine (Qk ((QN t1).trans QO)).trans ?_
  have pg:=V2 A.h1 A.h2
  rw [pl] at pg
  refine (Qk (QI (QW (ZQ (Qe rfl) (Q4 (Xw A rfl) A.h1 (zJ ..) Xc rfl pg)) rfl (Zc pe hp)))).trans ?_
  refine (Qk (JE (Q4 (Xw A rfl) A.h1 (Kz ..) (ZJ (Qh (Qe rfl) rfl (ZV (i:=1) rfl _))) rfl ly) (Qe rfl) A1.h3 wl)).trans ?_
  refine (Qk (Xu (Q4 (Xw A2 rfl) A2.h1 (zL ..) (ZQ (Qe rfl) (Qh (Qe rfl) rfl (ZV (i:=0) rfl _))) rfl wr))).trans ?_
  refine (Qk (JE (Qh (Qe rfl) rfl (ZV (i:=2) rfl _)) (Qe rfl) A3.h3 wl)).trans ?_
  refine (Qk (JE (v:=.int ((P.lv+1:Nat):Int)) (Qh (Qh (Qe rfl) rfl (YU P _)) rfl rfl) (Qe rfl) A4.h3 wl)).trans ?_
  have dg:JX "dict" J5 (QS "Walk" "forks" (Qb 0)) (Qc (QS "Walk" "goal" (Qb 0)) Qm) [.val (.ref a),.val (.int i),.val (pgD P),.val (.tup [pgD (TR.Zq P S.pg.length),pgD (TR.Q6 P),.int (TR.J6 P)])] _=some (oN (TR.Xx w.forks (P.lv+1)),_) :=
   ku (Zn (Qe rfl) A5.h3 (KF ..)) A5.h4 (ZJ (Zn (Qe rfl) A5.h3 (uh ..)))
  refine (Qk (JE dg (Qe rfl) A5.h3 wl)).trans ?_
  exact QD (Zn (Qe rfl) A6.h3 (GR ..))
end
theorem QbE (x:DV) (xs:List DV):atI (x::xs) 0=some x:=zP (j:=0) rfl
theorem UR {r a b:Int} {n k:Nat} {ps:List DV} {hp:Hs} {t i:Nat} {key:Int} {l:Int} {ks qs:List Int} {hi sd:Option Int} (h1:hp[n]?=some (.ins "Shelf" (shF r k t a b))) (h2:hp[k]?=some (.lst ps)) (hnk:n≠k) (hi1:i < ps.length) (ht:ps[t]?=some (Zv l ks qs hi sd)) (hl:ps.length < 99999) :
  Jf [.ref n,.int key,.int i] hp=some (.int ps.length,(hp.set n (.ins "Shelf" (shF r k ps.length a (b+1)))).set k (.lst (ps++[Zv (l+1) [key] [(t:Int),(i:Int)] none none]))):=by
 have c:=VA (i:=(i:Int)) h1 h2 (by omega) (by omega)
 have ht':atI ps (t:Int)=some (.tup [.int l,.tup (ks.map .int),.tup (qs.map .int),opt hi,opt sd]):=zP ht
 have y:=Qcf (pg:=Zv (l+1) [key] [(t:Int),(i:Int)] none none) h1 h2 hnk hl
 have pd:DV.tup [.int (l+1),.tup [.int key],.tup [.int (t:Int),.int (i:Int)],.non,.non]=Zv (l+1) [key] [(t:Int),(i:Int)] none none:=rfl
 have g1:((hp.set n (.ins "Shelf" (shF r k t a (b+1)))).set k (.lst (ps++[Zv (l+1) [key] [(t:Int),(i:Int)] none none])))[n]?=some (.ins "Shelf" (shF r k t a (b+1))):=by
  rw [QU _ _ _ _ hnk.symm];exact Zi _ _ _ (by rw [h1];rfl)
 have g2:∀ X Y Z:OV,((hp.set n X).set k Y).set n Z=(hp.set n Z).set k Y:=fun X Y Z=>by
  rw [List.set_comm _ _ hnk,List.set_set,List.set_comm _ _ hnk.symm,List.set_comm _ _ hnk]
 have g3:((hp.set n (.ins "Shelf" (shF r k ps.length a (b+1)))).set k (.lst (ps++[Zv (l+1) [key] [(t:Int),(i:Int)] none none])))[n]?=some (.ins "Shelf" (shF r k ps.length a (b+1))):=by
  rw [QU _ _ _ _ hnk.symm];exact Zi _ _ _ (by rw [h1];rfl)
 simp [Jf,Yk,Zb,Qq,QA,QJ,YD,sIf,Q5,xD,jB,xB,xC,Qf,Qb,eC,eB,asB,Xf,eOr,JY,J3,xc,X2,eIf,j9,Qm,Qc,Q3,Y7,Qu,Zl,QE,gN,Z4,Ju,Z9,Ja,Jl,Z7,Js,Xo,Yz,xy,Z6,JQ,Jk,Zp,Yq,V6,Zo,gSb,jd,JX,Xy,QS,jC,jK,onI,onL,onD,Z3,Xm,zA,J5,ixG,Jr,qH,YT,J4,X6,asI,ja,Uv,QF,JZ,Ym,Jo,Xd,evP,ZW,Xr,JB,JU,JA,Xq,Xt,Xs,Zi,QU,Ji,qY,lim,ixD,h1,h2,c,qj,Qak,Qda,Vr,yo,Kz,ht',QbE,pd,y,g1,g2,g3]
theorem QcW {hp:Hs} {n k a f q:Nat} {S:TR.Sh} {w:TR.Wk} (A:At hp n k a f q S w) (D:Dif n k a f q) {c:Nat} {r:TR.Pg} {key:Int} (hc:c < S.pg.length) (hr:S.pg[S.top]?=some r) (hl:S.pg.length < 90000) :
  Jf [.ref n,.int key,.int c] hp=some (.int S.pg.length,(hp.set n (.ins "Shelf" (shF S.room k S.pg.length S.rd (S.wr+1)))).set k (.lst ((S.pg++[(⟨r.lv+1,[key],[(S.top:Int),(c:Int)],none,none⟩:TR.Pg)]).map pgD))):=by
 have ht:(S.pg.map pgD)[S.top]?=some (Zv r.lv r.ks r.ps r.hi (r.sd.map fun n=>(n:Int))):=by rw [List.getElem?_map,hr,Option.map_some,XC]
 have e:=UR (key:=key) A.h1 A.h2 D.nk (i:=c) (by simpa using hc) ht (by simp;omega)
 rw [e,List.length_map]
 rw [show Zv ((r.lv:Int)+1) [key] [(S.top:Int),(c:Int)] none none=pgD ⟨r.lv+1,[key],[(S.top:Int),(c:Int)],none,none⟩ from rfl,kU]
theorem GI (S:TR.Sh) (w:TR.Wk) (i:Nat) (P:TR.Pg):(TR.Q8 S w i P).2.2.worth=w.worth:=by
 unfold TR.Q8;split<;>rfl
section
variable {hp:Hs} {n k a f q:Nat} {S:TR.Sh} {w:TR.Wk} {i:Nat} {p:TR.Pg}
theorem vp (A:At hp n k a f q S w) (D:Dif n k a f q) (word:Str) (t:Option Nat):∃ hp',JV [.ref a,.str word,.int i,oN t] hp=some (.tup [.str word,.int i,oN t],hp')/\At hp' n k a f q S { w with place:=t }/\Fr hp hp' n k a f q:=by
 obtain ⟨A1,F1⟩:=A.walk D { w with place:=t } rfl rfl
 refine ⟨_,?_,A1,F1⟩
 refine Qz (env:=[.val (.ref a),.val (.str word),.val (.int i),.val (oN t)]) ?_
 exact (Qk (JE (Qe rfl) (Qe rfl) A.h3 wl)).trans (QD (Zr (ZK (Qe rfl) (Qe rfl) (Qe rfl)) (by simp)))
theorem UQ (A:At hp n k a f q S w) (D:Dif n k a f q) {c:Nat} {r:TR.Pg} (hw:w.newp=some c) (hc:c < S.pg.length) (hr:S.pg[S.top]?=some r) (hl:S.pg.length < 90000):∃ hp',Z5 [.ref a,.int i] hp=some (.tup [.str "raised", .int i,.int S.pg.length],hp')/\At hp' n k a f q { S with pg:=S.pg++[⟨r.lv+1,[w.aim],[(S.top:Int),(c:Int)],none,none⟩],top:=S.pg.length,wr:=S.wr+1 } { w with ended:=true }/\Fr hp hp' n k a f q:=by
 obtain ⟨A1,F1⟩:=A.walk D { w with ended:=true } rfl rfl
 have e:=QcW (key:=w.aim) A1 D hc hr hl
 obtain ⟨A2,F2⟩:=A1.shelf D { S with pg:=S.pg++[⟨r.lv+1,[w.aim],[(S.top:Int),(c:Int)],none,none⟩],top:=S.pg.length,wr:=S.wr+1 } rfl
 refine ⟨_,?_,A2,F1.trans F2⟩
 refine Qz (env:=[.val (.ref a),.val (.int i)]) ?_
 refine (Qk (JE (v:=.bl true) rfl (Qe rfl) A.h3 wl)).trans ?_
 refine QD (Zr (ZK rfl (Qe rfl) (Q4 (Xw A1 rfl) A1.h1 (vT ..) (ZQ (Zn (Qe rfl) A1.h3 (YI ..)) (Zn (d:=.int c) (Qe rfl) A1.h3 ((GR ..).trans (by show some (oN w.newp)=_;rw [hw];rfl)))) rfl e)) (by simp))
theorem Uy (A:At hp n k a f q S w) (D:Dif n k a f q) {env:En} (e0:env[0]?=some (.val (.ref a))) (e2:env[2]?=some (.val (pgD p))) (h1:p.ks.length<=100) (h2:p.ps.length=p.ks.length) :
  ∃ hp',Zp "Walk" "worth" (Qb 0) (Qu 2 J9 (Qc (Qb 2) (Qc (QS "Walk" "aim" (Qb 0)) Qm))) env hp=some ((.nx,env),hp')/\At hp' n k a f q S { w with worth:=TR.QV p w.aim }/\Fr hp hp' n k a f q:=by
 obtain ⟨A1,F1⟩:=A.walk D { w with worth:=TR.QV p w.aim } rfl rfl
 exact ⟨_,JE (QW (ZQ (Qe e2) (Zn (Qe e0) A.h3 (YI ..))) rfl (Zc (QcJ p w.aim h1 h2) hp)) (Qe e0) A.h3 wl,A1,F1⟩
theorem QdQ (A:At hp n k a f q S w) (D:Dif n k a f q) (h1:p.ks.length<=100) (h2:p.ps.length=p.ks.length) :
  ∃ hp',Xg [.ref a,.int i,pgD p] hp=some (.tup [.str "found", .int i,opt (TR.QV p w.aim)],hp')/\At hp' n k a f q S { w with worth:=TR.QV p w.aim,ended:=true }/\Fr hp hp' n k a f q:=by
 obtain ⟨hp1,e1,A1,F1⟩:=Uy (env:=[.val (.ref a),.val (.int i),.val (pgD p)]) A D rfl rfl h1 h2
 obtain ⟨A2,F2⟩:=A1.walk D { w with worth:=TR.QV p w.aim,ended:=true } rfl rfl
 refine ⟨_,?_,A2,F1.trans F2⟩
 refine Qz (env:=[.val (.ref a),.val (.int i),.val (pgD p)]) ?_
 refine (Qk e1).trans ((Qk (JE (v:=.bl true) rfl (Qe rfl) A1.h3 wl)).trans ?_)
 exact QD (Zr (ZK rfl (Qe rfl) (Zn (Qe rfl) A2.h3 (qq ..))) (by simp))
theorem Qgf (A:At hp n k a f q S w) (D:Dif n k a f q) (hi:i < S.pg.length) {x y:Int} (hd:w.deed=.put y x) (h1:p.ks.length<=90) (h2:p.ps.length=p.ks.length) (h3:S.room < (TR.QY p w.aim x).ks.length->3<=(TR.QY p w.aim x).ks.length) (h4:(TR.QY p w.aim x).ks.length<=100) (hl:S.pg.length < 90000) :
  ∃ hp',XS [.ref a,.int i,pgD p] hp=some (.tup [.str "put", .int i,opt (TR.QV p w.aim),oN (TR.Q8 S { w with worth:=TR.QV p w.aim } i (TR.QY p w.aim x)).1],hp')/\At hp' n k a f q (TR.Q8 S { w with worth:=TR.QV p w.aim } i (TR.QY p w.aim x)).2.1 (TR.Q8 S { w with worth:=TR.QV p w.aim } i (TR.QY p w.aim x)).2.2/\Fr hp hp' n k a f q:=by
 obtain ⟨hp1,e1,A1,F1⟩:=Uy (env:=[.val (.ref a),.val (.int i),.val (pgD p),.un]) A D rfl rfl (by omega) h2
 obtain ⟨hp2,e2,A2,F2⟩:=Kx A1 D hi (TR.QY p w.aim x) h3 h4 hl
 refine ⟨hp2,?_,A2,F1.trans F2⟩
 refine Qz (env:=[.val (.ref a),.val (.int i),.val (pgD p),.val (oN (TR.Q8 S { w with worth:=TR.QV p w.aim } i (TR.QY p w.aim x)).1)]) ?_
 refine (Qk e1).trans ?_
 have dx:ixG (ZM w.deed) (.int 2) hp1=some (.int x,hp1):=by rw [hd];exact ZV (i:=2) rfl hp1
 refine (Qk (QI (Q4 (Qe rfl) A1.h3 (Qdw ..) (ZQ (Qe rfl) (QW (ZK (Qe rfl) (Zn (Qe rfl) A1.h3 (YI ..)) (Qh (Zn (Qe rfl) A1.h3 (xS ..)) rfl dx)) rfl (Zc (Qel p w.aim x (by omega) (by omega)) hp1))) rfl e2))).trans ?_
 refine QD (Zr (yw rfl (Qe rfl) (Zn (Qe rfl) A2.h3 ((qq ..).trans ?_)) (Qe rfl)) (by simp))
 rw [GI]
theorem Qfm (A:At hp n k a f q S w) (D:Dif n k a f q) (hi:i < S.pg.length) (h1:p.ks.length<=100) (h2:p.ps.length=p.ks.length) :
    ∃ hp',Yf [.ref a,.int i,pgD p] hp=some (.tup [.str "cut", .int i,opt (TR.QV p w.aim)],hp')/\At hp' n k a f q (if (TR.QV p w.aim).isSome=true then { S with pg:=S.pg.set i (TR.without p w.aim),wr:=S.wr+1 } else S) { w with worth:=TR.QV p w.aim,ended:=true }/\Fr hp hp' n k a f q:=by
  obtain ⟨hp1,e1,A1,F1⟩:=Uy (env:=[.val (.ref a),.val (.int i),.val (pgD p)]) A D rfl rfl h1 h2
  have t:∀ b:Bool,(TR.QV p w.aim).isSome=b->eB (Qf Yt (QS "Walk" "worth" (Qb 0)) (eC .non)) [.val (.ref a),.val (.int i),.val (pgD p)] hp1=some (b,hp1):=fun b hb=>QR (Qh (Zn (Qe rfl) A1.h3 (qq ..)) rfl (by rw [gk,hb];rfl))
  cases hs:(TR.QV p w.aim).isSome with
  | true =>
    rw [if_pos rfl]
    have wr:=Uz (d:=pgD (TR.without p w.aim)) (i:=i) A1.h1 A1.h2 D.nk (by simpa using hi)
    rw [map_set] at wr
    obtain ⟨A2,F2⟩:=A1.shelf D { S with pg:=S.pg.set i (TR.without p w.aim),wr:=S.wr+1 } rfl
    obtain ⟨A3,F3⟩:=A2.walk D { w with worth:=TR.QV p w.aim,ended:=true } rfl rfl
    refine ⟨_,?_,A3,F1.trans (F2.trans F3)⟩
    refine Qz (env:=[.val (.ref a),.val (.int i),.val (pgD p)]) ?_
    refine (Qk e1).trans ?_
    refine (Qk ((Q9 (t true hs)).trans (Xu (Q4 (Xw A1 rfl) A1.h1 (zL ..) (ZQ (Qe rfl) (QW (ZQ (Qe rfl) (Zn (Qe rfl) A1.h3 (YI ..))) rfl (Zc (gx p w.aim (by omega) (by omega)) hp1))) rfl wr)))).trans ?_
    refine (Qk (JE (v:=.bl true) rfl (Qe rfl) A2.h3 wl)).trans ?_
    exact QD (Zr (ZK rfl (Qe rfl) (Zn (Qe rfl) A3.h3 (qq ..))) (by simp))
  | false =>
    rw [if_neg (by simp)]
    obtain ⟨A3,F3⟩:=A1.walk D { w with worth:=TR.QV p w.aim,ended:=true } rfl rfl
    refine ⟨_,?_,A3,F1.trans F3⟩
    refine Qz (env:=[.val (.ref a),.val (.int i),.val (pgD p)]) ?_
    refine (Qk e1).trans ?_
    refine (Qk ((QN (t false hs)).trans QO)).trans ?_
    refine (Qk (JE (v:=.bl true) rfl (Qe rfl) A1.h3 wl)).trans ?_
    exact QD (Zr (ZK rfl (Qe rfl) (Zn (Qe rfl) A3.h3 (qq ..))) (by simp))
theorem QeT (A:At hp n k a f q S w) (D:Dif n k a f q) (hi:i < S.pg.length) {c:Nat} (hw:w.newp=some c) (h1:p.ks.length<=90) (h2:p.ps.length<=100) (h3:S.room < (TR.ZG p w.aim c).ks.length->3<=(TR.ZG p w.aim c).ks.length) (h4:(TR.ZG p w.aim c).ks.length<=100) (hl:S.pg.length < 90000) :
  ∃ hp',Xz [.ref a,.int i,pgD p] hp=some (.tup [.str "told", .int i,oN (TR.Q8 S w i (TR.ZG p w.aim c)).1],hp')/\At hp' n k a f q (TR.Q8 S w i (TR.ZG p w.aim c)).2.1 (TR.Q8 S w i (TR.ZG p w.aim c)).2.2/\Fr hp hp' n k a f q:=by
 obtain ⟨hp2,e2,A2,F2⟩:=Kx A D hi (TR.ZG p w.aim c) h3 h4 hl
 refine ⟨hp2,?_,A2,F2⟩
 refine Qz (env:=[.val (.ref a),.val (.int i),.val (pgD p),.val (oN (TR.Q8 S w i (TR.ZG p w.aim c)).1)]) ?_
 have nw:QS "Walk" "new_page" (Qb 0) [.val (.ref a),.val (.int i),.val (pgD p),.un] hp=some (.int c,hp):=Zn (Qe rfl) A.h3 ((GR ..).trans (by rw [hw];rfl))
 refine (Qk (QI (Q4 (Qe rfl) A.h3 (Qdw ..) (ZQ (Qe rfl) (QW (ZK (Qe rfl) (Zn (Qe rfl) A.h3 (YI ..)) nw) rfl (Zc (gw p w.aim c (by omega) (by omega)) hp))) rfl e2))).trans ?_
 exact QD (Zr (ZK rfl (Qe rfl) (Qe rfl)) (by simp))
end
section
variable {hp:Hs} {n k a f q:Nat} {S:TR.Sh} {w:TR.Wk} {i:Nat} {p:TR.Pg}
theorem QcA (A:At hp n k a f q S w) {l h:Int} (hl:p.ks.length<=100) :
  Jx [.val (.ref a),.val (.int i),.val (pgD p),.val (.int l),.val (.int h),.un] hp=some (.ref hp.length,hp++[OV.lst (prD (TR.QZ p l h))]):=by
 have e0:yd (Qf ixG (Qb 2) (eC (.int 1))) (Qf ixG (Qb 2) (eC (.int 2))) [.val (.ref a),.val (.int i),.val (pgD p),.val (.int l),.val (.int h),.un] hp=some (prD (p.ks.zip p.ps),hp):=by
  have x1:Qf ixG (Qb 2) (eC (.int 1)) [.val (.ref a),.val (.int i),.val (pgD p),.val (.int l),.val (.int h),.un] hp=some (.tup (p.ks.map .int),hp):=Qh (Qe rfl) rfl (XD p hp)
  have x2:Qf ixG (Qb 2) (eC (.int 2)) [.val (.ref a),.val (.int i),.val (pgD p),.val (.int l),.val (.int h),.un] hp=some (.tup (p.ps.map .int),hp):=Qh (Qe rfl) rfl (qK p hp)
  unfold yd
  rw [Qi x1]
  show (xQ (.tup (p.ks.map .int)) >>= _) hp=_
  rw [show xQ (.tup (p.ks.map .int))=pure (p.ks.map .int) from rfl,pure_bind,Qi x2,show xQ (.tup (p.ps.map .int))=pure (p.ps.map .int) from rfl,pure_bind,Vt];rfl
 have e1:xOf (yd (Qf ixG (Qb 2) (eC (.int 1))) (Qf ixG (Qb 2) (eC (.int 2)))) [.val (.ref a),.val (.int i),.val (pgD p),.val (.int l),.val (.int h),.un] hp=some (nxD (prD (p.ks.zip p.ps)),hp):=by
  unfold xOf;rw [Qi e0];rfl
 have hz:(p.ks.zip p.ps).length<=100:=by rw [List.length_zip];omega
 have e2:=xY (hp:=hp) (t:=fun d=>eB (qD leD ltD (Qb 1) (Qf ixG (Qb 0) (eC (.int 0))) (Qb 2)) (cE [3,4] [.val (.ref a),.val (.int i),.val (pgD p),.val (.int l),.val (.int h),.un] d)) (f:=fun d=>Qb 0 (cE [3,4] [.val (.ref a),.val (.int i),.val (pgD p),.val (.int l),.val (.int h),.un] d)) (p:=vJ l h) (prD (p.ks.zip p.ps)) (fun d hd=>by
   obtain ⟨z,_,rfl⟩:=List.mem_map.mp hd
   have c:cE [3,4] [.val (.ref a),.val (.int i),.val (pgD p),.val (.int l),.val (.int h),.un] (.tup [.int z.1,.int z.2])=[.val (.tup [.int z.1,.int z.2]),.val (.int l),.val (.int h)]:=rfl
   show eB (qD leD ltD (Qb 1) (Qf ixG (Qb 0) (eC (.int 0))) (Qb 2)) (cE [3,4] [.val (.ref a),.val (.int i),.val (pgD p),.val (.int l),.val (.int h),.un] (.tup [.int z.1,.int z.2])) hp=_
   rw [c]
   have x1:Qf ixG (Qb 0) (eC (.int 0)) [.val (.tup [.int z.1,.int z.2]),.val (.int l),.val (.int h)] hp=some (.int z.1,hp):=Qh (Qe rfl) rfl (ZV (i:=0) rfl hp)
   by_cases q1:l<=z.1
   ·by_cases q2:z.1 < h<;>simp [eB,qD,ZW,JB,x1,Qb,Jl,Ja,asB,vJ,q1,q2]
   ·simp [eB,qD,ZW,JB,x1,Qb,Jl,Ja,asB,vJ,q1])
  (fun d hd=>rfl) (by rw [qL];omega)
 rw [V4] at e2
 unfold Jx ZN
 rw [Qi e1,Qi (show ZR _ _ _ lim 0 hp=_ from e2)]
 rfl
theorem US (A:At hp n k a f q S w) (D:Dif n k a f q) {l h:Int} (hd:w.deed=.stretch l h) (h1:p.ks.length<=100) (hw:w.pairs.length<=50000) (hlk:(p.hi=none/\p.sd=none)∨∃ x s,p.hi=some x/\p.sd=some s) :
  ∃ hp',Xh [.ref a,.int i,pgD p] hp=some (Ve (TR.Jz S w i p).1,hp')/\At hp' n k a f q (TR.Jz S w i p).2.1 (TR.Jz S w i p).2.2/\Fr hp hp' n k a f q:=by
 have d1:ixG (ZM w.deed) (.int 1) hp=some (.int l,hp):=by rw [hd];exact ZV (i:=1) rfl hp
 have d2:ixG (ZM w.deed) (.int 2) hp=some (.int h,hp):=by rw [hd];exact ZV (i:=2) rfl hp
 obtain ⟨A1,F1⟩:=A.more (OV.lst (prD (TR.QZ p l h)))
 obtain ⟨A2,F2⟩:=A1.pair D { w with pairs:=w.pairs++TR.QZ p l h } rfl rfl
 have pl:(TR.QZ p l h).length<=100:=by
  unfold TR.QZ
  refine Nat.le_trans (List.length_filter_le _ _) ?_
  rw [List.length_zip];omega
 have gl:(hp++[OV.lst (prD (TR.QZ p l h))])[hp.length]?=some (.lst (prD (TR.QZ p l h))):=by simp
 have ql:q≠hp.length:=fun e=>by
  have:=(List.getElem?_eq_some_iff.mp A.h5).1;omega
 have ex:=QaV (o:=QS "Walk" "pairs" (Qb 0)) (fa:=Qc (Qb 5) Qm) (env:=[.val (.ref a),.val (.int i),.val (pgD p),.val (.int l),.val (.int h),.val (.ref hp.length)]) (Zn (Qe rfl) A1.h3 (Qbu ..)) A1.h5 (ZJ (Qe rfl)) gl (by rw [qL,qL];omega)
 rw [Qes] at ex
 have tw:∀ {hpx:Hs} {env:En},hpx[hp.length]?=some (.lst (prD (TR.QZ p l h)))->env[5]?=some (.val (.ref hp.length))->Zl yu (Qc (Qb 5) Qm) env hpx=some (.tup (prD (TR.QZ p l h)),hpx):=fun {hpx env} hx he=>by
  unfold Zl
  rw [Qi (ZJ (Qe he))]
  show (Jn hp.length >>= _) hpx=_
  rw [Qi (Z2 hx)];rfl
 have gl2:((hp++[OV.lst (prD (TR.QZ p l h))]).set q (OV.lst (prD (w.pairs++TR.QZ p l h))))[hp.length]?=some (.lst (prD (TR.QZ p l h))):=gs ql gl
 have al:a≠hp.length:=fun e=>by
  have:=(List.getElem?_eq_some_iff.mp A.h3).1;omega
 have start:∀ (g:DSx) (r:(Fl×En)×Hs),g [.val (.ref a),.val (.int i),.val (pgD p),.val (.int l),.val (.int h),.val (.ref hp.length)] ((hp++[OV.lst (prD (TR.QZ p l h))]).set q (OV.lst (prD (w.pairs++TR.QZ p l h))))=some r ->
   Qq (QA 3 (Qf ixG (QS "Walk" "deed" (Qb 0)) (eC (.int 1)))) (Qq (QA 4 (Qf ixG (QS "Walk" "deed" (Qb 0)) (eC (.int 2)))) (Qq (QA 5 Jx) (Qq (Jk (JX "list" xr (QS "Walk" "pairs" (Qb 0)) (Qc (Qb 5) Qm))) g))) [.val (.ref a),.val (.int i),.val (pgD p),.un,.un,.un] hp=some r:=fun g r hg=>by
  refine (Qk (QI (Qh (Zn (Qe rfl) A.h3 (xS ..)) rfl d1))).trans ?_
  refine (Qk (QI (Qh (Zn (Qe rfl) A.h3 (xS ..)) rfl d2))).trans ?_
  refine (Qk (QI (QcA A h1))).trans ?_
  exact (Qk (Xu ex)).trans hg
 have fin:∃ hp',Qq (Zp "Walk" "ended" (Qb 0) (eC (.bl true))) (QJ (Q3 (Qc (eC (.str "read")) (Qc (Qb 1) (Qc (Zl yu (Qc (Qb 5) Qm)) (Qc (eC .non) (Qc (eC .non) Qm))))))) [.val (.ref a),.val (.int i),.val (pgD p),.val (.int l),.val (.int h),.val (.ref hp.length)] ((hp++[OV.lst (prD (TR.QZ p l h))]).set q (OV.lst (prD (w.pairs++TR.QZ p l h))))=some ((.rt (Ve (.read i (TR.QZ p l h) none)),[.val (.ref a),.val (.int i),.val (pgD p),.val (.int l),.val (.int h),.val (.ref hp.length)]),hp')/\At hp' n k a f q S { w with pairs:=w.pairs++TR.QZ p l h,ended:=true }/\Fr hp hp' n k a f q:=by
  obtain ⟨A3,F3⟩:=A2.walk D { w with pairs:=w.pairs++TR.QZ p l h,ended:=true } rfl rfl
  refine ⟨_,?_,A3,F1.trans (F2.trans F3)⟩
  refine (Qk (JE (v:=.bl true) rfl (Qe rfl) A2.h3 wl)).trans ?_
  exact QD (Zr (jh rfl (Qe rfl) (tw (gs al gl2) rfl) rfl rfl) (by simp))
 have hiE:∀ hpx:Hs,Qf ixG (Qb 2) (eC (.int 3)) [.val (.ref a),.val (.int i),.val (pgD p),.val (.int l),.val (.int h),.val (.ref hp.length)] hpx=some (opt p.hi,hpx):=fun hpx=>Qh (Qe rfl) rfl (jG p hpx)
 have sdE:∀ hpx:Hs,Qf ixG (Qb 2) (eC (.int 4)) [.val (.ref a),.val (.int i),.val (pgD p),.val (.int l),.val (.int h),.val (.ref hp.length)] hpx=some (oN p.sd,hpx):=fun hpx=>Qh (Qe rfl) rfl (zB p hpx)
 rcases hlk with ⟨e1,e2⟩ | ⟨x,s,e1,e2⟩
 ·rw [Qa3 hd e1]
  obtain ⟨hp',ef,Af,Ff⟩:=fin
  refine ⟨hp',Qz (start _ _ (QT ((Q9 (hp1:=_) ?_).trans ef))),Af,Ff⟩
  exact kD (QR (Qh (hiE _) rfl (by rw [yk,e1];rfl)))
 ·rw [Qcg hd e1 e2]
  by_cases hx:h<=x
  ·rw [if_pos hx]
   obtain ⟨hp',ef,Af,Ff⟩:=fin
   refine ⟨hp',Qz (start _ _ (QT ((Q9 (hp1:=_) ?_).trans ef))),Af,Ff⟩
   exact (jm (QR (b:=false) (Qh (hiE _) rfl (by rw [yk,e1];rfl)))).trans (QR (Qh (hiE _) (Qe rfl) (by rw [e1];show geD (.int x) (.int h) _=_;rw [Z7,decide_eq_true hx];rfl)))
  ·rw [if_neg hx]
   obtain ⟨A3,F3⟩:=A2.walk D { w with pairs:=w.pairs++TR.QZ p l h,aim:=x } rfl rfl
   obtain ⟨A4,F4⟩:=A3.walk D { w with pairs:=w.pairs++TR.QZ p l h,aim:=x,place:=some s } rfl rfl
   refine ⟨_,Qz (env:=[.val (.ref a),.val (.int i),.val (pgD p),.val (.int l),.val (.int h),.val (.ref hp.length)]) (start _ _ ?_),A4,F1.trans (F2.trans (F3.trans F4))⟩
   refine (Qk ((QN ((jm (QR (b:=false) (Qh (hiE _) rfl (by rw [yk,e1];rfl)))).trans (QR (b:=false) (Qh (hiE _) (Qe rfl) (by rw [e1];show geD (.int x) (.int h) _=_;rw [Z7,decide_eq_false hx];rfl))))).trans QO)).trans ?_
   refine (Qk (JE (v:=.int x) ((hiE _).trans (by rw [e1];rfl)) (Qe rfl) A2.h3 wl)).trans ?_
   refine (Qk (JE (v:=.int s) ((sdE _).trans (by rw [e2];rfl)) (Qe rfl) A3.h3 wl)).trans ?_
   exact QD (Zr (jh rfl (Qe rfl) (tw (gs al (gs al gl2)) rfl) (Zn (Qe rfl) A4.h3 (qp ..)) (Zn (Qe rfl) A4.h3 (YI ..))) (by simp))
end
section
variable {hp:Hs} {n k a f q:Nat} {S:TR.Sh} {w:TR.Wk} {i:Nat} {p:TR.Pg}
theorem zN:PyData.strOk "find" = true:=by decide +kernel
theorem xO:PyData.strOk "put" = true:=by decide +kernel
theorem xN:PyData.strOk "cut" = true:=by decide +kernel
theorem GL:PyData.strOk "stretch" = true:=by decide +kernel
def zm:TR.Deed->Str
 | .find _ => "find"
 | .put _ _ => "put"
 | .cut _ => "cut"
 | .stretch _ _ => "stretch"
theorem U9 (d:TR.Deed) (hp:Hs):ixG (ZM d) (.int 0) hp=some (.str (zm d),hp):=by cases d<;>exact ZV (i:=0) rfl hp
theorem uQ (A:At hp n k a f q S w) (D:Dif n k a f q) (hi:i < S.pg.length) (h1:p.ks.length<=90) (h2:p.ps.length=p.ks.length) (h3:∀ x,S.room < (TR.QY p w.aim x).ks.length->3<=(TR.QY p w.aim x).ks.length) (h4:∀ x,(TR.QY p w.aim x).ks.length<=100) (hl:S.pg.length < 90000) (hw:w.pairs.length<=50000) (hlk:(p.hi=none/\p.sd=none)∨∃ x s,p.hi=some x/\p.sd=some s) :
    ∃ hp',Yg [.ref a,.int i,pgD p] hp=some (Ve (TR.Jz S w i p).1,hp')/\At hp' n k a f q (TR.Jz S w i p).2.1 (TR.Jz S w i p).2.2/\Fr hp hp' n k a f q:=by
  have s0:QA 3 (Qf ixG (QS "Walk" "deed" (Qb 0)) (eC (.int 0))) [.val (.ref a),.val (.int i),.val (pgD p),.un] hp=some ((.nx,[.val (.ref a),.val (.int i),.val (pgD p),.val (.str (zm w.deed))]),hp):=QI (Qh (Zn (Qe rfl) A.h3 (xS ..)) rfl (U9 w.deed hp))
  have tst:∀ (x:Str) (b:Bool),PyData.strOk (zm w.deed)=true->PyData.strOk x=true->(zm w.deed==x)=b->eB (Qf eqG (Qb 3) (eC (.str x))) [.val (.ref a),.val (.int i),.val (pgD p),.val (.str (zm w.deed))] hp=some (b,hp):=fun x b o1 o2 e=>QR (Qh (Qe rfl) rfl (eqS hp o1 o2 e))
  have ag:∀ (nm:Str) (fn:List DV->M DV) (d:DV) (hp':Hs),List.lookup nm (wkF n f q (ZM w.deed) (.int w.aim) (.int w.goal) (oN w.place) (oN w.newp) (opt w.worth) (.bl w.ended))=none->fn [.ref a,.int i,pgD p] hp=some (d,hp')->QJ (QF "Walk" nm 3 fn (Qb 0) (Qc (Qb 1) (Qc (Qb 2) Qm))) [.val (.ref a),.val (.int i),.val (pgD p),.val (.str (zm w.deed))] hp=some ((.rt d,[.val (.ref a),.val (.int i),.val (pgD p),.val (.str (zm w.deed))]),hp'):=fun nm fn d hp' e1 e2=>QD (Q4 (Qe rfl) A.h3 e1 (ZQ (Qe rfl) (Qe rfl)) rfl e2)
  cases hd:w.deed with
  | find y =>
    obtain ⟨hp',e,A',F'⟩:=QdQ (i:=i) A D (by omega) h2
    refine ⟨hp',?_,by rw [VT hd];exact A',F'⟩
    rw [VT hd]
    have t:=tst "find" true (by rw [hd];exact zN) zN (by rw [hd];show (("find" : Str)==("find" : Str))=true;decide)
    exact Qz ((Qk s0).trans (QT ((Q9 t).trans (ag _ _ _ _ (Qgv ..) e))))
  | put y x =>
    obtain ⟨hp',e,A',F'⟩:=Qgf (i:=i) A D hi hd h1 h2 (h3 x) (h4 x) hl
    refine ⟨hp',?_,by rw [Kl hd];exact A',F'⟩
    rw [Kl hd]
    have t1:=tst "find" false (by rw [hd];exact xO) zN (by rw [hd];show (("put" : Str)==("find" : Str))=false;decide)
    have t2:=tst "put" true (by rw [hd];exact xO) xO (by rw [hd];show (("put" : Str)==("put" : Str))=true;decide)
    exact Qz ((Qk s0).trans ((Qk ((QN t1).trans QO)).trans (QT ((Q9 t2).trans (ag _ _ _ _ (Qgw ..) e)))))
  | cut y =>
    obtain ⟨hp',e,A',F'⟩:=Qfm (i:=i) A D hi (by omega) h2
    refine ⟨hp',?_,by rw [Kk hd];exact A',F'⟩
    rw [Kk hd]
    have t1:=tst "find" false (by rw [hd];exact xN) zN (by rw [hd];show (("cut" : Str)==("find" : Str))=false;decide)
    have t2:=tst "put" false (by rw [hd];exact xN) xO (by rw [hd];show (("cut" : Str)==("put" : Str))=false;decide)
    have t3:=tst "cut" true (by rw [hd];exact xN) xN (by rw [hd];show (("cut" : Str)==("cut" : Str))=true;decide)
    exact Qz ((Qk s0).trans ((Qk ((QN t1).trans QO)).trans ((Qk ((QN t2).trans QO)).trans (QT ((Q9 t3).trans (ag _ _ _ _ (Qgx ..) e))))))
  | stretch l h =>
    obtain ⟨hp',e,A',F'⟩:=US (i:=i) A D hd (by omega) hw hlk
    refine ⟨hp',?_,A',F'⟩
    have t1:=tst "find" false (by rw [hd];exact GL) zN (by rw [hd];show (("stretch" : Str)==("find" : Str))=false;decide)
    have t2:=tst "put" false (by rw [hd];exact GL) xO (by rw [hd];show (("stretch" : Str)==("put" : Str))=false;decide)
    have t3:=tst "cut" false (by rw [hd];exact GL) xN (by rw [hd];show (("stretch" : Str)==("cut" : Str))=false;decide)
    exact Qz ((Qk s0).trans ((Qk ((QN t1).trans QO)).trans ((Qk ((QN t2).trans QO)).trans ((Qk ((QN t3).trans QO)).trans (ag _ _ _ _ (Qgy ..) e)))))
theorem Qar {bg:TR.Bg} {r:TR.Row} {S':TR.Sh} {w':TR.Wk} (T:TR.Tree S bg) (W:TR.WOk S bg w) (hr:S.room<=50) (A:At hp n k a f q S w) (D:Dif n k a f q) (hl:S.pg.length < 90000) (hf:w.forks.length < 5000) (hw:w.pairs.length<=50000) (hs:TR.qZ S w=some (r,S',w')) :
    ∃ hp',JR [.ref a] hp=some (Ve r,hp')/\At hp' n k a f q S' w'/\Fr hp hp' n k a f q:=by
  have env0:([DV.ref a].map Sl.val++List.replicate (3 - [DV.ref a].length) Sl.un)=[.val (.ref a),.un,.un]:=rfl
  cases he:w.ended with
  | true =>
    unfold TR.qZ at hs
    rw [if_pos he] at hs
    cases hs
    refine ⟨hp,?_,A,Fr.refl⟩
    exact Qz (env:=[.val (.ref a),.un,.un]) (QT ((Q9 (QR (Zn (Qe rfl) A.h3 ((qo ..).trans (by rw [he]))))).trans (QD (d:=.non) rfl)))
  | false =>
    obtain ⟨m,hm0,hpl⟩:∃ m,w.place.getD S.top=m/\(w.place=some m∨(w.place=none/\m=S.top)):=by
      cases e:w.place with
      | none=>exact ⟨S.top,rfl,.inr ⟨rfl,rfl⟩⟩
      | some m=>exact ⟨m,rfl,.inl rfl⟩
    unfold TR.qZ at hs
    rw [if_neg (by rw [he];simp),hm0] at hs
    cases hg:S.pg[m]? with
    | none=>rw [hg] at hs;cases hs
    | some p =>
      rw [hg] at hs
      simp only at hs
      have ok:=T.page m p hg
      have hml:m < S.pg.length:=(List.getElem?_eq_some_iff.mp hg).1
      have hps:p.ps.length<=100:=by have a1:=ok.parts;have a2:=ok.few;split at a1<;>omega
      have hks:p.ks.length<=90:=by have a2:=ok.few;omega
      have r2:=T.room2
      have st0:sIf (eB (QS "Walk" "ended" (Qb 0))) (QJ (eC .non)) Q5 [.val (.ref a),.un,.un] hp=some ((.nx,[.val (.ref a),.un,.un]),hp):=(QN (QR (Zn (Qe rfl) A.h3 ((qo ..).trans (by rw [he]))))).trans QO
      have num:eIf (eB (Qf isD (QS "Walk" "place" (Qb 0)) (eC .non))) (QF "Shelf" "root" 1 ZH (QS "Walk" "shelf" (Qb 0)) Qm) (QS "Walk" "place" (Qb 0)) [.val (.ref a),.un,.un] hp=some (.int m,hp):=by
        rcases hpl with e | ⟨e,rfl⟩
        . exact (QgN (QR (b:=false) (Qh (Zn (Qe rfl) A.h3 (qp ..)) rfl (by rw [VX,e];rfl)))).trans (Zn (Qe rfl) A.h3 ((qp ..).trans (by rw [e];rfl)))
        . exact (QgO (QR (Qh (Zn (Qe rfl) A.h3 (qp ..)) rfl (by rw [VX,e];rfl)))).trans (Q4 (Xw A rfl) A.h1 (jM ..) Xc rfl (GA A.h1))
      have rd:=Vp (i:=m) (d:=pgD p) A.h1 A.h2 D.nk (by rw [List.getElem?_map,hg];rfl)
      obtain ⟨A1,F1⟩:=A.count D { S with rd:=S.rd+1 } rfl rfl
      have st1:=QI (i:=1) num
      have st2:QA 2 (QF "Shelf" "read" 2 Zd (QS "Walk" "shelf" (Qb 0)) (Qc (Qb 1) Qm)) [.val (.ref a),.val (.int m),.un] hp=some ((.nx,[.val (.ref a),.val (.int m),.val (pgD p)]),(hp.set n (.ins "Shelf" (shF S.room k S.top (S.rd+1) S.wr)))):=QI (Q4 (Xw A rfl) A.h1 (qN ..) (ZJ (Qe rfl)) rfl rd)
      have lvE:∀ hpx:Hs,Qf ixG (Qb 2) (eC (.int 0)) [.val (.ref a),.val (.int m),.val (pgD p)] hpx=some (.int p.lv,hpx):=fun hpx=>Qh (Qe rfl) rfl (YU p hpx)
      have plE:eB (Qf isD (QS "Walk" "place" (Qb 0)) (eC .non)) [.val (.ref a),.val (.int m),.val (pgD p)] (hp.set n (.ins "Shelf" (shF S.room k S.top (S.rd+1) S.wr)))=some (w.place.isNone,(hp.set n (.ins "Shelf" (shF S.room k S.top (S.rd+1) S.wr)))):=QR (Qh (Zn (Qe rfl) A1.h3 (qp ..)) rfl (by rw [VX];rfl))
      have glE:QS "Walk" "goal" (Qb 0) [.val (.ref a),.val (.int m),.val (pgD p)] (hp.set n (.ins "Shelf" (shF S.room k S.top (S.rd+1) S.wr)))=some (.int w.goal,(hp.set n (.ins "Shelf" (shF S.room k S.top (S.rd+1) S.wr)))):=Zn (Qe rfl) A1.h3 (uh ..)
      have t1:Xf (eB (Qf isD (QS "Walk" "place" (Qb 0)) (eC .non))) (eB (Qf ltD (Qf ixG (Qb 2) (eC (.int 0))) (QS "Walk" "goal" (Qb 0)))) [.val (.ref a),.val (.int m),.val (pgD p)] (hp.set n (.ins "Shelf" (shF S.room k S.top (S.rd+1) S.wr)))=some (decide (w.place=none/\p.lv < w.goal),(hp.set n (.ins "Shelf" (shF S.room k S.top (S.rd+1) S.wr)))):=by
        cases hp0:w.place with
        | none =>
          rw [hp0] at plE
          refine (K4 plE).trans (QR (Qh (lvE _) glE ?_))
          rw [Ja]
          show some (DV.bl _,_)=_
          congr 3
          by_cases z:p.lv < w.goal
          . rw [decide_eq_true (show (p.lv:Int) < w.goal by omega),decide_eq_true (show (none:Option Nat)=none/\p.lv < w.goal from ⟨rfl,z⟩)]
          . rw [decide_eq_false (show ¬ (p.lv:Int) < w.goal by omega),decide_eq_false (fun h=>z h.2)]
        | some z =>
          rw [hp0] at plE
          rw [decide_eq_false (fun h=>by cases h.1)]
          exact K3 plE
      have go:∀ (g:DSx) (x:(Fl×En)×Hs),g [.val (.ref a),.val (.int m),.val (pgD p)] (hp.set n (.ins "Shelf" (shF S.room k S.top (S.rd+1) S.wr)))=some x->Qq (sIf (eB (QS "Walk" "ended" (Qb 0))) (QJ (eC .non)) Q5) (Qq (QA 1 (eIf (eB (Qf isD (QS "Walk" "place" (Qb 0)) (eC .non))) (QF "Shelf" "root" 1 ZH (QS "Walk" "shelf" (Qb 0)) Qm) (QS "Walk" "place" (Qb 0)))) (Qq (QA 2 (QF "Shelf" "read" 2 Zd (QS "Walk" "shelf" (Qb 0)) (Qc (Qb 1) Qm))) g)) [.val (.ref a),.un,.un] hp=some x:=fun g x hg=>(Qk st0).trans ((Qk st1).trans ((Qk st2).trans hg))
      by_cases hr1:w.place=none/\p.lv < w.goal
      . rw [if_pos hr1] at hs
        rw [decide_eq_true hr1] at t1
        cases hn:w.newp with
        | none=>rw [hn] at hs;cases hs
        | some c =>
          rw [hn] at hs
          simp only [Option.some.injEq,Prod.mk.injEq] at hs
          obtain ⟨rfl,rfl,rfl⟩:=hs
          have htop:m=S.top:=by
            rcases hpl with e | ⟨_,e⟩
            . rw [hr1.1] at e;cases e
            . exact e
          subst htop
          obtain ⟨c',z,b1,b2,_⟩:=W.tell (by omega)
          rw [hn] at b1;cases b1
          obtain ⟨hp',e,A',F'⟩:=UQ (i:=S.top) A1 D hn (List.getElem?_eq_some_iff.mp b2).1 hg hl
          rw [hn] at A'
          refine ⟨hp',?_,A',F1.trans F'⟩
          exact Qz (go _ _ (QT ((Q9 t1).trans (QD (Q4 (Qe rfl) A1.h3 (Qgu ..) (ZJ (Qe rfl)) rfl e)))))
      . rw [if_neg hr1] at hs
        rw [decide_eq_false hr1] at t1
        have t2:eB (Qu 2 YW (Qc (Qb 2) (Qc (QS "Walk" "aim" (Qb 0)) Qm))) [.val (.ref a),.val (.int m),.val (pgD p)] (hp.set n (.ins "Shelf" (shF S.room k S.top (S.rd+1) S.wr)))=some (TR.JM p w.aim,(hp.set n (.ins "Shelf" (shF S.room k S.top (S.rd+1) S.wr)))):=QR (QW (ZQ (Qe rfl) (Zn (Qe rfl) A1.h3 (YI ..))) rfl (Zc (Qbb p w.aim) _))
        have go2:∀ (g:DSx) (x:(Fl×En)×Hs),g [.val (.ref a),.val (.int m),.val (pgD p)] (hp.set n (.ins "Shelf" (shF S.room k S.top (S.rd+1) S.wr)))=some x->Qq (sIf (Xf (eB (Qf isD (QS "Walk" "place" (Qb 0)) (eC .non))) (eB (Qf ltD (Qf ixG (Qb 2) (eC (.int 0))) (QS "Walk" "goal" (Qb 0))))) (QJ (QF "Walk" "raise_root_over" 2 Z5 (Qb 0) (Qc (Qb 1) Qm))) Q5) g [.val (.ref a),.val (.int m),.val (pgD p)] (hp.set n (.ins "Shelf" (shF S.room k S.top (S.rd+1) S.wr)))=some x:=fun g x hg=>(Qk ((QN t1).trans QO)).trans hg
        cases hb:TR.JM p w.aim with
        | true =>
          rw [hb,if_pos rfl] at hs
          rw [hb] at t2
          cases hsd:p.sd with
          | none=>rw [hsd] at hs;cases hs
          | some s =>
            rw [hsd] at hs
            simp only [Option.some.injEq,Prod.mk.injEq] at hs
            obtain ⟨rfl,rfl,rfl⟩:=hs
            obtain ⟨hp',e,A',F'⟩:=vp (i:=m) A1 D "side" (some s)
            refine ⟨hp',?_,A',F1.trans F'⟩
            refine Qz (go _ _ (go2 _ _ (QT ((Q9 t2).trans (QD (Q4 (Qe rfl) A1.h3 (Qdv ..) (ZK rfl (Qe rfl) (Qh (Qe rfl) rfl (zB p _))) rfl ?_))))))
            rw [hsd];exact e
        | false =>
          rw [hb,if_neg (by simp)] at hs
          rw [hb] at t2
          have t3:eB (Qf gtD (Qf ixG (Qb 2) (eC (.int 0))) (QS "Walk" "goal" (Qb 0))) [.val (.ref a),.val (.int m),.val (pgD p)] (hp.set n (.ins "Shelf" (shF S.room k S.top (S.rd+1) S.wr)))=some (decide (w.goal < p.lv),(hp.set n (.ins "Shelf" (shF S.room k S.top (S.rd+1) S.wr)))):=QR (Qh (lvE _) glE (by
            rw [Z9]
            show some (DV.bl _,_)=_
            congr 3
            by_cases z:w.goal < p.lv
            . rw [decide_eq_true z,decide_eq_true (by omega)]
            . rw [decide_eq_false z,decide_eq_false (by omega)]))
          by_cases hd:w.goal < p.lv
          . rw [if_pos hd] at hs
            rw [decide_eq_true hd] at t3
            cases hc:p.ps[TR.cLe p.ks w.aim]? with
            | none=>rw [hc] at hs;cases hs
            | some c =>
              rw [hc] at hs
              simp only [Option.some.injEq,Prod.mk.injEq] at hs
              obtain ⟨rfl,rfl,rfl⟩:=hs
              have pl:=ok.parts
              rw [if_neg (by omega)] at pl
              obtain ⟨c',z,b1,b2,_⟩:=T.kid m p hg (by omega) _ _ hc
              subst b1
              obtain ⟨A2,F2⟩:=A1.fork D { w with forks:=TR.je w.forks p.lv m } rfl rfl
              obtain ⟨hp',e,A',F'⟩:=vp (i:=m) A2 D "down" (some c')
              refine ⟨hp',?_,by rw [Int.toNat_natCast];exact A',F1.trans (F2.trans F')⟩
              have ke:=Qf2 p w.aim c' (by omega) pl hc
              have pt:Zo (Qb 1) (gSb (QS "Walk" "forks" (Qb 0)) (Qf ixG (Qb 2) (eC (.int 0)))) [.val (.ref a),.val (.int m),.val (pgD p)] (hp.set n (.ins "Shelf" (shF S.room k S.top (S.rd+1) S.wr)))=some ((.nx,[.val (.ref a),.val (.int m),.val (pgD p)]),(hp.set n (.ins "Shelf" (shF S.room k S.top (S.rd+1) S.wr))).set f (.dic (fkD (TR.je w.forks p.lv m)))):=Qgm (Qe rfl) (Zn (Qe rfl) A1.h3 (KF ..)) (lvE _) A1.h4 hf
              refine Qz (go _ _ (go2 _ _ ((Qk ((QN t2).trans QO)).trans (QT ((Q9 t3).trans ((Qk pt).trans (QD (Q4 (Qe rfl) A2.h3 (Qdv ..) (ZK rfl (Qe rfl) (QW (ZQ (Qe rfl) (Zn (Qe rfl) A2.h3 (YI ..))) rfl (Zc ke _))) rfl ?_))))))))
              rw [show Ve (TR.Row.down m (c':Int).toNat)=.tup [.str "down", .int m,.int c'] from by rw [Int.toNat_natCast];rfl]
              exact e
          . rw [if_neg hd] at hs
            rw [decide_eq_false hd] at t3
            have go3:∀ (g:DSx) (x:(Fl×En)×Hs),g [.val (.ref a),.val (.int m),.val (pgD p)] (hp.set n (.ins "Shelf" (shF S.room k S.top (S.rd+1) S.wr)))=some x->Qq (sIf (eB (Qu 2 YW (Qc (Qb 2) (Qc (QS "Walk" "aim" (Qb 0)) Qm)))) (QJ (QF "Walk" "go_on" 4 JV (Qb 0) (Qc (eC (.str "side")) (Qc (Qb 1) (Qc (Qf ixG (Qb 2) (eC (.int 4))) Qm))))) Q5) (Qq (sIf (eB (Qf gtD (Qf ixG (Qb 2) (eC (.int 0))) (QS "Walk" "goal" (Qb 0)))) (Qq (Zo (Qb 1) (gSb (QS "Walk" "forks" (Qb 0)) (Qf ixG (Qb 2) (eC (.int 0))))) (QJ (QF "Walk" "go_on" 4 JV (Qb 0) (Qc (eC (.str "down")) (Qc (Qb 1) (Qc (Qu 2 YX (Qc (Qb 2) (Qc (QS "Walk" "aim" (Qb 0)) Qm))) Qm)))))) Q5) g) [.val (.ref a),.val (.int m),.val (pgD p)] (hp.set n (.ins "Shelf" (shF S.room k S.top (S.rd+1) S.wr)))=some x:=fun g x hg=>(Qk ((QN t2).trans QO)).trans ((Qk ((QN t3).trans QO)).trans hg)
            have t4:eB (Qf gtD (QS "Walk" "goal" (Qb 0)) (eC (.int 0))) [.val (.ref a),.val (.int m),.val (pgD p)] (hp.set n (.ins "Shelf" (shF S.room k S.top (S.rd+1) S.wr)))=some (decide (0 < w.goal),(hp.set n (.ins "Shelf" (shF S.room k S.top (S.rd+1) S.wr)))):=QR (Qh glE rfl (by
              rw [Z9]
              show some (DV.bl _,_)=_
              congr 3
              by_cases z:0 < w.goal
              . rw [decide_eq_true z,decide_eq_true (by omega)]
              . rw [decide_eq_false z,decide_eq_false (by omega)]))
            have glv:w.goal<=p.lv:=by
              rcases hpl with e | ⟨e,_⟩
              . obtain ⟨p',b1,b2,_⟩:=W.at_ m e
                rw [hg] at b1;cases b1;exact b2
              . exact Nat.le_of_not_lt fun h=>hr1 ⟨e,h⟩
            by_cases h0:0 < w.goal
            . rw [if_pos h0] at hs
              rw [decide_eq_true h0] at t4
              cases hn:w.newp with
              | none=>rw [hn] at hs;cases hs
              | some c =>
                rw [hn] at hs
                simp only [Option.some.injEq,Prod.mk.injEq] at hs
                obtain ⟨rfl,rfl,rfl⟩:=hs
                have kl:=TR.yR ok (k:=w.aim) (c:=c)
                obtain ⟨hp',e,A',F'⟩:=QeT (i:=m) (p:=p) A1 D hml hn hks hps (fun z=>by have:S.room < (TR.ZG p w.aim c).ks.length:=z;omega) (by omega) hl
                refine ⟨hp',?_,A',F1.trans F'⟩
                exact Qz (go _ _ (go2 _ _ (go3 _ _ (QT ((Q9 t4).trans (QD (Q4 (Qe rfl) A1.h3 (Qgt ..) (ZQ (Qe rfl) (Qe rfl)) rfl e)))))))
            . rw [if_neg h0] at hs
              rw [decide_eq_false h0] at t4
              have hz:p.lv=0:=by omega
              have pl:=ok.parts
              rw [if_pos hz] at pl
              have kl:∀ x,(TR.QY p w.aim x).ks.length<=S.room+1:=fun x=>TR.xR ok
              obtain ⟨hp',e,A',F'⟩:=uQ (i:=m) (p:=p) A1 D hml hks (by omega) (fun x z=>by have:S.room < (TR.QY p w.aim x).ks.length:=z;omega) (fun x=>by have:=kl x;omega) hl hw ((T.link m p hg).imp id fun ⟨x,s,_,b1,b2,_⟩=>⟨x,s,b1,b2⟩)
              have hs':=Option.some.inj hs
              refine ⟨hp',?_,?_,F1.trans F'⟩
              . rw [show r=(TR.Jz { S with rd:=S.rd+1 } w m p).1 by rw [hs']]
                exact Qz (go _ _ (go2 _ _ (go3 _ _ ((Qk ((QN t4).trans QO)).trans (QD (Q4 (Qe rfl) A1.h3 (Qgs ..) (ZQ (Qe rfl) (Qe rfl)) rfl e))))))
              . rw [show S'=(TR.Jz { S with rd:=S.rd+1 } w m p).2.1 by rw [hs'],show w'=(TR.Jz { S with rd:=S.rd+1 } w m p).2.2 by rw [hs']]
                exact A'
end
theorem Qdu (n:Nat) (d:TR.Deed) (hp:Hs):ZP [.ref hp.length,.ref n,ZM d] (hp++[.ins "Walk" []])=some (.non,hp++[wkO n (hp.length+1) (hp.length+2) (TR.fresh d),.dic [],.lst []]):=by
 have st:∀ (nm:Str) (e:DEx) (v:DV) (fs:List (Str×DV)) (t t':Hs),e [.val (.ref hp.length),.val (.ref n),.val (ZM d)] (hp++.ins "Walk" fs::t)=some (v,hp++.ins "Walk" fs::t')->fs.length < 1000->Zp "Walk" nm (Qb 0) e [.val (.ref hp.length),.val (.ref n),.val (ZM d)] (hp++.ins "Walk" fs::t)=some ((.nx,[.val (.ref hp.length),.val (.ref n),.val (ZM d)]),hp++.ins "Walk" (Xp nm v fs)::t'):=fun nm e v fs t t' he hl=>by
  rw [JE he (Qe rfl) (QbY hp _ _) hl,gJ]
 have a1:∀ fs,Jo [.val (.ref hp.length),.val (.ref n),.val (ZM d)] (hp++.ins "Walk" fs::[])=some (.ref (hp.length+1),hp++.ins "Walk" fs::[.dic []]):=fun fs=>by
  show some (DV.ref (hp++[OV.ins "Walk" fs]).length,(hp++[OV.ins "Walk" fs])++[OV.dic []])=_
  simp
 have a2:∀ fs,Ym Qm [.val (.ref hp.length),.val (.ref n),.val (ZM d)] (hp++.ins "Walk" fs::[.dic []])=some (.ref (hp.length+2),hp++.ins "Walk" fs::[.dic [],.lst []]):=fun fs=>by
  show some (DV.ref (hp++[OV.ins "Walk" fs,OV.dic []]).length,(hp++[OV.ins "Walk" fs,OV.dic []])++[OV.lst []])=_
  simp
 refine QeG (env:=[.val (.ref hp.length),.val (.ref n),.val (ZM d)]) ?_
 refine (Qk (st "shelf" _ (.ref n) [] [] [] (Qe rfl) (Nat.lt_of_le_of_lt (m:=20) (by repeat (first | exact Nat.zero_le _ | refine J7 ?_)) (by decide)))).trans ?_
 refine (Qk (st "deed" _ (ZM d) _ [] [] (Qe rfl) (Nat.lt_of_le_of_lt (m:=20) (by repeat (first | exact Nat.zero_le _ | refine J7 ?_)) (by decide)))).trans ?_
 refine (Qk (st "aim" _ (.int d.key) _ [] [] (Qh (Qe rfl) rfl (QbO d _)) (Nat.lt_of_le_of_lt (m:=20) (by repeat (first | exact Nat.zero_le _ | refine J7 ?_)) (by decide)))).trans ?_
 refine (Qk (st "goal" _ (.int 0) _ [] [] rfl (Nat.lt_of_le_of_lt (m:=20) (by repeat (first | exact Nat.zero_le _ | refine J7 ?_)) (by decide)))).trans ?_
 refine (Qk (st "place" _ .non _ [] [] rfl (Nat.lt_of_le_of_lt (m:=20) (by repeat (first | exact Nat.zero_le _ | refine J7 ?_)) (by decide)))).trans ?_
 refine (Qk (st "forks" _ (.ref (hp.length+1)) _ [] [.dic []] (a1 _) (Nat.lt_of_le_of_lt (m:=20) (by repeat (first | exact Nat.zero_le _ | refine J7 ?_)) (by decide)))).trans ?_
 refine (Qk (st "new_page" _ .non _ [.dic []] [.dic []] rfl (Nat.lt_of_le_of_lt (m:=20) (by repeat (first | exact Nat.zero_le _ | refine J7 ?_)) (by decide)))).trans ?_
 refine (Qk (st "worth" _ .non _ [.dic []] [.dic []] rfl (Nat.lt_of_le_of_lt (m:=20) (by repeat (first | exact Nat.zero_le _ | refine J7 ?_)) (by decide)))).trans ?_
 refine (Qk (st "pairs" _ (.ref (hp.length+2)) _ [.dic []] [.dic [],.lst []] (a2 _) (Nat.lt_of_le_of_lt (m:=20) (by repeat (first | exact Nat.zero_le _ | refine J7 ?_)) (by decide)))).trans ?_
 exact st "ended" _ (.bl false) _ [.dic [],.lst []] [.dic [],.lst []] rfl (Nat.lt_of_le_of_lt (m:=20) (by repeat (first | exact Nat.zero_le _ | refine J7 ?_)) (by decide))
theorem uj {n:Nat} {d:TR.Deed} {fa:DAx} {env:En} {hp0 hp:Hs} (ha:fa env hp0=some ([.ref n,ZM d],hp)):JZ "Walk" 3 ZP fa env hp0=some (.ref hp.length,hp++[wkO n (hp.length+1) (hp.length+2) (TR.fresh d),.dic [],.lst []]):=by
 unfold JZ
 rw [Qi ha]
 have al:XU (.ins "Walk" []) hp=some (.ref hp.length,hp++[.ins "Walk" []]):=rfl
 have gd:QE (decide ([DV.ref n,ZM d].length+1=3)) hp=some ((),hp):=rfl
 rw [Qi gd,Qi al,Qi (Qdu n d hp)];rfl
theorem Qaa {hp:Hs} {n f q a:Nat} {w:TR.Wk} (h:hp[a]?=some (wkO n f q w)):XL [.ref a] hp=some (.bl w.ended,hp):=Qz (QD (Zn (Qe rfl) h (qo ..)))
theorem QdL {hp:Hs} {n k:Nat} {S:TR.Sh} {bg:TR.Bg} (T:TR.Tree S bg) (hr:S.room<=50) (h1:hp[n]?=some (.ins "Shelf" (shF S.room k S.top S.rd S.wr))) (h2:hp[k]?=some (.lst (S.pg.map pgD))) (nk:n≠k) (hl:S.pg.length+1000 < 90000) (d:TR.Deed) :
    ∃ x hp' S' bg',Yj [.ref n,ZM d] hp=some (x,hp')/\TR.Tree S' bg'/\S'.room=S.room/\S'.pg.length<=S.pg.length+1000/\hp'[n]?=some (.ins "Shelf" (shF S'.room k S'.top S'.rd S'.wr))/\hp'[k]?=some (.lst (S'.pg.map pgD))/\hp.length<=hp'.length/\∀ i,i < hp.length->i≠n->i≠k->hp'[i]?=hp[i]?:=by
  have ln:n < hp.length:=(List.getElem?_eq_some_iff.mp h1).1
  have lk:k < hp.length:=(List.getElem?_eq_some_iff.mp h2).1
  have D:Dif n k hp.length (hp.length+1) (hp.length+2):=⟨nk,by omega,by omega,by omega,by omega,by omega,by omega,by omega,by omega,by omega⟩
  have A0:At (hp++[wkO n (hp.length+1) (hp.length+2) (TR.fresh d),.dic [],.lst []]) n k hp.length (hp.length+1) (hp.length+2) S (TR.fresh d):=⟨(List.getElem?_append_left ln).trans h1,(List.getElem?_append_left lk).trans h2,by simp,by rw [List.getElem?_append_right (by omega)];simp;rfl,by rw [List.getElem?_append_right (by omega)];simp;rfl⟩
  let Ok:Nat->Hs->Prop:=fun i w=>∃ S' bg' wk,TR.Tree S' bg'/\S'.room=S.room/\S'.pg.length<=S.pg.length+i/\At w n k hp.length (hp.length+1) (hp.length+2) S' wk/\(wk.ended=false->TR.WOk S' bg' wk)/\(wk.ended=false->0 < wk.goal->∀ c,wk.newp=some c->TR.Untold S' c)/\wk.forks.length<=i/\wk.pairs.length<=50 * i/\hp.length<=w.length/\∀ j,j < hp.length->j≠n->j≠k->w[j]?=hp[j]?
  have M:WP (xh (fun d env=>do let env' <- gN 3 d env;xq env') (Ze 0 1000) [.val (.ref n),.val (ZM d),.val (.ref hp.length),.un]) (hp++[wkO n (hp.length+1) (hp.length+2) (TR.fresh d),.dic [],.lst []]) fun q w=>(∃ i,i<=1000/\Ok i w)/\∃ z,q.2=[.val (.ref n),.val (ZM d),.val (.ref hp.length),z]/\(q.1=.nx∨∃ x,q.1=.rt x):=by
    refine jS (fun i env w=>(∃ z,env=[.val (.ref n),.val (ZM d),.val (.ref hp.length),z])/\Ok i w) _ ⟨⟨_,rfl⟩,S,bg,TR.fresh d,T,rfl,by omega,A0,fun _=>TR.WOk.fresh rfl rfl rfl,fun _ h=>(by cases h),(by simp [TR.fresh]),(by simp [TR.fresh]),(by simp),fun j hj _ _=>List.getElem?_append_left hj⟩ (fun i d0 hd0 env w ⟨⟨z,e⟩,S',bg',wk,T',r',l',A',W',u',f',p',x1,x2⟩=>?_) (fun env w ⟨⟨z,e⟩,o⟩=>⟨⟨1000,Nat.le_refl _,by rw [Jj] at o;exact o⟩,z,e,.inl rfl⟩)
    subst e
    obtain ⟨hi,hd'⟩:=xA hd0
    subst hd'
    have ov:=Qaa A'.h3
    cases he:wk.ended with
    | true =>
      rw [he] at ov
      refine ⟨(.rt (.ref hp.length),[.val (.ref n),.val (ZM d),.val (.ref hp.length),.val (.int (i:Int))]),w,QT ((Q9 (QR (Q4 (Qe rfl) A'.h3 (GQ ..) Xc rfl ov))).trans (QD (Qe rfl))),⟨i,by omega,S',bg',wk,T',r',l',A',W',u',f',p',x1,x2⟩,_,rfl,.inr ⟨_,rfl⟩⟩
    | false =>
      rw [he] at ov
      obtain ⟨rw,S2,w2,bg2,es,st⟩:=TR.Qas T' (W' he) he (u' he)
      obtain ⟨hp2,e2,A2,F2⟩:=Qar T' (W' he) (by omega) A' D (by omega) (by omega) (by omega) es
      have sz:=TR.Uu (m:=50) (fun m p hm=>by have:=(T'.page m p hm).few;omega) es
      refine ⟨(.nx,[.val (.ref n),.val (ZM d),.val (.ref hp.length),.val (.int (i:Int))]),hp2,(Qk ((QN (QR (Q4 (Qe rfl) A'.h3 (GQ ..) Xc rfl ov))).trans QO)).trans (Xu (Q4 (Qe rfl) A'.h3 (Qaw ..) Xc rfl e2)),⟨⟨_,rfl⟩,S2,bg2,w2,st.tree,by rw [st.room,r'],by have:=st.len;omega,A2,st.wok,fun a1 a2 c a3=>(st.new c a1 a2 a3).1,by omega,by omega,by have:=F2.1;omega,fun j hj hjn hjk=>?_⟩⟩
      rw [F2.2 j (by omega) hjn hjk (by omega) (by omega) (by omega)]
      exact x2 j hj hjn hjk
  obtain ⟨⟨fl,env⟩,w,eM,⟨i,hi,S',bg',wk,T',r',l',A',W',u',f',p',x1,x2⟩,z,he,hf⟩:=M
  simp only at he hf
  subst he
  have mk:QA 2 (JZ "Walk" 3 ZP (Qc (Qb 0) (Qc (Qb 1) Qm))) [.val (.ref n),.val (ZM d),.un,.un] hp=some ((.nx,[.val (.ref n),.val (ZM d),.val (.ref hp.length),.un]),hp++[wkO n (hp.length+1) (hp.length+2) (TR.fresh d),.dic [],.lst []]):=QI (uj (ZQ (Qe rfl) (Qe rfl)))
  have L:jQ [.val (.ref n),.val (ZM d),.val (.ref hp.length),.un] (hp++[wkO n (hp.length+1) (hp.length+2) (TR.fresh d),.dic [],.lst []])=some ((fl,[.val (.ref n),.val (ZM d),.val (.ref hp.length),z]),w):=qc (zU (m:=1000) (ZJ rfl) (by omega)) eM
  have fin:∃ x,Yj [.ref n,ZM d] hp=some (x,w):=by
    rcases hf with rfl | ⟨x,rfl⟩
    . exact ⟨_,Qz ((Qk mk).trans ((Qk L).trans (QD (Qe rfl))))⟩
    . exact ⟨x,Qz ((Qk mk).trans (QT L))⟩
  obtain ⟨x,ex⟩:=fin
  exact ⟨x,w,S',bg',ex,T',r',by omega,A'.h1,A'.h2,x1,x2⟩
def zC (c p m:Int):Int:=(c+p / 3) % p * ((c+p / 3) % p) % p * ((c+p / 3) % p) % p % m
theorem Jt (c p m:Int) (h0:0 < p) (h1:p < 1073741824) (hm:0 < m):Qx [.int c,.int p,.int m]=pure (.int (zC c p m)):=by
 have l0:0<=(c+p / 3) % p:=Int.emod_nonneg _ (by omega)
 have l1:(c+p / 3) % p < p:=Int.emod_lt_of_pos _ h0
 have d:=VF p 3 (by decide) (by decide)
 have a:=XO (c+p / 3) p h0
 have b:=yg ((c+p / 3) % p) ((c+p / 3) % p) (by omega) (by omega)
 have e:=XO ((c+p / 3) % p * ((c+p / 3) % p)) p h0
 have f:=gh ((c+p / 3) % p * ((c+p / 3) % p) % p) ((c+p / 3) % p) (by omega) (by omega)
 have g:=XO ((c+p / 3) % p * ((c+p / 3) % p) % p * ((c+p / 3) % p)) p h0
 have h:=XO ((c+p / 3) % p * ((c+p / 3) % p) % p * ((c+p / 3) % p) % p) m hm
 simp [Qx,Vx,Zb,Qq,QA,QJ,Qf,Qb,eC,Z4,d,a,b,e,f,g,h,zC]
theorem Xn (c p m:Int) (h:0 < m):0<=zC c p m:=Int.emod_nonneg _ (by omega)
theorem Ya (c p m:Int) (h:0 < m):zC c p m < m:=Int.emod_lt_of_pos _ h
theorem Qe9:zD (.int 10) (.int 40)=pure (.int 10000000000000000000000000000000000000000):=rfl
def emp:DV:=.tup [.int 0,.tup [],.tup [],.non,.non]
theorem pf0 (d:DV):Xp ("page_room" : Str) d []=[(("page_room" : Str),d)]:=by rfl
theorem pf1 (x d:DV):Xp ("kept" : Str) d [(("page_room" : Str),x)]=[(("page_room" : Str),x),(("kept" : Str),d)]:=by rfl
theorem pf2 (x y d:DV):Xp ("top" : Str) d [(("page_room" : Str),x),(("kept" : Str),y)]=[(("page_room" : Str),x),(("kept" : Str),y),(("top" : Str),d)]:=by rfl
theorem pf3 (x y z d:DV):Xp ("read_count" : Str) d [(("page_room" : Str),x),(("kept" : Str),y),(("top" : Str),z)]=[(("page_room" : Str),x),(("kept" : Str),y),(("top" : Str),z),(("read_count" : Str),d)]:=by rfl
theorem pf4 (x y z u d:DV):Xp ("write_count" : Str) d [(("page_room" : Str),x),(("kept" : Str),y),(("top" : Str),z),(("read_count" : Str),u)]=[(("page_room" : Str),x),(("kept" : Str),y),(("top" : Str),z),(("read_count" : Str),u),(("write_count" : Str),d)]:=by rfl
theorem QdX (r:Int) (hp:Hs):Je [.ref hp.length,.int r] (hp++[.ins "Shelf" []])=some (.non,hp++[.ins "Shelf" (shF r (hp.length+1) 0 0 0),.lst [emp]]):=by
 simp [Je,Y3,Zb,Qq,QA,QJ,YD,sIf,Q5,xD,jB,xB,xC,Qf,Qb,eC,eB,asB,Xf,eOr,JY,J3,xc,X2,eIf,j9,Qm,Qc,Q3,Y7,Qu,Zl,QE,gN,Z4,Ju,Z9,Ja,Jl,Z7,Js,Xo,Yz,xy,Z6,JQ,Jk,Zp,Yq,V6,Zo,gSb,jd,JX,Xy,QS,jC,jK,onI,onL,onD,Z3,Xm,zA,J5,ixG,Jr,qH,YT,J4,X6,asI,ja,Uv,QF,JZ,Ym,Jo,Xd,evP,ZW,Xr,JB,JU,JA,Xq,Xt,Xs,Zi,QU,Ji,QbY,gJ,pf0,pf1,pf2,pf3,pf4,qY,lim,shF,emp]
theorem Qdr (r:Nat) (h:2<=r):TR.Tree ⟨r,[⟨0,[],[],none,none⟩],0,0,0⟩ (fun _=>none):=by
 have one:∀ (n:Nat) (p:TR.Pg),([⟨0,[],[],none,none⟩]:List TR.Pg)[n]?=some p->n=0/\p=⟨0,[],[],none,none⟩:=fun n p hp=>by
  match n,hp with
  | 0,hp=>cases hp;exact ⟨rfl,rfl⟩
  | n+1,hp=>simp at hp
 refine ⟨h,⟨_,rfl,fun n p hp=>?_⟩,rfl,fun n p hp=>?_,fun n p hp=>?_,fun n p hp h0=>?_,fun n m p q hn hm _ e=>?_,fun n p hp v hv=>(by cases hv)⟩
 ·rw [(one n p hp).2];exact Nat.le_refl _
 ·rw [(one n p hp).2]
  exact ⟨List.Pairwise.nil,Nat.zero_le _,rfl,fun k hk=>(by cases hk),fun _ k hk=>(by cases hk),fun k hk=>(by cases hk),fun h hh=>(by cases hh)⟩
 ·rw [(one n p hp).2];exact .inl ⟨rfl,rfl⟩
 ·rw [(one n p hp).2] at h0;exact absurd h0 (by decide)
 ·exact absurd ((one n p hn).1.trans (one m q hm).1.symm) e
theorem QbJ (c:Int):∃ S bg hp' kvs,Yu [.int c,.ref 0] [.dic []]=some (.ref 1,hp')/\TR.Tree S bg/\S.room<=50/\S.pg.length<=60001/\hp'[1]?=some (.ins "Shelf" (shF S.room 2 S.top S.rd S.wr))/\hp'[2]?=some (.lst (S.pg.map pgD))/\hp'[0]?=some (.dic kvs):=by
 have p7:=Zc (Jt c 10079 7 (by decide) (by decide) (by decide))
 have p2:=Zc (Jt c 10091 2 (by decide) (by decide) (by decide))
 have p25:=Zc (Jt c 10093 25 (by decide) (by decide) (by decide))
 have p8:=Zc (Jt c 10141 8 (by decide) (by decide) (by decide))
 have a1:=Xn c 10079 7 (by decide)
 have a2:=Ya c 10079 7 (by decide)
 have b1:=Xn c 10091 2 (by decide)
 have b2:=Ya c 10091 2 (by decide)
 have c1:=Xn c 10093 25 (by decide)
 have c2:=Ya c 10093 25 (by decide)
 generalize zC c 10079 7=x at p7 a1 a2
 generalize zC c 10091 2=y at p2 b1 b2
 generalize zC c 10093 25=z at p25 c1 c2
 generalize zC c 10141 8=u at p8
 have xy0:0<=x * y:=Int.mul_nonneg a1 b1
 have xy1:x * y<=6 * 1:=Int.mul_le_mul (by omega) (by omega) b1 (by decide)
 obtain ⟨r,hr⟩:=yh (show 0<=2+x * y by omega)
 have mm:=Zc (yg x y (by omega) (by omega))
 have i0:Je [.ref 1,.int r] [.dic [],.ins "Shelf" []]=some (.non,[.dic [],.ins "Shelf" (shF r 2 0 0 0),.lst [emp]]):=QdX r [.dic []]
 have s1:QA 2 (JZ "Shelf" 2 Je (Qc (Qf Zt (eC (.int 2)) (Qf qJ (Qu 3 Qx (Qc (Qb 0) (Qc (eC (.int 10079)) (Qc (eC (.int 7)) Qm)))) (Qu 3 Qx (Qc (Qb 0) (Qc (eC (.int 10091)) (Qc (eC (.int 2)) Qm)))))) Qm)) [.val (.int c),.val (.ref 0),.un,.un,.un,.un] [.dic []]=some ((.nx,[.val (.int c),.val (.ref 0),.val (.ref 1),.un,.un,.un]),[.dic [],.ins "Shelf" (shF r 2 0 0 0),.lst [emp]]):=by
  refine QI ?_
  have ar:Qc (Qf Zt (eC (.int 2)) (Qf qJ (Qu 3 Qx (Qc (Qb 0) (Qc (eC (.int 10079)) (Qc (eC (.int 7)) Qm)))) (Qu 3 Qx (Qc (Qb 0) (Qc (eC (.int 10091)) (Qc (eC (.int 2)) Qm)))))) Qm [.val (.int c),.val (.ref 0),.un,.un,.un,.un] [.dic []]=some ([.int r],[.dic []]):=ZJ (Qh rfl (Qh (QW (ZK (Qe rfl) rfl rfl) rfl (p7 _)) (QW (ZK (Qe rfl) rfl rfl) rfl (p2 _)) (mm _)) (by rw [<- hr];rfl))
  unfold JZ
  have al:XU (.ins "Shelf" []) [.dic []]=some (.ref 1,[.dic [],.ins "Shelf" []]):=rfl
  have gd:QE (decide ([DV.int r].length+1=2)) [.dic []]=some ((),[.dic []]):=rfl
  rw [Qi ar,Qi gd,Qi al,Qi i0];rfl
 obtain ⟨m,hm1,hm2⟩:∃ m:Nat,(Qq (QA 3 (Qu 3 Qx (Qc (Qb 0) (Qc (eC (.int 10093)) (Qc (eC (.int 25)) Qm))))) (sIf (eB (Qf eqG (Qu 3 Qx (Qc (Qb 0) (Qc (eC (.int 10141)) (Qc (eC (.int 8)) Qm)))) (eC (.int 3)))) (QA 3 (eC (.int 60))) Q5) [.val (.int c),.val (.ref 0),.val (.ref 1),.un,.un,.un] [.dic [],.ins "Shelf" (shF r 2 0 0 0),.lst [emp]]=some ((.nx,[.val (.int c),.val (.ref 0),.val (.ref 1),.val (.int m),.un,.un]),[.dic [],.ins "Shelf" (shF r 2 0 0 0),.lst [emp]]))/\m<=60:=by
  obtain ⟨zn,hz⟩:=yh c1
  have s3:QA 3 (Qu 3 Qx (Qc (Qb 0) (Qc (eC (.int 10093)) (Qc (eC (.int 25)) Qm)))) [.val (.int c),.val (.ref 0),.val (.ref 1),.un,.un,.un] [.dic [],.ins "Shelf" (shF r 2 0 0 0),.lst [emp]]=some ((.nx,[.val (.int c),.val (.ref 0),.val (.ref 1),.val (.int zn),.un,.un]),[.dic [],.ins "Shelf" (shF r 2 0 0 0),.lst [emp]]):=QI (QW (ZK (Qe rfl) rfl rfl) rfl ((p25 _).trans (by rw [hz])))
  have t:eB (Qf eqG (Qu 3 Qx (Qc (Qb 0) (Qc (eC (.int 10141)) (Qc (eC (.int 8)) Qm)))) (eC (.int 3))) [.val (.int c),.val (.ref 0),.val (.ref 1),.val (.int zn),.un,.un] [.dic [],.ins "Shelf" (shF r 2 0 0 0),.lst [emp]]=some (u==3,[.dic [],.ins "Shelf" (shF r 2 0 0 0),.lst [emp]]):=QR (Qh (QW (ZK (Qe rfl) rfl rfl) rfl (p8 _)) rfl (eqI _ _ _))
  cases h:(u==3) with
  | true=>rw [h] at t;exact ⟨60,(Qk s3).trans ((Q9 t).trans (QI (d:=.int 60) rfl)),by omega⟩
  | false=>rw [h] at t;exact ⟨zn,(Qk s3).trans ((QN t).trans QO),by omega⟩
 have M:WP (xh (fun d env=>do let env' <- gN 4 d env;jq env') (Ze 0 m) [.val (.int c),.val (.ref 0),.val (.ref 1),.val (.int m),.un,.un]) [.dic [],.ins "Shelf" (shF r 2 0 0 0),.lst [emp]] fun q w=>∃ z4 z5 S bg kvs,q=(.nx,[.val (.int c),.val (.ref 0),.val (.ref 1),.val (.int m),z4,z5])/\TR.Tree S bg/\S.room<=50/\S.pg.length<=60001/\w[1]?=some (.ins "Shelf" (shF S.room 2 S.top S.rd S.wr))/\w[2]?=some (.lst (S.pg.map pgD))/\w[0]?=some (.dic kvs):=by
  refine jS (fun i env w=>∃ z4 z5 S bg kvs,env=[.val (.int c),.val (.ref 0),.val (.ref 1),.val (.int m),z4,z5]/\TR.Tree S bg/\S.room<=50/\S.pg.length<=1000 * i+1/\w[1]?=some (.ins "Shelf" (shF S.room 2 S.top S.rd S.wr))/\w[2]?=some (.lst (S.pg.map pgD))/\w[0]?=some (.dic kvs)/\kvs.length<=i) _ ⟨_,_,⟨r,[⟨0,[],[],none,none⟩],0,0,0⟩,_,[],rfl,Qdr r (by omega),by show r<=50;omega,by simp,rfl,rfl,rfl,by simp⟩ (fun i d0 hd0 env w ⟨z4,z5,S,bg,kvs,e,T,e1,e2,e3,e4,e5,e6⟩=>?_) (fun env w ⟨z4,z5,S,bg,kvs,e,T,e1,e2,e3,e4,e5,e6⟩=>⟨z4,z5,S,bg,kvs,by rw [e],T,e1,by rw [Jj] at e2;omega,e3,e4,e5⟩)
  subst e
  obtain ⟨hi,hd'⟩:=xA hd0
  subst hd'
  have pk:=Zc (Jt (c+7 * (i:Int)) 10099 120 (by decide) (by decide) (by decide))
  generalize zC (c+7 * (i:Int)) 10099 120=v at pk
  have m7:=Zc (yg 7 (i:Int) (by decide) (by decide))
  obtain ⟨x0,hp',S',bg',f1,f2,f3,f4,f5,f6,f7,f8⟩:=QdL T e1 e3 e4 (by decide) (by omega) (.put (v - 5) i)
  have l0:0 < w.length:=(List.getElem?_eq_some_iff.mp e5).1
  have g0:hp'[0]?=some (.dic kvs):=(f8 0 l0 (by decide) (by decide)).trans e5
  have t1:QA 5 (Qf yr (Qu 3 Qx (Qc (Qf Zt (Qb 0) (Qf qJ (eC (.int 7)) (Qb 4))) (Qc (eC (.int 10099)) (Qc (eC (.int 120)) Qm)))) (eC (.int 5))) [.val (.int c),.val (.ref 0),.val (.ref 1),.val (.int m),.val (.int (i:Int)),z5] w=some ((.nx,[.val (.int c),.val (.ref 0),.val (.ref 1),.val (.int m),.val (.int (i:Int)),.val (.int (v - 5))]),w):=QI (Qh (QW (ZK (Qh (Qe rfl) (Qh rfl (Qe rfl) (m7 _)) rfl) rfl rfl) rfl (pk _)) rfl rfl)
  have t2:Jk (Qu 2 Yj (Qc (Qb 2) (Qc (Q3 (Qc (eC (.str "put")) (Qc (Qb 5) (Qc (Qb 4) Qm)))) Qm))) [.val (.int c),.val (.ref 0),.val (.ref 1),.val (.int m),.val (.int (i:Int)),.val (.int (v - 5))] w=some ((.nx,[.val (.int c),.val (.ref 0),.val (.ref 1),.val (.int m),.val (.int (i:Int)),.val (.int (v - 5))]),hp'):=Xu (QW (ZQ (Qe rfl) (Zr (ZK rfl (Qe rfl) (Qe rfl)) (by simp))) rfl f1)
  have t3:Zo (Qb 4) (gSb (Qb 1) (Qb 5)) [.val (.int c),.val (.ref 0),.val (.ref 1),.val (.int m),.val (.int (i:Int)),.val (.int (v - 5))] hp'=some ((.nx,[.val (.int c),.val (.ref 0),.val (.ref 1),.val (.int m),.val (.int (i:Int)),.val (.int (v - 5))]),hp'.set 0 (.dic (JT kvs (.inl (v - 5)) (.int (i:Int))))):=by
   refine YC (Qe rfl) ?_
   unfold gSb
   rw [Qi (Qe rfl),Qi (Qe rfl),Qi (zG (d:=.int (i:Int)) g0 (show X6 (.int (v - 5))=some (.inl (v - 5)) from rfl) (by omega))];rfl
  have pl:=QcT kvs (.inl (v - 5)) (.int (i:Int))
  exact ⟨_,_,(Qk t1).trans ((Qk t2).trans t3),⟨_,_,S',bg',_,rfl,f2,by omega,by omega,(QU _ _ _ _ (by decide)).trans f5,(QU _ _ _ _ (by decide)).trans f6,gss g0,by omega⟩⟩
 obtain ⟨q,w,eM,z4,z5,S,bg,kvs,rfl,T,e1,e2,e3,e4,e5⟩:=M
 have L:jg [.val (.int c),.val (.ref 0),.val (.ref 1),.val (.int m),.un,.un] [.dic [],.ins "Shelf" (shF r 2 0 0 0),.lst [emp]]=some ((.nx,[.val (.int c),.val (.ref 0),.val (.ref 1),.val (.int m),z4,z5]),w):=qc (zU (m:=m) (ZJ (Qe rfl)) (by omega)) eM
 refine ⟨S,bg,w,kvs,?_,T,e1,e2,e3,e4,e5⟩
 refine Qz (env:=[.val (.int c),.val (.ref 0),.val (.ref 1),.val (.int m),z4,z5]) ((Qk s1).trans ?_)
 have as:∀ (f g h:DSx) (env:En) (hp:Hs),Qq f (Qq g h) env hp=Qq (Qq f g) h env hp:=fun f g h env hp=>Qbn f g h env hp
 rw [as]
 exact (Qk hm1).trans ((Qk L).trans (QD (Qe rfl)))
theorem QfJ (a b:Int):Gu [.int a,.int b]=pure (.int (if b < a then b else a)):=rfl
theorem QgV (c:Int) (hp:Hs):∃ k,YY [.int c] hp=some (.int k,hp):=by
 have p5:=Jt c 10007 5 (by decide) (by decide) (by decide)
 have g:=Xn c 10007 5 (by decide)
 have l:=Ya c 10007 5 (by decide)
 generalize zC c 10007 5=q at p5 g l
 let e:En:=[.val (.int c),.val (.int q)]
 have s1:QA 1 (Qu 3 Qx (Qc (Qb 0) (Qc (eC (.int 10007)) (Qc (eC (.int 5)) Qm)))) [.val (.int c),.un] hp=some ((.nx,e),hp):=QI (QW (ZK (Qe rfl) rfl rfl) rfl (Zc p5 _))
 have t:eB (Qf eqD (Qb 1) (eC (.int 0))) e hp=some (q==0,hp):=QR (Qh (Qe rfl) rfl (Zc (Z6 _ _) _))
 by_cases h:q=0
 ·rw [h] at t
  have a:=XO c 10000000000000000000000000000000000000000 (by decide)
  have b:=gh (c % 10000000000000000000000000000000000000000) 1000000000039 (by decide) (by decide)
  have d:=yg 2 1000000000000000000000000000000 (by decide) (by decide)
  have m:=XO (c % 10000000000000000000000000000000000000000 * 1000000000039+11) 2000000000000000000000000000001 (by decide)
  exact ⟨_,Qz (env:=e) ((Qk s1).trans (QT ((Q9 t).trans (QD (Qh (Qh (Qh (Qh (Qh (Qe rfl) (Qh rfl rfl (Zc Qe9 _)) (Zc a _)) rfl (Zc b _)) rfl rfl) (Qh (Qh rfl (Qh rfl rfl (Zc Xo _)) (Zc d _)) rfl rfl) (Zc m _)) (Qh rfl rfl (Zc Xo _)) rfl)))))⟩
 ·rw [show (q==0)=false by simpa using h] at t
  obtain ⟨v,hv,hpos⟩:∃ v:Int,atI [DV.int 10,.int 10,.int 41,.int 120,.int 120] q=some (.int v)/\0 < v:=by
   rcases (by omega:q=1∨q=2∨q=3∨q=4) with r | r | r | r<;>rw [r]
   ·exact ⟨10,rfl,by decide⟩
   ·exact ⟨41,rfl,by decide⟩
   ·exact ⟨120,rfl,by decide⟩
   ·exact ⟨120,rfl,by decide⟩
  refine ⟨_,Qz (env:=e) ((Qk s1).trans ((Qk ((QN t).trans QO)).trans (QD (Qh (QW (ZK (v'':=.int v) (Qe rfl) rfl (Qh (x:=.lst [.int 10,.int 10,.int 41,.int 120,.int 120]) rfl (Qe rfl) ?_)) rfl (Zc (Jt c 10009 v (by decide) (by decide) hpos) _)) rfl rfl))))⟩
  show YT (atI _ q) hp=_
  rw [hv];rfl
theorem QeW (c:Int) (hp:Hs):∃ k,zf [.int c] hp=some (.int k,hp):=by
 have p4:=Jt c 10037 4 (by decide) (by decide) (by decide)
 have t:eB (Qf eqD (Qu 3 Qx (Qc (Qb 0) (Qc (eC (.int 10037)) (Qc (eC (.int 4)) Qm)))) (eC (.int 0))) [.val (.int c)] hp=some (zC c 10037 4==0,hp):=QR (Qh (QW (ZK (Qe rfl) rfl rfl) rfl (Zc p4 _)) rfl (Zc (Z6 _ _) _))
 by_cases h:zC c 10037 4=0
 ·rw [h] at t
  have a:=XO c 10000000000000000000000000000000000000000 (by decide)
  have b:=gh (c % 10000000000000000000000000000000000000000) 1000000000039 (by decide) (by decide)
  have d:=yg 2 1000000000000000000000000000000 (by decide) (by decide)
  have m:=XO (c % 10000000000000000000000000000000000000000 * 1000000000039+5) 2000000000000000000000000000001 (by decide)
  exact ⟨_,Qz (env:=[.val (.int c)]) (QT ((Q9 t).trans (QD (Qh (Qh (Qh (Qh (Qh (Qe rfl) (Qh rfl rfl (Zc Qe9 _)) (Zc a _)) rfl (Zc b _)) rfl rfl) (Qh (Qh rfl (Qh rfl rfl (Zc Xo _)) (Zc d _)) rfl rfl) (Zc m _)) (Qh rfl rfl (Zc Xo _)) rfl))))⟩
 ·rw [show (zC c 10037 4==0)=false by simpa using h] at t
  exact ⟨_,Qz (env:=[.val (.int c)]) ((Qk ((QN t).trans QO)).trans (QD (Qh (QW (ZK (Qe rfl) rfl rfl) rfl (Zc (Jt c 10039 9 (by decide) (by decide) (by decide)) _)) rfl rfl)))⟩
theorem Qfq (c:Int) (hp:Hs):∃ d,Yi [.int c] hp=some (ZM d,hp)/\TR.Qfh d:=by
 have p10:=Jt c 10061 10 (by decide) (by decide) (by decide)
 obtain ⟨k,ke⟩:=QgV c hp
 obtain ⟨x,xe⟩:=QeW c hp
 generalize zC c 10061 10=kd at p10
 let E:Sl->Sl->Sl->En:=fun z3 z4 z5=>[.val (.int c),.val (.int kd),.val (.int k),z3,z4,z5]
 have s1:QA 1 (Qu 3 Qx (Qc (Qb 0) (Qc (eC (.int 10061)) (Qc (eC (.int 10)) Qm)))) [.val (.int c),.un,.un,.un,.un,.un] hp=some ((.nx,[.val (.int c),.val (.int kd),.un,.un,.un,.un]),hp):=QI (QW (ZK (Qe rfl) rfl rfl) rfl (Zc p10 _))
 have s2:QA 2 (Qu 1 YY (Qc (Qb 0) Qm)) [.val (.int c),.val (.int kd),.un,.un,.un,.un] hp=some ((.nx,E .un .un .un),hp):=QI (QW (ZJ (Qe rfl)) rfl ke)
 have t:∀ n:Int,eB (Qf ltD (Qb 1) (eC (.int n))) (E .un .un .un) hp=some (decide (kd < n),hp):=fun n=>QR (Qh (Qe rfl) rfl (Zc (Ja _ _) _))
 have go:∀ (g:DSx) (d:DV) (e:En),g (E .un .un .un) hp=some ((.rt d,e),hp)->Qq (QA 1 (Qu 3 Qx (Qc (Qb 0) (Qc (eC (.int 10061)) (Qc (eC (.int 10)) Qm))))) (Qq (QA 2 (Qu 1 YY (Qc (Qb 0) Qm))) g) [.val (.int c),.un,.un,.un,.un,.un] hp=some ((.rt d,e),hp):=fun g d e h=>(Qk s1).trans ((Qk s2).trans h)
 by_cases h1:kd < 5
 ·have t5:=t 5
  rw [decide_eq_true h1] at t5
  exact ⟨.put k x,Qz (go _ _ _ (QT ((Q9 t5).trans (QD (Zr (ZK rfl (Qe rfl) (QW (ZJ (Qe rfl)) rfl xe)) (by simp)))))),trivial⟩
 have t5:=t 5
 rw [decide_eq_false h1] at t5
 by_cases h2:kd < 7
 ·have t7:=t 7
  rw [decide_eq_true h2] at t7
  exact ⟨.cut k,Qz (go _ _ _ ((Qk ((QN t5).trans QO)).trans (QT ((Q9 t7).trans (QD (Zr (ZQ rfl (Qe rfl)) (by simp))))))),trivial⟩
 have t7:=t 7
 rw [decide_eq_false h2] at t7
 by_cases h3:kd < 9
 ·have t9:=t 9
  rw [decide_eq_true h3] at t9
  exact ⟨.find k,Qz (go _ _ _ ((Qk ((QN t5).trans QO)).trans ((Qk ((QN t7).trans QO)).trans (QT ((Q9 t9).trans (QD (Zr (ZQ rfl (Qe rfl)) (by simp)))))))),trivial⟩
 have t9:=t 9
 rw [decide_eq_false h3] at t9
 have p50:=Jt c 10067 50 (by decide) (by decide) (by decide)
 have p150:=Jt c 10151 150 (by decide) (by decide) (by decide)
 have p4:=Jt c 10069 4 (by decide) (by decide) (by decide)
 have g4:=Xn c 10069 4 (by decide)
 have l4:=Ya c 10069 4 (by decide)
 have g50:=Xn c 10067 50 (by decide)
 have g150:=Xn c 10151 150 (by decide)
 generalize zC c 10069 4=w4 at p4 g4 l4
 generalize zC c 10067 50=x5 at p50 g50
 generalize zC c 10151 150=x15 at p150 g150
 obtain ⟨lo,el,lo1⟩:∃ lo:Int,Gu [.int k,.int (1000000000000000000000000000000 - 1)]=pure (.int lo)/\lo<=999999999999999999999999999999:=⟨_,QfJ _ _,by split<;>omega⟩
 obtain ⟨ne,en,ne1⟩:∃ ne:Int,Gu [.int 1000000000000000000000000000000,.int (lo+1+x5)]=pure (.int ne)/\lo < ne:=⟨_,QfJ _ _,by split<;>omega⟩
 obtain ⟨fa,ef,fa1⟩:∃ fa:Int,Gu [.int 1000000000000000000000000000000,.int (lo+51+x15)]=pure (.int fa)/\lo < fa:=⟨_,QfJ _ _,by split<;>omega⟩
 obtain ⟨v,hv,lv⟩:∃ v:Int,atI [DV.int (lo+1),.int ne,.int fa,.int 1000000000000000000000000000000] w4=some (.int v)/\lo < v:=by
  rcases (by omega:w4=0∨w4=1∨w4=2∨w4=3) with q | q | q | q<;>rw [q]
  ·exact ⟨_,rfl,by omega⟩
  ·exact ⟨_,rfl,ne1⟩
  ·exact ⟨_,rfl,fa1⟩
  ·exact ⟨_,rfl,by omega⟩
 have pw:∀ e:En,Qf zD (eC (.int 10)) (eC (.int 30)) e hp=some (.int 1000000000000000000000000000000,hp):=fun e=>Qh rfl rfl (Zc Xo _)
 have pk:∀ (e:En) (p m r:Int),e[0]?=some (.val (.int c))->Qx [.int c,.int p,.int m]=pure (.int r)->Qu 3 Qx (Qc (Qb 0) (Qc (eC (.int p)) (Qc (eC (.int m)) Qm))) e hp=some (.int r,hp):=fun e p m r h h'=>QW (ZK (Qe h) rfl rfl) rfl (Zc h' _)
 refine ⟨.stretch lo v,Qz (go _ _ (E (.val (.int lo)) (.val (.int ne)) (.val (.int fa))) ((Qk ((QN t5).trans QO)).trans ((Qk ((QN t7).trans QO)).trans ((Qk ((QN t9).trans QO)).trans ?_)))),lv⟩
 refine (Qk (env1:=E (.val (.int lo)) .un .un) (hp1:=hp) (QI (JD (ZQ (Qe rfl) (Qh (pw _) rfl rfl)) (Zc el _)))).trans ?_
 refine (Qk (env1:=E (.val (.int lo)) (.val (.int ne)) .un) (hp1:=hp) (QI (JD (ZQ (pw _) (Qh (Qh (Qe rfl) rfl rfl) (pk _ _ _ _ rfl p50) rfl)) (Zc en _)))).trans ?_
 refine (Qk (env1:=E (.val (.int lo)) (.val (.int ne)) (.val (.int fa))) (hp1:=hp) (QI (JD (ZQ (pw _) (Qh (Qh (Qe rfl) rfl rfl) (pk _ _ _ _ rfl p150) rfl)) (Zc ef _)))).trans (QD ?_)
 have ls:Y7 (Qc (Qf Zt (Qb 3) (eC (.int 1))) (Qc (Qb 4) (Qc (Qb 5) (Qc (Qf zD (eC (.int 10)) (eC (.int 30))) Qm)))) (E (.val (.int lo)) (.val (.int ne)) (.val (.int fa))) hp=some (.lst [.int (lo+1),.int ne,.int fa,.int 1000000000000000000000000000000],hp):=by
  unfold Y7
  rw [Qi (yw (Qh (Qe rfl) rfl rfl) (Qe rfl) (Qe rfl) (pw _))];rfl
 refine Zr (ZK rfl (Qe rfl) (Qh ls (pk _ _ _ _ rfl p4) ?_)) (by simp)
 show YT (atI _ w4) hp=_
 rw [hv];rfl
abbrev Zs:=List (Int×Int)
def zK (z:Zs):List Int:=z.map (·.1)
def zV (z:Zs):List Int:=z.map (·.2)
def zE (z:Zs):List (Key×DV):=z.map fun p=>(.inl p.1,.int p.2)
def Rise (z:Zs):Prop:=z.Pairwise fun p q=>p.1 < q.1
def Qcj (z:Zs) (k:Int):Zs:=z.filter fun p=>decide (p.1 < k)
def Qdq (z:Zs) (k:Int):Zs:=z.filter fun p=>decide (k < p.1)
def gD (z:Zs) (k:Int) (n:Zs):Zs:=Qcj z k++n++Qdq z k
theorem Rise.keys {z:Zs} (h:Rise z):(zK z).Pairwise (· < ·):=List.pairwise_map.mpr h
theorem Gq {z:Zs} {k:Int} {p:Int×Int} (h:p∈Qcj z k):p∈z/\p.1 < k:=by
 have:=List.mem_filter.mp h;exact ⟨this.1,by simpa using this.2⟩
theorem kW {z:Zs} {k:Int} {p:Int×Int} (h:p∈Qdq z k):p∈z/\k < p.1:=by
 have:=List.mem_filter.mp h;exact ⟨this.1,by simpa using this.2⟩
theorem QcZ {z:Zs} (h:Rise z) (k:Int) {n:Zs} (hn:Rise n) (hk:∀ p∈n,p.1=k):Rise (gD z k n):=by
 refine List.pairwise_append.mpr ⟨List.pairwise_append.mpr ⟨List.Pairwise.filter _ h,hn,fun a ha b hb=>?_⟩,List.Pairwise.filter _ h,fun a ha b hb=>?_⟩
 ·have:=(Gq ha).2;have:=hk b hb;omega
 ·have q:=(kW hb).2
  rcases List.mem_append.mp ha with w | w
  ·have:=(Gq w).2;omega
  ·have:=hk a w;omega
theorem gq (z:Zs) (k:Int):(z.filter fun p=>decide (p.1≠k)).Perm (Qcj z k++Qdq z k):=by
 have e:=List.filter_append_perm (fun p:Int×Int=>decide (p.1 < k)) (z.filter fun p=>decide (p.1≠k))
 rw [List.filter_filter,List.filter_filter] at e
 have a:(z.filter fun p=>decide (p.1 < k)&&decide (p.1≠k))=Qcj z k:=List.filter_congr fun p _=>by
  rw [<- Bool.decide_and,decide_eq_decide];omega
 have b:(z.filter fun p=>(!decide (p.1 < k))&&decide (p.1≠k))=Qdq z k:=List.filter_congr fun p _=>by
  rw [<- decide_not,<- Bool.decide_and,decide_eq_decide];omega
 rw [a,b] at e
 exact e.symm
def Dz (kvs:List (Key×DV)) (z:Zs):Prop:=kvs.Perm (zE z)
theorem Dz.nodup {kvs:List (Key×DV)} {z:Zs} (d:Dz kvs z) (h:Rise z):(kvs.map (·.1)).Nodup:=by
 refine (d.map (·.1)).nodup_iff.mpr ?_
 unfold zE
 rw [List.map_map]
 refine List.pairwise_map.mpr (h.imp fun q e=>?_)
 have:=Sum.inl.inj e
 omega
theorem Dz.drop {kvs:List (Key×DV)} {z:Zs} (d:Dz kvs z) (k:Int):Dz (qT kvs (.inl k)) (gD z k []):=by
 have e:(zE z).filter (fun kv=>decide (kv.1≠(Sum.inl k:Key)))=zE (z.filter fun p=>decide (p.1≠k)):=by
  unfold zE
  rw [List.filter_map]
  congr 1
  apply List.filter_congr
  intro p _
  show decide ((Sum.inl p.1:Key)≠Sum.inl k)=decide (p.1≠k)
  rw [decide_eq_decide]
  exact ⟨fun h q=>h (by rw [q]),fun h q=>h (Sum.inl.inj q)⟩
 have p:=(List.Perm.filter (fun kv:Key×DV=>decide (kv.1≠(Sum.inl k:Key))) d)
 rw [e] at p
 unfold Dz qT gD
 rw [List.append_nil]
 exact p.trans ((gq z k).map _)
theorem Qbg {k:Key} {d:DV}:∀ {kvs:List (Key×DV)},(kvs.map (·.1)).Nodup->(JT kvs k d).Perm ((k,d)::qT kvs k):=by
  intro kvs h
  unfold JT
  by_cases q:(kvs.any fun kv=>decide (kv.1=k))=true
  . rw [if_pos q]
    induction kvs with
    | nil=>simp at q
    | cons p r ih =>
      obtain ⟨h1,h2⟩:=List.nodup_cons.mp h
      by_cases e:p.1=k
      . have hr:∀ x∈r,x.1≠k:=fun x hx y=>h1 (by show p.1∈_;rw [e,<- y];exact List.mem_map_of_mem hx)
        have a:r.map (fun kv=>if kv.1=k then (kv.1,d) else kv)=r:=by
          conv=>rhs;rw [<- List.map_id r]
          exact List.map_congr_left fun x hx=>by rw [if_neg (hr x hx)];rfl
        have b:qT (p::r) k=r:=by
          unfold qT
          rw [List.filter_cons_of_neg (by simp [e]),List.filter_eq_self]
          intro x hx;simpa using hr x hx
        rw [List.map_cons,if_pos e,a,b,e]
      . have q':(r.any fun kv=>decide (kv.1=k))=true:=by simpa [e] using q
        have b:qT (p::r) k=p::qT r k:=by
          unfold qT
          rw [List.filter_cons_of_pos (by simpa using e)]
        rw [List.map_cons,if_neg e,b]
        exact ((ih h2 q').cons p).trans (List.Perm.swap _ _ _)
  . rw [if_neg q]
    have b:qT kvs k=kvs:=by
      unfold qT
      rw [List.filter_eq_self]
      intro x hx
      have:¬ x.1=k:=fun e=>q (List.any_eq_true.mpr ⟨x,hx,by simpa using e⟩)
      simpa using this
    rw [b]
    exact List.perm_append_singleton _ _
theorem Dz.put {kvs:List (Key×DV)} {z:Zs} (d:Dz kvs z) (h:Rise z) (k w:Int):Dz (JT kvs (.inl k) (.int w)) (gD z k [(k,w)]):=by
 refine (Qbg (d.nodup h)).trans ?_
 have e:=(d.drop k).cons ((Sum.inl k:Key),DV.int w)
 refine e.trans ?_
 unfold gD zE
 rw [List.append_nil]
 rw [List.append_assoc]
 exact (List.perm_middle (a:=(k,w)) (l₁:=Qcj z k) (l₂:=Qdq z k)).symm.map (fun p=>((Sum.inl p.1:Key),DV.int p.2))
theorem v9 {k:Key} {d:DV}:∀ {kvs:List (Key×DV)},(kvs.map (·.1)).Nodup->(k,d)∈kvs->Jw kvs k=some d
  | [],_,h=>by cases h
  | p::r,hn,h=>by
    obtain ⟨h1,h2⟩:=List.nodup_cons.mp hn
    rw [KE]
    rcases List.mem_cons.mp h with e | e
    . rw [<- e,if_pos rfl]
    . rw [if_neg,v9 h2 e]
      intro q
      exact h1 (by show p.1∈_;rw [q];exact List.mem_map_of_mem (f:=(·.1)) e)
theorem Dz.val {kvs:List (Key×DV)} {z:Zs} (d:Dz kvs z) (h:Rise z) {k w:Int} (hm:(k,w)∈z):Jw kvs (.inl k)=some (.int w) :=
 v9 (d.nodup h) (d.mem_iff.mpr (List.mem_map_of_mem (f:=fun p:Int×Int=>((Sum.inl p.1:Key),DV.int p.2)) hm))
def kI:Key->Int
 | .inl i=>i
 | .inr _=>0
theorem Kj:∀ {kvs:List (Key×DV)},(∀ p∈kvs,∃ i,p.1=.inl i)->xp kvs=some (kvs.map fun p=>kI p.1)
  | [],_=>rfl
  | (k,d)::r,h=>by
    obtain ⟨i,e⟩:=h (k,d) (List.mem_cons_self ..)
    cases e
    show (xp r).map (i :: ·)=_
    rw [Kj fun p hp=>h p (List.mem_cons_of_mem _ hp)];rfl
theorem Dz.keys {kvs:List (Key×DV)} {z:Zs} (d:Dz kvs z) (h:Rise z):∃ ns,xp kvs=some ns/\srt ns=zK z:=by
 refine ⟨_,Kj fun p hp=>?_,(Us ?_ (h.keys.imp fun q=>Int.le_of_lt q)).symm⟩
 ·obtain ⟨q,_,rfl⟩:=List.mem_map.mp (d.mem_iff.mp hp)
  exact ⟨q.1,rfl⟩
 ·have e:=(d.map fun p=>kI p.1).symm
  have a:(zE z).map (fun p=>kI p.1)=zK z:=by
   unfold zE zK
   rw [List.map_map];rfl
  rwa [a] at e
theorem Qd1 {n:Nat} {hp:Hs} {kvs:List (Key×DV)} {k:Int} {d:DV} (h:hp[n]?=some (.dic kvs)) (hd:Jw kvs (.inl k)=some d):ixG (.ref n) (.int k) hp=some (d,hp):=by
 show (Jn n >>= _) hp=_
 rw [Qi (Z2 h)]
 show (J4 (.int k) >>= fun k=>YT (Jw kvs k)) hp=_
 rw [show J4 (.int k)=pure (.inl k) from rfl,pure_bind,hd];rfl
theorem Qhh (k w:Int):Rise [(k,w)]:=List.pairwise_singleton _ _
theorem Qfe:∀ x∈(["side", "down", "found", "put", "cut", "read", "told", "raised", "find", "stretch"]:List Str),PyData.strOk x=true:=by decide +kernel
def Sm:Nat->DV->Prop
 | _,.non=>True
 | _,.int _=>True
 | _,.str x=>PyData.strOk x=true
 | n+1,.tup ds=>∀ d∈ds,Sm n d
 | _,_=>False
theorem JI (n:Nat) (i:Int):Sm n (.int i):=by cases n<;>trivial
theorem yp (n:Nat):Sm n .non:=by cases n<;>trivial
theorem qO {n:Nat} {x:Str} (h:PyData.strOk x=true):Sm n (.str x):=by cases n<;>exact h
theorem GK (n:Nat) (o:Option Int):Sm n (opt o):=by cases o;exact yp n;exact JI n _
theorem Qdd (n:Nat) (o:Option Nat):Sm n (oN o):=by cases o;exact yp n;exact JI n _
theorem Qal (n:Nat) (ks:List Int):Sm (n+1) (.tup (ks.map .int)):=fun d hd=>by
 obtain ⟨x,_,rfl⟩:=List.mem_map.mp hd;exact JI n x
theorem Qam (n:Nat) (p:TR.Pg):Sm (n+2) (pgD p):=fun d hd=>by
 simp only [List.mem_cons,List.not_mem_nil,or_false] at hd
 rcases hd with rfl | rfl | rfl | rfl | rfl
 ·exact JI _ _
 ·exact Qal _ _
 ·exact Qal _ _
 ·exact GK _ _
 ·exact Qdd _ _
theorem Qde (n:Nat) (ps:List (Int×Int)):Sm (n+2) (.tup (prD ps)):=fun d hd=>by
 obtain ⟨x,_,rfl⟩:=List.mem_map.mp hd
 intro y hy
 simp only [List.mem_cons,List.not_mem_nil,or_false] at hy
 rcases hy with rfl | rfl<;>exact JI _ _
theorem Qgl (r:TR.Row):Sm 3 (Ve r):=by
  have s:=Qfe
  cases r with
  | non=>exact yp _
  | side n t=>intro d hd;simp only [List.mem_cons,List.not_mem_nil,or_false] at hd;rcases hd with rfl | rfl | rfl;exact qO (s _ (by simp));exact JI _ _;exact JI _ _
  | down n t=>intro d hd;simp only [List.mem_cons,List.not_mem_nil,or_false] at hd;rcases hd with rfl | rfl | rfl;exact qO (s _ (by simp));exact JI _ _;exact JI _ _
  | found n t=>intro d hd;simp only [List.mem_cons,List.not_mem_nil,or_false] at hd;rcases hd with rfl | rfl | rfl;exact qO (s _ (by simp));exact JI _ _;exact GK _ _
  | put n t k=>intro d hd;simp only [List.mem_cons,List.not_mem_nil,or_false] at hd;rcases hd with rfl | rfl | rfl | rfl;exact qO (s _ (by simp));exact JI _ _;exact GK _ _;exact Qdd _ _
  | cut n t=>intro d hd;simp only [List.mem_cons,List.not_mem_nil,or_false] at hd;rcases hd with rfl | rfl | rfl;exact qO (s _ (by simp));exact JI _ _;exact GK _ _
  | told n k=>intro d hd;simp only [List.mem_cons,List.not_mem_nil,or_false] at hd;rcases hd with rfl | rfl | rfl;exact qO (s _ (by simp));exact JI _ _;exact Qdd _ _
  | raised n t=>intro d hd;simp only [List.mem_cons,List.not_mem_nil,or_false] at hd;rcases hd with rfl | rfl | rfl;exact qO (s _ (by simp));exact JI _ _;exact JI _ _
  | read n ps t =>
    cases t with
    | none=>intro d hd;simp only [List.mem_cons,List.not_mem_nil,or_false] at hd;rcases hd with rfl | rfl | rfl | rfl | rfl;exact qO (s _ (by simp));exact JI _ _;exact Qde 0 _;exact yp _;exact yp _
    | some q=>obtain ⟨a,b⟩:=q;intro d hd;simp only [List.mem_cons,List.not_mem_nil,or_false] at hd;rcases hd with rfl | rfl | rfl | rfl | rfl;exact qO (s _ (by simp));exact JI _ _;exact Qde 0 _;exact JI _ _;exact JI _ _
theorem Gd {f g:DEx} {env:En} {hp:Hs} {ds es:List DV} (hf:f env hp=some (.tup ds,hp)) (hg:g env hp=some (.tup es,hp)):yd f g env hp=some (zO ds es,hp):=by
 unfold yd
 rw [Qi hf,Qi (rfl:xQ (.tup ds) hp=some (ds,hp)),Qi hg,Qi (rfl:xQ (.tup es) hp=some (es,hp))];rfl
theorem KH:∀ ds:List DV,zO ds ds=ds.map fun d=>.tup [d,d]
 | []=>rfl
 | d::ds=>by rw [List.map_cons,<- KH ds];rfl
theorem Qah:∀ (n:Nat) (d:DV) (w:Hs),Sm n d->Zx (n+1) [d,d] w=some (.bl true,w)
  | n,.non,w,_=>Qz (env:=[.val .non,.val .non,.un,.un]) ((Qk ((QN (QR rfl)).trans QO)).trans (QT ((Q9 (kD (QR rfl))).trans (QD rfl))))
  | n,.int i,w,_=>Qz (env:=[.val (.int i),.val (.int i),.un,.un]) ((Qk ((QN (QR rfl)).trans QO)).trans ((Qk ((QN ((jm (QR rfl)).trans (QR rfl))).trans QO)).trans (QD ((VI (b:=true) rfl).trans ((VI (b:=true) rfl).trans (Qh rfl rfl ((eqI i i w).trans (by simp))))))))
  | n,.str x,w,h=>Qz (env:=[.val (.str x),.val (.str x),.un,.un]) ((Qk ((QN (QR rfl)).trans QO)).trans (QT ((Q9 ((jm (QR rfl)).trans (QR rfl))).trans (QD ((VI (b:=true) (Qh rfl rfl (vk (n:=0) (Qf8 (by cases n<;>exact h)) (by decide) w))).trans (Qh (x:=.bl true) (y:=.bl true) rfl rfl (vk (Qha 0 true) (by decide) w)))))))
  | n,.bl _,w,h=>(by cases n<;>exact h.elim)
  | n,.lst _,w,h=>(by cases n<;>exact h.elim)
  | n,.ref _,w,h=>(by cases n<;>exact h.elim)
  | 0,.tup _,w,h=>h.elim
  | n+1,.tup ds,w,h=>by
    have M:WP (xh (fun d env=>do let env' <- gT [2,3] d env;qG (Zx (n+1)) env') (zO ds ds) [.val (.tup ds),.val (.tup ds),.un,.un]) w fun q w'=>w'=w/\∃ z2 z3,q=(.nx,[.val (.tup ds),.val (.tup ds),z2,z3]):=by
      rw [KH]
      refine jS (fun i env w'=>w'=w/\∃ z2 z3,env=[.val (.tup ds),.val (.tup ds),z2,z3]) _ ⟨rfl,_,_,rfl⟩ (fun i d hd' env w' zz=>?_) (fun env w' zz=>by obtain ⟨e,z2,z3,e'⟩:=zz;exact ⟨e,z2,z3,by rw [e']⟩)
      obtain ⟨e0,z2,z3,e1⟩:=zz
      rw [e0,e1]
      obtain ⟨p,hp,rfl⟩:=List.mem_map.mp (List.mem_of_getElem? hd')
      refine ⟨(.nx,[.val (.tup ds),.val (.tup ds),.val p,.val p]),w,?_,rfl,_,_,rfl⟩
      show qG (Zx (n+1)) [.val (.tup ds),.val (.tup ds),.val p,.val p] w=_
      exact (QN (XI (b:=true) (QR (QW (ZQ (Qe rfl) (Qe rfl)) rfl (Qah n p w (h p hp)))))).trans QO
    obtain ⟨q,w',e,rfl,z2,z3,rfl⟩:=M
    have L:jR (Zx (n+1)) [.val (.tup ds),.val (.tup ds),.un,.un] w'=some ((.nx,[.val (.tup ds),.val (.tup ds),z2,z3]),w'):=qc (Gd (Qe rfl) (Qe rfl)) e
    show Zb 4 (Vy (Zx (n+1))) _ _=_
    refine Qz (env:=[.val (.tup ds),.val (.tup ds),z2,z3]) (QT ((Q9 (hp1:=w') (QR rfl)).trans ((Qk ((QN (hp1:=w') ?_).trans QO)).trans ((Qk L).trans (QD rfl)))))
    exact (jm (XI (b:=true) (QR rfl))).trans (QR (Qh (x:=.int ds.length) (y:=.int ds.length) (JD (ZJ (Qe rfl)) rfl) (JD (ZJ (Qe rfl)) rfl) (Qd3 _ w')))
theorem Qc3 (d:DV) (n:Nat) (hn:n<=5) (h:Sm n d) (w:Hs):Zx 6 [d,d] w=some (.bl true,w):=by
  have mono:∀ (n m:Nat) (d:DV),Sm n d->n<=m->Sm m d:=by
    intro n
    induction n with
    | zero=>intro m d h hm;cases d<;>first | exact h.elim | (cases m<;>exact h)
    | succ n ih =>
      intro m d h hm
      obtain ⟨k,rfl⟩:∃ k,m=k+1:=⟨m - 1,by omega⟩
      cases d with
      | tup ds=>exact fun x hx=>ih k x (h x hx) (by omega)
      | _=>exact h
  exact Qah 5 d w (mono n 5 d h hn)
theorem QgE (ks:List Int) (k:Int) (hl:ks.length<=100) (hp:Hs):Yh [.tup (ks.map .int),.int k] hp=some (.int (TR.cLe ks k),hp):=Qz (env:=[.val (.tup (ks.map .int)),.val (.int k)]) (QD (uJ ks k hl (fun _ _=>rfl) hp))
theorem Qee (p:TR.Pg) (l h:Int) (hl:p.ks.length<=100) (hp:Hs):Xa [pgD p,.int l,.int h] hp=some (.tup (prD (TR.QZ p l h)),hp):=by
 let env:En:=[.val (pgD p),.val (.int l),.val (.int h)]
 have e0:yd (Qf ixG (Qb 0) (eC (.int 1))) (Qf ixG (Qb 0) (eC (.int 2))) env hp=some (prD (p.ks.zip p.ps),hp):=(Gd (Qh (Qe rfl) rfl (XD p hp)) (Qh (Qe rfl) rfl (qK p hp))).trans (by rw [Vt])
 have hz:(p.ks.zip p.ps).length<=100:=by rw [List.length_zip];omega
 have e2:=xY (hp:=hp) (t:=fun d=>Xf (eB (Qf leD (Qb 1) (Qf ixG (Qb 0) (eC (.int 0))))) (eB (Qf ltD (Qf ixG (Qb 0) (eC (.int 0))) (Qb 2))) (cE [1,2] env d)) (f:=fun d=>Qb 0 (cE [1,2] env d)) (p:=vJ l h) (prD (p.ks.zip p.ps)) (fun d hd=>by
   obtain ⟨z,_,rfl⟩:=List.mem_map.mp hd
   have c:cE [1,2] env (.tup [.int z.1,.int z.2])=[.val (.tup [.int z.1,.int z.2]),.val (.int l),.val (.int h)]:=rfl
   show Xf (eB (Qf leD (Qb 1) (Qf ixG (Qb 0) (eC (.int 0))))) (eB (Qf ltD (Qf ixG (Qb 0) (eC (.int 0))) (Qb 2))) (cE [1,2] env (.tup [.int z.1,.int z.2])) hp=_
   rw [c]
   have x1:Qf ixG (Qb 0) (eC (.int 0)) [.val (.tup [.int z.1,.int z.2]),.val (.int l),.val (.int h)] hp=some (.int z.1,hp):=Qh (Qe rfl) rfl (ZV (i:=0) rfl hp)
   have y1:eB (Qf leD (Qb 1) (Qf ixG (Qb 0) (eC (.int 0)))) [.val (.tup [.int z.1,.int z.2]),.val (.int l),.val (.int h)] hp=some (decide (l<=z.1),hp):=QR (Qh (Qe rfl) x1 rfl)
   have y2:eB (Qf ltD (Qf ixG (Qb 0) (eC (.int 0))) (Qb 2)) [.val (.tup [.int z.1,.int z.2]),.val (.int l),.val (.int h)] hp=some (decide (z.1 < h),hp):=QR (Qh x1 (Qe rfl) rfl)
   show _=some (vJ l h (.tup [.int z.1,.int z.2]),hp)
   by_cases q1:l<=z.1
   ·rw [decide_eq_true q1] at y1
    refine ((K4 y1).trans y2).trans ?_
    simp [vJ,q1]
   ·rw [decide_eq_false q1] at y1
    refine (K3 y1).trans ?_
    simp [vJ,q1])
  (fun d hd=>rfl) (by rw [qL];omega)
 rw [V4] at e2
 have c:YJ env hp=some (.lst (prD (TR.QZ p l h)),hp):=by
  unfold YJ ZN
  rw [Qi (UB e0),Qi (show ZR _ _ _ lim 0 hp=_ from e2)];rfl
 exact Qz (env:=env) (QD (JD (ZJ c) rfl))
theorem QcO {p:TR.Pg} (h:p.ps.length=p.ks.length):zK (TR.prs p)=p.ks/\zV (TR.prs p)=p.ps:=by
 unfold zK zV TR.prs
 exact ⟨List.map_fst_zip (by omega),List.map_snd_zip (by omega)⟩
theorem xu:∀ (kvs done:List (Key×DV)),((done++kvs).map (·.1)).Nodup->YS done kvs=done++kvs
  | [],done,_=>by rw [List.append_nil];rfl
  | (k,d)::kvs,done,h=>by
    have e:JT done k d=done++[(k,d)]:=by
      unfold JT
      rw [if_neg]
      intro ha
      rw [List.any_eq_true] at ha
      obtain ⟨x,hx,e⟩:=ha
      have ex:x.1=k:=of_decide_eq_true e
      rw [List.map_append,List.map_cons] at h
      have:=(List.nodup_append.mp h).2.2 x.1 (List.mem_map.mpr ⟨x,hx,rfl⟩) k (by simp)
      exact this ex
    show YS (JT done k d) kvs=_
    rw [e,xu kvs (done++[(k,d)]) (by rw [List.append_assoc];exact h),List.append_assoc];rfl
theorem uw:∀ ks:List Int,zkD (ks.map .int)=some (ks.map .inl)
  | []=>rfl
  | k::ks=>by
    show (match X6 (.int k),zkD (ks.map .int) with | some a,some b=>some (a::b) | _,_=>none)=_
    rw [uw ks];rfl
theorem QdC:∀ ks ps:List Int,(ks.map (Sum.inl:Int->Key)).zip (ps.map DV.int)=zE (ks.zip ps)
  | [],_=>rfl
  | _::_,[]=>rfl
  | k::ks,p::ps=>by
    rw [List.map_cons,List.map_cons,List.zip_cons_cons,QdC ks ps];rfl
theorem zF {p:TR.Pg} (h:p.ks.Pairwise (· < ·)):Rise (TR.prs p):=TR.qM h
theorem Qe4 {p:TR.Pg} (h:p.ks.Pairwise (· < ·)) (hl:p.ps.length=p.ks.length) {f g:DEx} {env:En} {hp:Hs} (hf:f env hp=some (.tup (p.ks.map .int),hp)) (hg:g env hp=some (.tup (p.ps.map .int),hp)):zp f g env hp=some (.ref hp.length,hp++[.dic (zE (TR.prs p))]):=by
 have nd:((zE (TR.prs p)).map (·.1)).Nodup:=Dz.nodup (List.Perm.refl _) (zF h)
 have m:YS [] ((p.ks.map (Sum.inl:Int->Key)).zip (p.ps.map DV.int))=zE (TR.prs p):=by
  rw [QdC]
  exact xu _ [] nd
 unfold zp
 rw [Qi hf,Qi (rfl:xQ (.tup (p.ks.map .int)) hp=some (_,hp)),Qi hg,Qi (rfl:xQ (.tup (p.ps.map .int)) hp=some (_,hp)),uw,Qi (rfl:opM (some (p.ks.map (Sum.inl:Int->Key))) hp=some (_,hp))]
 have gd:QE (decide ((p.ks.map (Sum.inl:Int->Key)).length=(p.ps.map DV.int).length)) hp=some ((),hp):=by
  rw [decide_eq_true (by rw [List.length_map,List.length_map,hl])];rfl
 rw [Qi gd,m];rfl
theorem Qdg {kvs:List (Key×DV)} {z:Zs} (d:Dz kvs z) (h:Rise z) (hz:z.length < 64) {f:DEx} {env:En} {n:Nat} {hp:Hs} (hf:f env hp=some (.ref n,hp)) (hn:hp[n]?=some (.dic kvs)):Zl Qan (Qc f Qm) env hp=some (.lst ((zK z).map .int),hp):=by
 obtain ⟨ns,e1,e2⟩:=d.keys h
 have ln:ns.length=z.length:=by
  have:=congrArg List.length e2
  rw [(Ur ns).length_eq] at this
  rw [this];unfold zK;rw [List.length_map]
 have a:Qc f Qm env hp=some ([.ref n],hp):=GU hf rfl
 unfold Zl
 rw [Qi a]
 show (Qb6 (.ref n) >>= fun ns=>QE (decide (ns.length < 64)) >>= fun _=>pure (DV.lst ((srt ns).map .int))) hp=_
 have b:Qb6 (.ref n) hp=some (ns,hp):=by
  show (Jn n >>= _) hp=_
  rw [Qi (Z2 hn)]
  show gj (xp kvs) hp=_
  rw [e1];rfl
 have gd:QE (decide (ns.length < 64)) hp=some ((),hp):=by rw [decide_eq_true (by omega)];rfl
 rw [Qi b,Qi gd,e2];rfl
theorem Qbw {p:TR.Pg} (h:p.ks.Pairwise (· < ·)) (k:Int):(Jw (zE (TR.prs p)) (.inl k)).getD .non=opt (TR.QV p k):=by
  cases e:TR.QV p k with
  | some v=>rw [Dz.val (List.Perm.refl _) (zF h) ((TR.KG h).mp e)];rfl
  | none =>
    have:Jw (zE (TR.prs p)) (.inl k)=none:=by
      cases q:Jw (zE (TR.prs p)) (.inl k) with
      | none=>rfl
      | some d =>
        exfalso
        unfold Jw at q
        obtain ⟨x,hx,_⟩:=Option.map_eq_some_iff.mp q
        have hm:=List.mem_of_find?_eq_some hx
        have hk:=List.find?_some hx
        obtain ⟨y,hy,rfl⟩:=List.mem_map.mp hm
        have ek:y.1=k:=by simpa using hk
        have:TR.QV p k=some y.2:=(TR.KG h).mpr (by rw [<- ek];exact hy)
        rw [e] at this;cases this
    rw [this];rfl
theorem Qfs {o g:DEx} {env:En} {hp hp1:Hs} {a:Nat} {kvs:List (Key×DV)} {j:Int} (ho:o env hp=some (.ref a,hp1)) (h:hp1[a]?=some (.dic kvs)) (hg:g env hp1=some (.int j,hp1)):JX "dict" J5 o (Qc g Qm) env hp=some ((Jw kvs (.inl j)).getD .non,hp1):=by
 unfold JX
 rw [Qi ho]
 have e:Xy "dict" (.ref a) hp1=some ((),hp1):=by
  show (Jn a >>= _) hp1=_
  rw [Qi (Z2 h)];rfl
 rw [Qi e,Qi (GU hg rfl)]
 show (Jn a >>= _) hp1=_
 rw [Qi (Z2 h)]
 show (J4 (.int j) >>= _) hp1=_
 rw [show J4 (.int j)=pure (.inl j) from rfl,pure_bind]
 cases Jw kvs (.inl j)<;>rfl
theorem Qc0 {p:TR.Pg} (h:p.ks.Pairwise (· < ·)) (hl:p.ps.length=p.ks.length) (k x:Int):gD (TR.prs p) k [(k,x)]=TR.prs (TR.QY p k x):=by
 have so:(TR.QY p k x).ks.Pairwise (· < ·):=TR.qF h k
 refine TR.qP (QcZ (zF h) k (Qhh k x) (fun q hq=>by simp at hq;rw [hq])) (TR.qM so) fun q=>?_
 obtain ⟨a,b⟩:=q
 rw [TR.GO h hl]
 unfold gD
 rw [List.mem_append,List.mem_append]
 constructor
 ·rintro ((m | m) | m)
  ·have:=Gq m;exact .inr ⟨by have:=this.2;simp at this;omega,this.1⟩
  ·simp at m;exact .inl m
  ·have:=kW m;exact .inr ⟨by have:=this.2;simp at this;omega,this.1⟩
 ·rintro (⟨rfl,rfl⟩ | ⟨h1,h2⟩)
  ·exact .inl (.inr (by simp))
  ·rcases Int.lt_or_gt_of_ne h1 with q | q
   ·exact .inl (.inl (List.mem_filter.mpr ⟨h2,by simpa using q⟩))
   ·exact .inr (List.mem_filter.mpr ⟨h2,by simpa using q⟩)
theorem Qbt {p:TR.Pg} (hz:p.lv=0) (h:p.ks.Pairwise (· < ·)) (hl:p.ps.length=p.ks.length) (h60:p.ks.length<=60) (k x:Int) (hp:Hs):∃ o,Jg [pgD p,.int k,.int x] hp=some (pgD (TR.QY p k x),hp++[o]):=by
  let q:=TR.QY p k x
  let d0:=zE (TR.prs p)
  have hd0:Dz d0 (TR.prs p):=List.Perm.refl _
  have hr:=zF h
  let kvs:=JT d0 (.inl k) (.int x)
  have hd1:Dz kvs (TR.prs q):=by have:=hd0.put hr k x;rwa [Qc0 h hl] at this
  have so:q.ks.Pairwise (· < ·):=TR.qF h k
  have hr1:=zF so
  have lq:q.ps.length=q.ks.length:=by
    show (p.ps.take _++x::p.ps.drop _).length=(p.ks.take _++k::p.ks.drop _).length
    simp [hl]
  have l61:q.ks.length<=61:=by
    show (p.ks.take _++k::p.ks.drop _).length<=61
    have:=TR.j1 p.ks k
    simp;omega
  obtain ⟨zk,zv⟩:=QcO lq
  have lz:(TR.prs q).length < 64:=by unfold TR.prs;rw [List.length_zip];omega
  let w1:Hs:=hp++[.dic d0]
  let w2:Hs:=hp++[.dic kvs]
  have g1:w1[hp.length]?=some (.dic d0):=by simp [w1]
  have g2:w2[hp.length]?=some (.dic kvs):=by simp [w2]
  have ks1:∀ (env:En) (w:Hs),env[0]?=some (.val (pgD p))->Qf ixG (Qb 0) (eC (.int 1)) env w=some (.tup (p.ks.map .int),w):=fun env w he=>Qh (Qe he) rfl (XD p w)
  have t0:eB (Qf eqG (Qf ixG (Qb 0) (eC (.int 0))) (eC (.int 0))) [.val (pgD p),.val (.int k),.val (.int x),.un,.un,.un] hp=some (true,hp):=QR (Qh (Qh (Qe rfl) rfl (YU p hp)) rfl ((eqI _ _ hp).trans (by rw [hz];rfl)))
  have s1:QA 5 (zp (Qf ixG (Qb 0) (eC (.int 1))) (Qf ixG (Qb 0) (eC (.int 2)))) [.val (pgD p),.val (.int k),.val (.int x),.un,.un,.un] hp=some ((.nx,[.val (pgD p),.val (.int k),.val (.int x),.un,.un,.val (.ref hp.length)]),w1):=QI (Qe4 h hl (Qh (Qe rfl) rfl (XD p hp)) (Qh (Qe rfl) rfl (qK p hp)))
  have dl:d0.length<=60:=by show (zE (TR.prs p)).length<=60;unfold zE TR.prs;rw [List.length_map,List.length_zip];omega
  have s2:Zo (Qb 2) (gSb (Qb 5) (Qb 1)) [.val (pgD p),.val (.int k),.val (.int x),.un,.un,.val (.ref hp.length)] w1=some ((.nx,[.val (pgD p),.val (.int k),.val (.int x),.un,.un,.val (.ref hp.length)]),w2):=by
    refine YC (Qe rfl) ?_
    unfold gSb
    rw [Qi (Qe rfl),Qi (Qe rfl),Qi (zG (d:=.int x) g1 (show X6 (.int k)=some (.inl k) from rfl) (by omega))]
    show some (_,(hp++[OV.dic d0]).set hp.length _)=_
    rw [gJ]
  let e4:En:=[.val (pgD p),.val (.int k),.val (.int x),.un,.val (.lst (q.ks.map .int)),.val (.ref hp.length)]
  have s3:QA 4 (Zl Qan (Qc (Qb 5) Qm)) [.val (pgD p),.val (.int k),.val (.int x),.un,.un,.val (.ref hp.length)] w2=some ((.nx,e4),w2):=QI ((Qdg hd1 hr1 lz (Qe rfl) g2).trans (by rw [zk]))
  have c1:qr e4 w2=some (.lst (q.ps.map .int),w2):=by
    have key:∀ (z:Zs),(∀ r∈z,r∈TR.prs q)->z.length < 100000->ZR (nxD ((zK z).map .int)) (fun d=>jf (cE [5] e4 d)) (fun d=>Qf ixG (Qb 1) (Qb 0) (cE [5] e4 d)) 100000 0 w2=some ((zV z).map .int,w2):=fun z hz hl=>by
      suffices hh:∀ (m i n:Nat),m+i=z.length->m < n->ZR (nxD ((zK z).map .int)) (fun d=>jf (cE [5] e4 d)) (fun d=>Qf ixG (Qb 1) (Qb 0) (cE [5] e4 d)) n i w2=some ((zV (z.drop i)).map .int,w2) by simpa using hh z.length 0 100000 rfl hl
      intro m
      induction m with
      | zero =>
        intro i n e hn'
        obtain ⟨n,rfl⟩:∃ k,n=k+1:=⟨n - 1,by omega⟩
        have:i=z.length:=by omega
        subst this
        have e1:=XY ((zK z).map DV.int) z.length (by unfold zK;simp) w2
        rw [show ((zK z).map DV.int)[z.length]?=none by unfold zK;simp] at e1
        rw [ZR,Qi e1,List.drop_length];rfl
      | succ m ih =>
        intro i n e hn'
        obtain ⟨n,rfl⟩:∃ k,n=k+1:=⟨n - 1,by omega⟩
        have hlt:i < z.length:=by omega
        have e1:=XY ((zK z).map DV.int) i (by unfold zK;simp;omega) w2
        rw [show ((zK z).map DV.int)[i]?=some (.int z[i].1) by unfold zK;rw [List.getElem?_map,List.getElem?_map,List.getElem?_eq_getElem hlt];rfl] at e1
        have ix:Qf ixG (Qb 1) (Qb 0) (cE [5] e4 (.int z[i].1)) w2=some (.int z[i].2,w2):=Qh (Qe rfl) (Qe rfl) (Qd1 g2 (hd1.val hr1 (hz _ (List.getElem_mem hlt))))
        rw [ZR,Qi e1]
        simp only
        rw [show (jf (cE [5] e4 (.int z[i].1)))=pure true from rfl,pure_bind]
        simp only [if_true]
        rw [Qi ix,Qi (ih (i+1) n (by omega) (by omega)),List.drop_eq_getElem_cons hlt];rfl
    have cx:=key (TR.prs q) (fun _ hr=>hr) (by omega)
    rw [zk,zv] at cx
    unfold qr ZN
    rw [Qi (xT (hp1:=w2) (Qe rfl)),Qi (show ZR _ _ _ lim 0 w2=_ from cx)];rfl
  refine ⟨.dic kvs,Qz (env:=e4) (QT ((Q9 t0).trans ((Qk s1).trans ((Qk s2).trans ((Qk s3).trans (QD ?_))))))⟩
  refine (Zr (jh rfl (JD (ZJ (Qe rfl)) rfl) (JD (ZJ c1) rfl) (Qh (Qe rfl) rfl (jG p w2)) (Qh (Qe rfl) rfl (zB p w2))) (by simp)).trans ?_
  show some (DV.tup [.int 0,.tup (q.ks.map .int),.tup (q.ps.map .int),opt p.hi,oN p.sd],w2)=some (pgD q,w2)
  unfold pgD
  rw [show q.lv=0 from hz];rfl
theorem Qbs {p:TR.Pg} (hz:0 < p.lv) (hl:p.ks.length<=100) (hl2:p.ps.length<=101) (k:Int) (c:Nat) (hp:Hs):Jg [pgD p,.int k,.int c] hp=some (pgD (TR.ZG p k c),hp):=by
 have t0:eB (Qf eqG (Qf ixG (Qb 0) (eC (.int 0))) (eC (.int 0))) [.val (pgD p),.val (.int k),.val (.int c),.un,.un,.un] hp=some (false,hp):=QR (Qh (Qh (Qe rfl) rfl (YU p hp)) rfl ((eqI _ _ hp).trans (by rw [show ((p.lv:Int)==0)=false by simp;omega])))
 let m:=TR.cLe p.ks k
 let e3:En:=[.val (pgD p),.val (.int k),.val (.int c),.val (.int (m:Nat)),.un,.un]
 let ks':=Ge p.ks m k
 let ps':=Ge p.ps (m+1) c
 let e4:En:=[.val (pgD p),.val (.int k),.val (.int c),.val (.int (m:Nat)),.val (.tup (ks'.map .int)),.un]
 have s1:QA 3 (Qu 2 Yh (Qc (Qf ixG (Qb 0) (eC (.int 1))) (Qc (Qb 1) Qm))) [.val (pgD p),.val (.int k),.val (.int c),.un,.un,.un] hp=some ((.nx,e3),hp):=QI (QW (ZQ (Qh (Qe rfl) rfl (XD p hp)) (Qe rfl)) rfl (QgE p.ks k hl hp))
 have pk:∀ env:En,env[0]?=some (.val (pgD p))->Qf ixG (Qb 0) (eC (.int 1)) env=pure (.tup (p.ks.map .int)):=fun env he=>Vi fun w=>Qh (Qe he) rfl (XD p w)
 have pp:∀ env:En,env[0]?=some (.val (pgD p))->Qf ixG (Qb 0) (eC (.int 2)) env=pure (.tup (p.ps.map .int)):=fun env he=>Vi fun w=>Qh (Qe he) rfl (qK p w)
 have s2:QA 4 (Qf Zt (Qf Zt (eSl (Qf ixG (Qb 0) (eC (.int 1))) Zj (Zk (Qb 3))) (Q3 (Qc (Qb 1) Qm))) (eSl (Qf ixG (Qb 0) (eC (.int 1))) (Zk (Qb 3)) Zj)) e3 hp=some ((.nx,e4),hp):=QI (Zc (Vk (pk e3 rfl) rfl rfl (by omega)) hp)
 have s3:=Zc (Vk (env:=e4) (g:=Qf Zt (Qb 3) (eC (.int 1))) (h:=Qb 2) (c:=m+1) (k:=(c:Int)) (pp e4 rfl) (by show (pure (DV.int ((m:Int)+1)):M DV)=_;rw [show ((m:Int)+1)=((m+1:Nat):Int) by omega]) rfl (by omega)) hp
 refine Qz (env:=e4) ((Qk ((QN t0).trans QO)).trans ((Qk s1).trans ((Qk s2).trans (QD ?_))))
 exact Zr (jh (Qh (Qe rfl) rfl (YU p hp)) (Qe rfl) s3 (Qh (Qe rfl) rfl (jG p hp)) (Qh (Qe rfl) rfl (zB p hp))) (by simp)
def sdD (pl:Nat) (t r:Int) (wr:Option Int):List (Key×DV):=[(.inr "pages", .ref pl),(.inr "root", .int t),(.inr "room", .int r)]++(match wr with | none=>[] | some x=>[(.inr "writings", .int x)])
def ssD (y:Nat) (d a h l o f:DV) (kid:Option DV):List (Key×DV):=[(.inr "deed", d),(.inr "aim", a),(.inr "here", h),(.inr "level", l),(.inr "ways", .ref y),(.inr "over", o),(.inr "fresh", f)]++(match kid with | none=>[] | some x=>[(.inr "kid", x)])
section
variable (pl:Nat) (t r:Int) (wr:Option Int)
theorem JC:Jw (sdD pl t r wr) (.inr "pages")=some (.ref pl):=by cases wr<;>rfl
theorem GG:Jw (sdD pl t r wr) (.inr "root")=some (.int t):=by cases wr<;>rfl
theorem Qai:Jw (sdD pl t r wr) (.inr "room")=some (.int r):=by cases wr<;>rfl
theorem QeJ (x:Int):Jw (sdD pl t r (some x)) (.inr "writings")=some (.int x):=rfl
theorem qi (x:Int):JT (sdD pl t r wr) (.inr "writings") (.int x)=sdD pl t r (some x):=by cases wr<;>rfl
theorem Qc4 (x:Int):JT (sdD pl t r wr) (.inr "root") (.int x)=sdD pl x r wr:=by cases wr<;>rfl
theorem jJ:(sdD pl t r wr).length<=4:=by cases wr<;>exact Nat.le_of_ble_eq_true rfl
end
section
variable (y:Nat) (d a h l o f:DV) (kid:Option DV) (x:DV)
theorem QeO:Jw (ssD y d a h l o f kid) (.inr "deed")=some d:=by cases kid<;>rfl
theorem jN:Jw (ssD y d a h l o f kid) (.inr "aim")=some a:=by cases kid<;>rfl
theorem Qao:Jw (ssD y d a h l o f kid) (.inr "here")=some h:=by cases kid<;>rfl
theorem v0:Jw (ssD y d a h l o f kid) (.inr "level")=some l:=by cases kid<;>rfl
theorem Qaq:Jw (ssD y d a h l o f kid) (.inr "ways")=some (.ref y):=by cases kid<;>rfl
theorem Vs:Jw (ssD y d a h l o f kid) (.inr "over")=some o:=by cases kid<;>rfl
theorem Qdi:Jw (ssD y d a h l o f kid) (.inr "fresh")=some f:=by cases kid<;>rfl
theorem Qdj:Jw (ssD y d a h l o f (some x)) (.inr "kid")=some x:=rfl
theorem Qap:JT (ssD y d a h l o f kid) (.inr "aim") x=ssD y d x h l o f kid:=by cases kid<;>rfl
theorem xP:JT (ssD y d a h l o f kid) (.inr "here") x=ssD y d a x l o f kid:=by cases kid<;>rfl
theorem Qbp:JT (ssD y d a h l o f kid) (.inr "level") x=ssD y d a h x o f kid:=by cases kid<;>rfl
theorem Ut:JT (ssD y d a h l o f kid) (.inr "over") x=ssD y d a h l x f kid:=by cases kid<;>rfl
theorem Qbo:JT (ssD y d a h l o f kid) (.inr "fresh") x=ssD y d a h l o x kid:=by cases kid<;>rfl
theorem QeP:JT (ssD y d a h l o f kid) (.inr "kid") x=ssD y d a h l o f (some x):=by cases kid<;>rfl
theorem X0:(ssD y d a h l o f kid).length<=8:=by cases kid<;>exact Nat.le_of_ble_eq_true rfl
end
def ssW (y:Nat) (w:TR.Wk) (fr:Bool):List (Key×DV):=ssD y (ZM w.deed) (.int w.aim) (oN w.place) (.int w.goal) (.bl w.ended) (.bl fr) (w.newp.map fun k:Nat=>.int k)
structure Sd (hp:Hs) (s pl t y:Nat) (S:TR.Sh) (w:TR.Wk) (wr:Option Int) (fr:Bool):Prop where
 a1:hp[s]?=some (.dic (sdD pl S.top S.room wr))
 a2:hp[pl]?=some (.lst (S.pg.map pgD))
 a3:hp[t]?=some (.dic (ssW y w fr))
 a4:hp[y]?=some (.dic (fkD w.forks))
structure Ds (s pl t y:Nat):Prop where
 sp:s≠pl
 st:s≠t
 sy:s≠y
 pt:pl≠t
 py:pl≠y
 ty:t≠y
def Fx (hp hp':Hs) (s pl t y:Nat):Prop:=hp.length<=hp'.length/\∀ i,i < hp.length->i≠s->i≠pl->i≠t->i≠y->hp'[i]?=hp[i]?
section
variable {hp hp' hp2:Hs} {s pl t y:Nat} {S:TR.Sh} {w:TR.Wk} {wr:Option Int} {fr:Bool}
theorem Fx.trans (a:Fx hp hp' s pl t y) (b:Fx hp' hp2 s pl t y):Fx hp hp2 s pl t y:=⟨Nat.le_trans a.1 b.1,fun i hi c1 c2 c3 c4=>(b.2 i (Nat.lt_of_lt_of_le hi a.1) c1 c2 c3 c4).trans (a.2 i hi c1 c2 c3 c4)⟩
theorem Fx.set {j:Nat} {o:OV} (hj:j=s∨j=pl∨j=t∨j=y):Fx hp (hp.set j o) s pl t y:=⟨by simp,fun i _ c1 c2 c3 c4=>QU _ _ _ _ (by rcases hj with rfl | rfl | rfl | rfl<;>exact Ne.symm ‹_›)⟩
theorem Fx.app {t':Hs}:Fx hp (hp++t') s pl t y:=⟨by simp,fun i hi _ _ _ _=>List.getElem?_append_left hi⟩
theorem Sd.app (A:Sd hp s pl t y S w wr fr) (t':Hs):Sd (hp++t') s pl t y S w wr fr:=by
 have g:∀ {j:Nat} {x:OV},hp[j]?=some x->(hp++t')[j]?=some x:=fun {j x} h=>(List.getElem?_append_left (List.getElem?_eq_some_iff.mp h).1).trans h
 exact ⟨g A.a1,g A.a2,g A.a3,g A.a4⟩
theorem Sd.side (A:Sd hp s pl t y S w wr fr) (D:Ds s pl t y) {S':TR.Sh} {wr':Option Int} (e:S'.pg=S.pg):Sd (hp.set s (.dic (sdD pl S'.top S'.room wr'))) s pl t y S' w wr' fr:=⟨gss A.a1,by rw [e];exact gs D.sp A.a2,gs D.st A.a3,gs D.sy A.a4⟩
theorem Sd.page (A:Sd hp s pl t y S w wr fr) (D:Ds s pl t y) {S':TR.Sh} (e1:S'.top=S.top) (e2:S'.room=S.room):Sd (hp.set pl (.lst (S'.pg.map pgD))) s pl t y S' w wr fr:=⟨by rw [e1,e2];exact gs D.sp.symm A.a1,gss A.a2,gs D.pt A.a3,gs D.py A.a4⟩
theorem Sd.state (A:Sd hp s pl t y S w wr fr) (D:Ds s pl t y) {w':TR.Wk} {fr':Bool} (e:w'.forks=w.forks):Sd (hp.set t (.dic (ssW y w' fr'))) s pl t y S w' wr fr':=⟨gs D.st.symm A.a1,gs D.pt.symm A.a2,gss A.a3,by rw [e];exact gs D.ty A.a4⟩
theorem Sd.way (A:Sd hp s pl t y S w wr fr) (D:Ds s pl t y) {w':TR.Wk} (e:ssW y w' fr=ssW y w fr):Sd (hp.set y (.dic (fkD w'.forks))) s pl t y S w' wr fr:=⟨gs D.sy.symm A.a1,gs D.py.symm A.a2,by rw [e];exact gs D.ty.symm A.a3,gss A.a4⟩
theorem VO {o:DEx} {env:En} {hp:Hs} {b:Nat} {kvs:List (Key×DV)} {x:Str} {d:DV} (ho:o env hp=some (.ref b,hp)) (h:hp[b]?=some (.dic kvs)) (hd:Jw kvs (.inr x)=some d):Qf ixG o (eC (.str x)) env hp=some (d,hp):=by
 refine Qh ho rfl ?_
 show (Jn b >>= _) hp=_
 rw [Qi (Z2 h)]
 show (J4 (.str x) >>= fun k=>YT (Jw kvs k)) hp=_
 rw [show J4 (.str x)=pure (.inr x) from rfl,pure_bind,hd];rfl
theorem Jv {e o:DEx} {env:En} {hp hp1:Hs} {b:Nat} {kvs:List (Key×DV)} {x:Str} {d:DV} (he:e env hp=some (d,hp1)) (ho:o env hp1=some (.ref b,hp1)) (h:hp1[b]?=some (.dic kvs)) (hl:kvs.length<=8):Zo e (gSb o (eC (.str x))) env hp=some ((.nx,env),hp1.set b (.dic (JT kvs (.inr x) d))):=by
 refine YC he ?_
 unfold gSb
 rw [Qi ho,Qi (rfl:eC (.str x) env hp1=some (.str x,hp1)),Qi (zG (d:=d) h (show X6 (.str x)=some (.inr x) from rfl) (by omega))];rfl
theorem gz {e o j:DEx} {env:En} {hp:Hs} {b n:Nat} {ds:List DV} {d:DV} (he:e env hp=some (d,hp)) (ho:o env hp=some (.ref b,hp)) (hj:j env hp=some (.int (n:Int),hp)) (h:hp[b]?=some (.lst ds)) (hn:n < ds.length):Zo e (gSb o j) env hp=some ((.nx,env),hp.set b (.lst (ds.set n d))):=by
 refine YC he ?_
 unfold gSb
 rw [Qi ho,Qi hj]
 have g:jd (.ref b) (.int (n:Int)) d hp=some ((),hp.set b (.lst (ds.set n d))):=by
  show (Jn b >>= _) hp=_
  rw [Qi (Z2 h)]
  show (asI (.int (n:Int)) >>= fun k=>match ixN ds.length k with | some j=>jL b (.lst (ds.set j d)) | none=>failure) hp=_
  simp only [asI,pure_bind,Gg hn];rfl
 rw [Qi g];rfl
theorem Sd.read (A:Sd hp s pl t y S w wr fr) {env:En} {i:Nat} {x:Str} {d:DV} (he:env[i]?=some (.val (.ref s))) (hd:Jw (sdD pl S.top S.room wr) (.inr x)=some d):Qf ixG (Qb i) (eC (.str x)) env hp=some (d,hp):=VO (Qe he) A.a1 hd
theorem Sd.see (A:Sd hp s pl t y S w wr fr) {env:En} {i:Nat} {x:Str} {d:DV} (he:env[i]?=some (.val (.ref t))) (hd:Jw (ssW y w fr) (.inr x)=some d):Qf ixG (Qb i) (eC (.str x)) env hp=some (d,hp):=VO (Qe he) A.a3 hd
theorem QgJ (p:TR.Pg):(if 0 < p.lv then (1:Int) else 0)+(p.ks.length / 2:Nat)=(TR.Zw p:Nat):=by
 unfold TR.Zw TR.mid
 by_cases h:p.lv=0
 ·rw [if_pos h,if_neg (by omega)];omega
 ·rw [if_neg h,if_pos (by omega)];omega
theorem vX {f g:DEx} {env:En} {hp:Hs} {xs:List Int} {a:Nat} (hf:f env hp=some (.tup (xs.map .int),hp)) (hg:g env hp=some (.int (a:Int),hp)):eSl f (Zk g) Zj env hp=some (.tup ((xs.drop a).map .int),hp):=by
 unfold eSl Zk Zj
 rw [Qi hf]
 have e1:(do let i <- asI (<- g env);pure (some i):M (Option Int)) hp=some (some (a:Int),hp):=by rw [Qi hg];rfl
 rw [Qi e1,Qi (rfl:(pure none:M (Option Int)) hp=some (none,hp)),List.map_drop,<- G9 (xs.map DV.int) a];rfl
theorem vY {f g:DEx} {env:En} {hp:Hs} {xs:List Int} {a:Nat} (hf:f env hp=some (.tup (xs.map .int),hp)) (hg:g env hp=some (.int (a:Int),hp)):eSl f Zj (Zk g) env hp=some (.tup ((xs.take a).map .int),hp):=by
 unfold eSl Zk Zj
 rw [Qi hf]
 have e1:(do let i <- asI (<- g env);pure (some i):M (Option Int)) hp=some (some (a:Int),hp):=by rw [Qi hg];rfl
 rw [Qi (rfl:(pure none:M (Option Int)) hp=some (none,hp)),Qi e1,List.map_take,<- VB (xs.map DV.int) a];rfl
theorem Qfa (A:Sd hp s pl t y S w wr fr) (D:Ds s pl t y) {n:Nat} {P:TR.Pg} (hn:n < S.pg.length) (hl:S.pg.length < 90000) (hP:P.ks.length<=100) (h3:S.room < P.ks.length->1<=P.ks.length) :
  ∃ hp',Xb [.ref s,.ref t,.int n,pgD P] hp=some (oN (TR.Q8 S w n P).1,hp')/\Sd hp' s pl t y (TR.Q8 S w n P).2.1 (TR.Q8 S w n P).2.2 (some ((TR.Q8 S w n P).2.1.wr - S.wr)) fr/\Fx hp hp' s pl t y:=by
 let e0:En:=[.val (.ref s),.val (.ref t),.val (.int n),.val (pgD P),.un,.un,.un,.un]
 have len:∀ (env:En) (w':Hs),env[3]?=some (.val (pgD P))->Zl Jr (Qc (Qf ixG (Qb 3) (eC (.int 1))) Qm) env w'=some (.int P.ks.length,w'):=fun env w' he=>(JD (ZJ (Qh (Qe he) rfl (XD P w'))) (Qci _ w')).trans (by rw [List.length_map])
 have lP:n < (S.pg.map pgD).length:=by rw [List.length_map];exact hn
 unfold TR.Q8
 by_cases hr:P.ks.length<=S.room
 ·rw [if_pos hr]
  have t0:eB (Qf leD (Zl Jr (Qc (Qf ixG (Qb 3) (eC (.int 1))) Qm)) (Qf ixG (Qb 0) (eC (.str "room")))) e0 hp=some (true,hp):=QR (b:=true) (Qh (len e0 hp rfl) (A.read rfl (Qai ..)) (by rw [Jl,decide_eq_true (by omega)];rfl))
  have s1:=gz (e:=Qb 3) (o:=Qf ixG (Qb 0) (eC (.str "pages"))) (j:=Qb 2) (env:=e0) (Qe rfl) (A.read rfl (JC ..)) (Qe rfl) A.a2 lP
  rw [<- List.map_set] at s1
  have A1:=A.page (S':={ S with pg:=S.pg.set n P,wr:=S.wr+1 }) D rfl rfl
  have s2:=Jv (e:=eC (.int 1)) (o:=Qb 0) (x := "writings") (env:=e0) (d:=.int 1) rfl (Qe rfl) A1.a1 (Nat.le_trans (jJ ..) (by decide))
  rw [qi] at s2
  have A2:=A1.side (wr':=some 1) (S':={ S with pg:=S.pg.set n P,wr:=S.wr+1 }) D rfl
  have s3:=Jv (e:=eC (.bl true)) (o:=Qb 1) (x := "over") (env:=e0) (d:=.bl true) rfl (Qe rfl) A2.a3 (X0 ..)
  unfold ssW at s3
  rw [Ut] at s3
  have A3:=A2.state (w':={ w with ended:=true }) (fr':=fr) D rfl
  refine ⟨_,Qz (env:=e0) (QT ((Q9 t0).trans ((Qk s1).trans ((Qk s2).trans ((Qk s3).trans (QD (d:=.non) rfl)))))),?_,?_⟩
  ·have e:(({ S with pg:=S.pg.set n P,wr:=S.wr+1 }:TR.Sh).wr - S.wr)=1:=by show S.wr+1 - S.wr=1;omega
   rw [e];exact A3
  ·exact (Fx.set (.inr (.inl rfl))).trans ((Fx.set (.inl rfl)).trans (Fx.set (.inr (.inr (.inl rfl)))))
 ·rw [if_neg hr]
  have h1:=h3 (by omega)
  let half:=P.ks.length / 2
  have hh:half < P.ks.length:=by show P.ks.length / 2 < _;omega
  let key:=TR.J6 P
  let N:=S.pg.length
  have t0:eB (Qf leD (Zl Jr (Qc (Qf ixG (Qb 3) (eC (.int 1))) Qm)) (Qf ixG (Qb 0) (eC (.str "room")))) e0 hp=some (false,hp):=QR (b:=false) (Qh (len e0 hp rfl) (A.read rfl (Qai ..)) (by rw [Jl,decide_eq_false (by omega)];rfl))
  have u1:QA 4 (Qf uO (Zl Jr (Qc (Qf ixG (Qb 3) (eC (.int 1))) Qm)) (eC (.int 2))) e0 hp=some ((.nx,[.val (.ref s),.val (.ref t),.val (.int n),.val (pgD P),.val (.int half),.un,.un,.un]),hp):=QI (Qh (len e0 hp rfl) rfl (by rw [VF _ _ (by decide) (by decide)];rfl))
  have u2:QA 5 (Qf ixG (Qf ixG (Qb 3) (eC (.int 1))) (Qb 4)) [.val (.ref s),.val (.ref t),.val (.int n),.val (pgD P),.val (.int half),.un,.un,.un] hp=some ((.nx,[.val (.ref s),.val (.ref t),.val (.int n),.val (pgD P),.val (.int half),.val (.int key),.un,.un]),hp):=QI (Qh (Qh (Qe rfl) rfl (XD P hp)) (Qe rfl) (ZV (i:=half) (by rw [List.getElem?_map,show P.ks[half]?=some key from TR.Yx h1];rfl) hp))
  have u3:QA 6 (Zl Jr (Qc (Qf ixG (Qb 0) (eC (.str "pages"))) Qm)) [.val (.ref s),.val (.ref t),.val (.int n),.val (pgD P),.val (.int half),.val (.int key),.un,.un] hp=some ((.nx,[.val (.ref s),.val (.ref t),.val (.int n),.val (pgD P),.val (.int half),.val (.int key),.val (.int N),.un]),hp):=QI ((JD (ZJ (A.read rfl (JC ..))) (zx A.a2)).trans (by rw [List.length_map]))
  let cu:=TR.Zw P
  let e7:En:=[.val (.ref s),.val (.ref t),.val (.int n),.val (pgD P),.val (.int half),.val (.int key),.val (.int N),.val (.int cu)]
  have u4:QA 7 (Qf Zt (Qb 4) (Zl vA (Qc (Qf gtD (Qf ixG (Qb 3) (eC (.int 0))) (eC (.int 0))) Qm))) [.val (.ref s),.val (.ref t),.val (.int n),.val (pgD P),.val (.int half),.val (.int key),.val (.int N),.un] hp=some ((.nx,e7),hp):=by
   have iv:Zl vA (Qc (Qf gtD (Qf ixG (Qb 3) (eC (.int 0))) (eC (.int 0))) Qm) [.val (.ref s),.val (.ref t),.val (.int n),.val (pgD P),.val (.int half),.val (.int key),.val (.int N),.un] hp=some (.int (if 0 < P.lv then 1 else 0),hp):=by
    refine JD (ds:=[.bl (decide (0 < (P.lv:Int)))]) (hp1:=hp) (ZJ (Qh (Qh (Qe rfl) rfl (YU P hp)) rfl (by rw [Z9];rfl))) ?_
    by_cases z:0 < P.lv
    ·rw [if_pos z,decide_eq_true (by omega)];rfl
    ·rw [if_neg z,decide_eq_false (by omega)];rfl
   refine QI (Qh (Qe rfl) iv ?_)
   show some (DV.int ((half:Int)+(if 0 < P.lv then 1 else 0)),hp)=_
   rw [Int.add_comm,show ((if 0 < P.lv then (1:Int) else 0)+(half:Int))=(cu:Int) from QgJ P]
  have nw:Q3 (Qc (Qf ixG (Qb 3) (eC (.int 0))) (Qc (eSl (Qf ixG (Qb 3) (eC (.int 1))) (Zk (Qb 7)) Zj) (Qc (eSl (Qf ixG (Qb 3) (eC (.int 2))) (Zk (Qb 7)) Zj) (Qc (Qf ixG (Qb 3) (eC (.int 3))) (Qc (Qf ixG (Qb 3) (eC (.int 4))) Qm))))) e7 hp=some (pgD (TR.Q6 P),hp):=Zr (jh (Qh (Qe rfl) rfl (YU P hp)) (vX (Qh (Qe rfl) rfl (XD P hp)) (Qe rfl)) (vX (Qh (Qe rfl) rfl (qK P hp)) (Qe rfl)) (Qh (Qe rfl) rfl (jG P hp)) (Qh (Qe rfl) rfl (zB P hp))) (by simp)
  have s1:=xV (o:=Qf ixG (Qb 0) (eC (.str "pages"))) (env:=e7) (A.read rfl (JC ..)) A.a2 nw (by rw [List.length_map];omega)
  have ep:S.pg.map pgD++[pgD (TR.Q6 P)]=(S.pg++[TR.Q6 P]).map pgD:=by simp
  rw [ep] at s1
  have A1:=A.page (S':={ S with pg:=S.pg++[TR.Q6 P] }) D rfl rfl
  let w1:Hs:=hp.set pl (.lst ((S.pg++[TR.Q6 P]).map pgD))
  have od:Q3 (Qc (Qf ixG (Qb 3) (eC (.int 0))) (Qc (eSl (Qf ixG (Qb 3) (eC (.int 1))) Zj (Zk (Qb 4))) (Qc (eSl (Qf ixG (Qb 3) (eC (.int 2))) Zj (Zk (Qb 7))) (Qc (Qb 5) (Qc (Qb 6) Qm))))) e7 w1=some (pgD (TR.Zq P N),w1):=Zr (jh (Qh (Qe rfl) rfl (YU P w1)) (vY (a:=half) (Qh (Qe rfl) rfl (XD P w1)) (Qe rfl)) (vY (a:=cu) (Qh (Qe rfl) rfl (qK P w1)) (Qe rfl)) (Qe rfl) (Qe rfl)) (by simp)
  have s2:=gz (o:=Qf ixG (Qb 0) (eC (.str "pages"))) (j:=Qb 2) (env:=e7) (n:=n) od (A1.read rfl (JC ..)) (Qe rfl) A1.a2 (by simp;omega)
  rw [<- List.map_set] at s2
  let S2:TR.Sh:={ S with pg:=(S.pg++[TR.Q6 P]).set n (TR.Zq P N),wr:=S.wr+1+1 }
  have A2:=A1.page (S':=S2) D rfl rfl
  have s3:=Jv (e:=eC (.int 2)) (o:=Qb 0) (x := "writings") (env:=e7) (d:=.int 2) rfl (Qe rfl) A2.a1 (Nat.le_trans (jJ ..) (by decide))
  rw [qi] at s3
  have A3:=A2.side (wr':=some 2) (S':=S2) D rfl
  have s4:=Jv (e:=Qb 5) (o:=Qb 1) (x := "aim") (env:=e7) (d:=.int key) (Qe rfl) (Qe rfl) A3.a3 (X0 ..)
  unfold ssW at s4
  rw [Qap] at s4
  have A4:=A3.state (w':={ w with aim:=key }) (fr':=fr) D rfl
  have s5:=Jv (e:=Qb 6) (o:=Qb 1) (x := "kid") (env:=e7) (d:=.int N) (Qe rfl) (Qe rfl) A4.a3 (X0 ..)
  unfold ssW at s5
  rw [QeP] at s5
  have A5:=A4.state (w':={ w with aim:=key,newp:=some N }) (fr':=fr) D rfl
  have lv1:∀ (w':Hs),Qf Zt (Qf ixG (Qb 3) (eC (.int 0))) (eC (.int 1)) e7 w'=some (.int ((P.lv+1:Nat):Int),w'):=fun w'=>Qh (Qh (Qe rfl) rfl (YU P w')) rfl (by show some (DV.int ((P.lv:Int)+1),w')=_;congr 3)
  have s6:=Jv (o:=Qb 1) (x := "level") (env:=e7) (lv1 _) (Qe rfl) A5.a3 (X0 ..)
  unfold ssW at s6
  rw [Qbp] at s6
  have A6:=A5.state (w':={ w with aim:=key,newp:=some N,goal:=P.lv+1 }) (fr':=fr) D rfl
  have gt:=ku (o:=Qf ixG (Qb 1) (eC (.str "ways"))) (env:=e7) (j:=P.lv+1) (A6.see rfl (Qaq ..)) A6.a4 (ZJ (lv1 _))
  have s7:=Jv (o:=Qb 1) (x := "here") (env:=e7) gt (Qe rfl) A6.a3 (X0 ..)
  unfold ssW at s7
  rw [xP] at s7
  have A7:=A6.state (w':={ w with newp:=some N,aim:=key,goal:=P.lv+1,place:=TR.Xx w.forks (P.lv+1) }) (fr':=fr) D rfl
  refine ⟨_,Qz (env:=e7) ((Qk ((QN t0).trans QO)).trans ((Qk u1).trans ((Qk u2).trans ((Qk u3).trans ((Qk u4).trans ((Qk (Xu s1)).trans ((Qk s2).trans ((Qk s3).trans ((Qk s4).trans ((Qk s5).trans ((Qk s6).trans ((Qk s7).trans (QD (Qe rfl)))))))))))))),?_,?_⟩
  ·have e:(S2.wr - S.wr)=2:=by show S.wr+1+1 - S.wr=2;omega
   show Sd _ s pl t y S2 _ (some (S2.wr - S.wr)) fr
   rw [e];exact A7
  ·have x:=fun {hp:Hs} {o:OV}=>Fx.set (hp:=hp) (o:=o) (s:=s) (pl:=pl) (t:=t) (y:=y) (.inr (.inl rfl))
   have x2:=fun {hp:Hs} {o:OV}=>Fx.set (hp:=hp) (o:=o) (s:=s) (pl:=pl) (t:=t) (y:=y) (.inl rfl)
   have x3:=fun {hp:Hs} {o:OV}=>Fx.set (hp:=hp) (o:=o) (s:=s) (pl:=pl) (t:=t) (y:=y) (.inr (.inr (.inl rfl)))
   exact x.trans (x.trans (x2.trans (x3.trans (x3.trans (x3.trans x3)))))
end
theorem zQ {t:DV->M Bool} {f:DV->M DV} {g:DV->DV} {hp:Hs} (ds:List DV) (ht:∀ d∈ds,t d hp=some (true,hp)) (hf:∀ d∈ds,f d hp=some (g d,hp)) (hl:ds.length < 100000):ZR (nxD ds) t f 100000 0 hp=some (ds.map g,hp):=by
  suffices h:∀ (m i n:Nat),m+i=ds.length->m < n->ZR (nxD ds) t f n i hp=some ((ds.drop i).map g,hp) by simpa using h ds.length 0 100000 rfl hl
  intro m
  induction m with
  | zero =>
    intro i n e hn'
    obtain ⟨n,rfl⟩:∃ k,n=k+1:=⟨n - 1,by omega⟩
    have:i=ds.length:=by omega
    subst this
    have e1:=XY ds ds.length (Nat.le_refl _) hp
    rw [show ds[ds.length]?=none by simp] at e1
    rw [ZR,Qi e1,List.drop_length];rfl
  | succ m ih =>
    intro i n e hn'
    obtain ⟨n,rfl⟩:∃ k,n=k+1:=⟨n - 1,by omega⟩
    have hlt:i < ds.length:=by omega
    have e1:=XY ds i (by omega) hp
    rw [List.getElem?_eq_getElem hlt] at e1
    rw [ZR,Qi e1]
    simp only
    rw [Qi (ht ds[i] (List.getElem_mem hlt)),List.drop_eq_getElem_cons hlt]
    simp only [if_true]
    rw [Qi (hf ds[i] (List.getElem_mem hlt)),Qi (ih (i+1) n (by omega) (by omega))];rfl
def Qet (k:Int):DV->Bool
 | .tup (.int a::_)=>!(a==k)
 | _=>false
theorem QcN (k:Int):∀ z:List (Int×Int),(prD z).filter (Qet k)=prD (z.filter fun q=>!(q.1==k))
  | []=>rfl
  | q::z=>by
    show List.filter (Qet k) (.tup [.int q.1,.int q.2]::prD z)=_
    have e:Qet k (.tup [.int q.1,.int q.2])=!(q.1==k):=rfl
    rw [List.filter_cons,List.filter_cons,e,QcN k z]
    cases (q.1==k)<;>rfl
theorem yT {p:TR.Pg} (h:p.ks.Pairwise (· < ·)) (hl:p.ps.length=p.ks.length) (k:Int):(TR.prs p).filter (fun q=>!(q.1==k))=TR.prs (TR.without p k):=by
 refine TR.qP ((TR.qM h).filter _) (TR.qM (TR.VD h k)) fun q=>?_
 obtain ⟨a,b⟩:=q
 rw [TR.ud h hl,List.mem_filter]
 simp [and_comm]
theorem QdT (z:List (Int×Int)):(prD z).map (fun d=>match d with | .tup [a,_]=>a | _=>DV.non)=(zK z).map .int:=by
 unfold prD zK;rw [List.map_map,List.map_map];rfl
theorem QeN (z:List (Int×Int)):(prD z).map (fun d=>match d with | .tup [_,b]=>b | _=>DV.non)=(zV z).map .int:=by
 unfold prD zV;rw [List.map_map,List.map_map];rfl
section
variable {hp hp' hp2:Hs} {s pl t y:Nat} {S:TR.Sh} {w:TR.Wk} {wr:Option Int} {fr:Bool} {n:Nat} {p:TR.Pg}
theorem QfI (A:Sd hp s pl t y S w (some 0) fr) (D:Ds s pl t y) (hn:n < S.pg.length) (hl:S.pg.length < 90000) (hz:p.lv=0) (so:p.ks.Pairwise (· < ·)) (hp5:p.ps.length=p.ks.length) (h50:p.ks.length<=50) (hlk:(p.hi=none/\p.sd=none)∨∃ x q,p.hi=some x/\p.sd=some q) :
    ∃ hp',qt [.ref s,.ref t,.int n,pgD p] hp=some (Ve (TR.Jz S w n p).1,hp')/\Sd hp' s pl t y (TR.Jz S w n p).2.1 (TR.Jz S w n p).2.2 (some ((TR.Jz S w n p).2.1.wr - S.wr)) fr/\Fx hp hp' s pl t y:=by
  have sok:=Qfe
  let w1:Hs:=hp++[.dic (zE (TR.prs p))]
  have A1:Sd w1 s pl t y S w (some 0) fr:=A.app _
  have F1:Fx hp w1 s pl t y:=Fx.app
  let old:=opt (TR.QV p w.aim)
  let dd:=ZM w.deed
  let e5:Sl->Sl->Sl->En:=fun z6 z7 z8=>[.val (.ref s),.val (.ref t),.val (.int n),.val (pgD p),.val dd,.val old,z6,z7,z8]
  have s1:QA 4 (Qf ixG (Qb 1) (eC (.str "deed"))) [.val (.ref s),.val (.ref t),.val (.int n),.val (pgD p),.un,.un,.un,.un,.un] hp=some ((.nx,[.val (.ref s),.val (.ref t),.val (.int n),.val (pgD p),.val dd,.un,.un,.un,.un]),hp):=QI (A.see rfl (QeO ..))
  have s2:QA 5 (JX "dict" J5 (zp (Qf ixG (Qb 3) (eC (.int 1))) (Qf ixG (Qb 3) (eC (.int 2)))) (Qc (Qf ixG (Qb 1) (eC (.str "aim"))) Qm)) [.val (.ref s),.val (.ref t),.val (.int n),.val (pgD p),.val dd,.un,.un,.un,.un] hp=some ((.nx,e5 .un .un .un),w1):=QI ((Qfs (Qe4 so hp5 (Qh (Qe rfl) rfl (XD p hp)) (Qh (Qe rfl) rfl (qK p hp))) (show (hp++[OV.dic (zE (TR.prs p))])[hp.length]?=some (.dic (zE (TR.prs p))) by simp) (A1.see rfl (jN ..))).trans (by rw [Qbw so]))
  have dw:∀ (z6 z7 z8:Sl) (w':Hs),Qf ixG (Qb 4) (eC (.int 0)) (e5 z6 z7 z8) w'=some (.str (zm w.deed),w'):=fun z6 z7 z8 w'=>Qh (Qe rfl) rfl (U9 w.deed w')
  have ok:PyData.strOk (zm w.deed)=true:=by cases w.deed<;>exact sok _ (by simp [zm])
  have tst:∀ (x:Str) (b:Bool) (z6 z7 z8:Sl) (w':Hs),PyData.strOk x=true->(zm w.deed==x)=b->eB (Qf eqG (Qf ixG (Qb 4) (eC (.int 0))) (eC (.str x))) (e5 z6 z7 z8) w'=some (b,w'):=fun x b z6 z7 z8 w' o2 e=>QR (Qh (dw z6 z7 z8 w') rfl (eqS w' ok o2 e))
  have w0:S.wr - S.wr=0:=by omega
  have go:∀ {g:DSx} {r:(Fl×En)×Hs},g (e5 .un .un .un) w1=some r->Qq (QA 4 (Qf ixG (Qb 1) (eC (.str "deed")))) (Qq (QA 5 (JX "dict" J5 (zp (Qf ixG (Qb 3) (eC (.int 1))) (Qf ixG (Qb 3) (eC (.int 2)))) (Qc (Qf ixG (Qb 1) (eC (.str "aim"))) Qm))) g) [.val (.ref s),.val (.ref t),.val (.int n),.val (pgD p),.un,.un,.un,.un,.un] hp=some r:=fun h=>(Qk s1).trans ((Qk s2).trans h)
  have ov:∀ (env:En) (w':Hs) (wk:TR.Wk) (S':TR.Sh) (wr':Option Int),env[1]?=some (.val (.ref t))->Sd w' s pl t y S' wk wr' fr->Zo (eC (.bl true)) (gSb (Qb 1) (eC (.str "over"))) env w'=some ((.nx,env),w'.set t (.dic (ssW y { wk with ended:=true } fr))):=fun env w' wk S' wr' he B=>by
    have:=Jv (e:=eC (.bl true)) (o:=Qb 1) (x := "over") (env:=env) (d:=.bl true) rfl (Qe he) B.a3 (X0 ..)
    unfold ssW at this
    rw [Ut] at this
    exact this
  have Ft:∀ {h:Hs} {o:OV},Fx h (h.set t o) s pl t y:=Fx.set (.inr (.inr (.inl rfl)))
  unfold TR.Jz
  cases hd:w.deed with
  | put k x =>
    have t1:=tst "put" true .un .un .un w1 (sok _ (by simp)) (by rw [hd];show (("put" : Str)==("put" : Str))=true;decide)
    obtain ⟨o,ew⟩:=Qbt hz so hp5 (by omega) w.aim x w1
    let w':TR.Wk:={ deed:=.put k x,aim:=w.aim,goal:=w.goal,place:=w.place,forks:=w.forks,newp:=w.newp,worth:=TR.QV p w.aim,pairs:=w.pairs,ended:=w.ended }
    have e9:ssW y w fr=ssW y w' fr:=by unfold ssW;rw [hd]
    have A2:Sd (w1++[o]) s pl t y S w' (some 0) fr:=let B:=A1.app [o];⟨B.a1,B.a2,B.a3.trans (by rw [e9]),B.a4⟩
    have lk:(TR.QY p w.aim x).ks.length<=52:=by
      show (p.ks.take _++w.aim::p.ks.drop _).length<=52
      have:=TR.j1 p.ks w.aim
      simp;omega
    obtain ⟨hp3,e3,A3,F3⟩:=Qfa A2 D (P:=TR.QY p w.aim x) hn hl (by omega) (fun _=>by show 1<=(p.ks.take _++w.aim::p.ks.drop _).length;rw [List.length_append,List.length_cons];omega)
    have x2:∀ w':Hs,Qf ixG (Qb 4) (eC (.int 2)) (e5 .un .un .un) w'=some (.int x,w'):=fun w'=>Qh (Qe rfl) rfl (by show ixG (ZM w.deed) _ _=_;rw [hd];exact ZV (i:=2) rfl w')
    have cw:Qu 3 Jg (Qc (Qb 3) (Qc (Qf ixG (Qb 1) (eC (.str "aim"))) (Qc (Qf ixG (Qb 4) (eC (.int 2))) Qm))) (e5 .un .un .un) w1=some (pgD (TR.QY p w.aim x),w1++[o]):=QW (ZK (Qe rfl) (A1.see rfl (jN ..)) (x2 w1)) rfl ew
    have cp:Qu 4 Xb (Qc (Qb 0) (Qc (Qb 1) (Qc (Qb 2) (Qc (Qu 3 Jg (Qc (Qb 3) (Qc (Qf ixG (Qb 1) (eC (.str "aim"))) (Qc (Qf ixG (Qb 4) (eC (.int 2))) Qm)))) Qm)))) (e5 .un .un .un) w1=some (_,hp3):=QW (yw (Qe rfl) (Qe rfl) (Qe rfl) cw) rfl e3
    refine ⟨hp3,Qz (env:=e5 .un .un .un) (go (QT ((Q9 t1).trans (QD (Zr (yw rfl (Qe rfl) (Qe rfl) cp) (by simp)))))),?_,(F1.trans Fx.app).trans F3⟩
    exact A3
  | stretch l h =>
    have t1:=tst "put" false .un .un .un w1 (sok _ (by simp)) (by rw [hd];show (("stretch" : Str)==("put" : Str))=false;decide)
    have t2:=tst "stretch" true .un .un .un w1 (sok _ (by simp)) (by rw [hd];show (("stretch" : Str)==("stretch" : Str))=true;decide)
    have d1:∀ (z6 z7 z8:Sl) (w':Hs),Qf ixG (Qb 4) (eC (.int 1)) (e5 z6 z7 z8) w'=some (.int l,w'):=fun _ _ _ w'=>Qh (Qe rfl) rfl (by show ixG (ZM w.deed) _ _=_;rw [hd];exact ZV (i:=1) rfl w')
    have d2:∀ (z6 z7 z8:Sl) (w':Hs),Qf ixG (Qb 4) (eC (.int 2)) (e5 z6 z7 z8) w'=some (.int h,w'):=fun _ _ _ w'=>Qh (Qe rfl) rfl (by show ixG (ZM w.deed) _ _=_;rw [hd];exact ZV (i:=2) rfl w')
    let prs:=DV.tup (prD (TR.QZ p l h))
    have s3:QA 6 (Qu 3 Xa (Qc (Qb 3) (Qc (Qf ixG (Qb 4) (eC (.int 1))) (Qc (Qf ixG (Qb 4) (eC (.int 2))) Qm)))) (e5 .un .un .un) w1=some ((.nx,e5 (.val prs) .un .un),w1):=QI (QW (ZK (Qe rfl) (d1 _ _ _ _) (d2 _ _ _ _)) rfl (Qee p l h (by omega) w1))
    have hi3:∀ (w':Hs),Qf ixG (Qb 3) (eC (.int 3)) (e5 (.val prs) .un .un) w'=some (opt p.hi,w'):=fun w'=>Qh (Qe rfl) rfl (jG p w')
    have sd4:∀ (w':Hs),Qf ixG (Qb 3) (eC (.int 4)) (e5 (.val prs) .un .un) w'=some (oN p.sd,w'):=fun w'=>Qh (Qe rfl) rfl (zB p w')
    have pre:∀ {g g':DSx} {r:(Fl×En)×Hs},g (e5 (.val prs) .un .un) w1=some (r)->(∃ d,r.1.1=.rt d)->Qq (sIf (eB (Qf eqG (Qf ixG (Qb 4) (eC (.int 0))) (eC (.str "put")))) (QJ (Q3 (Qc (eC (.str "put")) (Qc (Qb 2) (Qc (Qb 5) (Qc (Qu 4 Xb (Qc (Qb 0) (Qc (Qb 1) (Qc (Qb 2) (Qc (Qu 3 Jg (Qc (Qb 3) (Qc (Qf ixG (Qb 1) (eC (.str "aim"))) (Qc (Qf ixG (Qb 4) (eC (.int 2))) Qm)))) Qm))))) Qm)))))) Q5) (Qq (sIf (eB (Qf eqG (Qf ixG (Qb 4) (eC (.int 0))) (eC (.str "stretch")))) (Qq (QA 6 (Qu 3 Xa (Qc (Qb 3) (Qc (Qf ixG (Qb 4) (eC (.int 1))) (Qc (Qf ixG (Qb 4) (eC (.int 2))) Qm))))) g) Q5) g') (e5 .un .un .un) w1=some r:=fun {g g' r} hg hr=>by
      obtain ⟨⟨fl,en⟩,h9⟩:=r
      obtain ⟨d,rfl⟩:=hr
      exact (Qk ((QN t1).trans QO)).trans (QT ((Q9 t2).trans ((Qk s3).trans hg)))
    have stop:∀ c:Bool,eOr (eB (Qf isD (Qf ixG (Qb 3) (eC (.int 3))) (eC .non))) (eB (Qf geD (Qf ixG (Qb 3) (eC (.int 3))) (Qf ixG (Qb 4) (eC (.int 2))))) (e5 (.val prs) .un .un) w1=some (true,w1)->∃ hp',qt [.ref s,.ref t,.int n,pgD p] hp=some (Ve (.read n (TR.QZ p l h) none),hp')/\Sd hp' s pl t y S { w with ended:=true } (some 0) fr/\Fx hp hp' s pl t y:=fun c hc =>
      ⟨_,Qz (env:=e5 (.val prs) .un .un) (go (pre (QT ((Q9 hc).trans ((Qk (ov _ w1 w S _ rfl A1)).trans (QD (Zr (jh rfl (Qe rfl) (Qe rfl) rfl rfl) (by simp)))))) ⟨_,rfl⟩)),A1.state D rfl,F1.trans Ft⟩
    rcases hlk with ⟨a1,a2⟩ | ⟨x,q,a1,a2⟩
    . obtain ⟨hp',e,A',F'⟩:=stop true (kD (QR (b:=true) (Qh (hi3 w1) rfl (by rw [a1];rfl))))
      simp only [a1,a2]
      refine ⟨hp',e,?_,F'⟩
      show Sd hp' s pl t y S _ (some (S.wr - S.wr)) fr
      rw [w0]
      have e9:ssW y ({ w with ended:=true }:TR.Wk) fr=ssW y ({ deed:=.stretch l h,aim:=w.aim,goal:=w.goal,place:=w.place,forks:=w.forks,newp:=w.newp,worth:=w.worth,pairs:=w.pairs++TR.QZ p l h,ended:=true }:TR.Wk) fr:=by unfold ssW;rw [show ({ w with ended:=true }:TR.Wk).deed=.stretch l h from hd]
      exact ⟨A'.a1,A'.a2,A'.a3.trans (by rw [e9]),A'.a4⟩
    . simp only [a1,a2]
      have f1:=QR (b:=false) (Qh (hi3 w1) (rfl:eC .non (e5 (.val prs) .un .un) w1=some (.non,w1)) (show isD (opt p.hi) .non w1=some (.bl false,w1) by rw [a1];rfl))
      by_cases hx:h<=x
      . rw [if_pos hx]
        obtain ⟨hp',e,A',F'⟩:=stop true ((jm f1).trans (QR (b:=true) (Qh (x:=.int x) ((hi3 w1).trans (by rw [a1];rfl)) (d2 _ _ _ _) (by rw [Z7,decide_eq_true hx];rfl))))
        refine ⟨hp',e,?_,F'⟩
        show Sd hp' s pl t y S _ (some (S.wr - S.wr)) fr
        rw [w0]
        have e9:ssW y ({ w with ended:=true }:TR.Wk) fr=ssW y ({ deed:=.stretch l h,aim:=w.aim,goal:=w.goal,place:=w.place,forks:=w.forks,newp:=w.newp,worth:=w.worth,pairs:=w.pairs++TR.QZ p l h,ended:=true }:TR.Wk) fr:=by unfold ssW;rw [show ({ w with ended:=true }:TR.Wk).deed=.stretch l h from hd]
        exact ⟨A'.a1,A'.a2,A'.a3.trans (by rw [e9]),A'.a4⟩
      . rw [if_neg hx]
        have gf:geD (.int x) (.int h) w1=some (.bl false,w1):=by rw [Z7,decide_eq_false hx];rfl
        have tf:=(jm f1).trans (QR (b:=false) (Qh (x:=.int x) (y:=.int h) ((hi3 w1).trans (by rw [a1];rfl)) (d2 (.val prs) .un .un w1) gf))
        have u1:=Jv (o:=Qb 1) (x := "aim") (env:=e5 (.val prs) .un .un) (d:=.int x) ((hi3 w1).trans (by rw [a1];rfl)) (Qe rfl) A1.a3 (X0 ..)
        unfold ssW at u1
        rw [Qap] at u1
        have B1:=A1.state (w':={ w with aim:=x }) (fr':=fr) D rfl
        have u2:=Jv (o:=Qb 1) (x := "here") (env:=e5 (.val prs) .un .un) (d:=oN (some q)) ((sd4 _).trans (by rw [a2])) (Qe rfl) B1.a3 (X0 ..)
        unfold ssW at u2
        rw [xP] at u2
        have B2:=B1.state (w':={ w with aim:=x,place:=some q }) (fr':=fr) D rfl
        refine ⟨_,Qz (env:=e5 (.val prs) .un .un) (go (pre ((Qk ((QN tf).trans QO)).trans ((Qk u1).trans ((Qk u2).trans (QD (Zr (jh rfl (Qe rfl) (Qe rfl) ((sd4 _).trans (by rw [a2];rfl)) ((hi3 _).trans (by rw [a1];rfl))) (by simp)))))) ⟨_,rfl⟩)),?_,(F1.trans Ft).trans Ft⟩
        show Sd _ s pl t y S _ (some (S.wr - S.wr)) fr
        rw [w0]
        have e9:ssW y ({ w with aim:=x,place:=some q }:TR.Wk) fr=ssW y ({ deed:=.stretch l h,aim:=x,goal:=w.goal,place:=some q,forks:=w.forks,newp:=w.newp,worth:=w.worth,pairs:=w.pairs++TR.QZ p l h,ended:=w.ended }:TR.Wk) fr:=by unfold ssW;rw [show ({ w with aim:=x,place:=some q }:TR.Wk).deed=.stretch l h from hd]
        exact ⟨B2.a1,B2.a2,B2.a3.trans (by rw [e9]),B2.a4⟩
  | find k =>
    have t1:=tst "put" false .un .un .un w1 (sok _ (by simp)) (by rw [hd];show (("find" : Str)==("put" : Str))=false;decide)
    have t2:=tst "stretch" false .un .un .un w1 (sok _ (by simp)) (by rw [hd];show (("find" : Str)==("stretch" : Str))=false;decide)
    have B:=A1.state (w':={ w with ended:=true }) (fr':=fr) D rfl
    have t3:=tst "find" true .un .un .un (w1.set t (.dic (ssW y { w with ended:=true } fr))) (sok _ (by simp)) (by rw [hd];show (("find" : Str)==("find" : Str))=true;decide)
    refine ⟨_,Qz (env:=e5 .un .un .un) (go ((Qk ((QN t1).trans QO)).trans ((Qk ((QN t2).trans QO)).trans ((Qk (ov _ w1 w S _ rfl A1)).trans (QT ((Q9 t3).trans (QD (Zr (ZK rfl (Qe rfl) (Qe rfl)) (by simp))))))))),?_,F1.trans Ft⟩
    show Sd _ s pl t y S _ (some (S.wr - S.wr)) fr
    rw [w0]
    have e9:ssW y ({ w with ended:=true }:TR.Wk) fr=ssW y ({ deed:=.find k,aim:=w.aim,goal:=w.goal,place:=w.place,forks:=w.forks,newp:=w.newp,worth:=TR.QV p w.aim,pairs:=w.pairs,ended:=true }:TR.Wk) fr:=by unfold ssW;rw [show ({ w with ended:=true }:TR.Wk).deed=.find k from hd]
    exact ⟨B.a1,B.a2,B.a3.trans (by rw [e9]),B.a4⟩
  | cut k =>
    have t1:=tst "put" false .un .un .un w1 (sok _ (by simp)) (by rw [hd];show (("cut" : Str)==("put" : Str))=false;decide)
    have t2:=tst "stretch" false .un .un .un w1 (sok _ (by simp)) (by rw [hd];show (("cut" : Str)==("stretch" : Str))=false;decide)
    have B:=A1.state (w':={ w with ended:=true }) (fr':=fr) D rfl
    let w2:Hs:=w1.set t (.dic (ssW y { w with ended:=true } fr))
    have t3:=tst "find" false .un .un .un w2 (sok _ (by simp)) (by rw [hd];show (("cut" : Str)==("find" : Str))=false;decide)
    have e9:ssW y ({ w with ended:=true }:TR.Wk) fr=ssW y ({ deed:=.cut k,aim:=w.aim,goal:=w.goal,place:=w.place,forks:=w.forks,newp:=w.newp,worth:=TR.QV p w.aim,pairs:=w.pairs,ended:=true }:TR.Wk) fr:=by unfold ssW;rw [show ({ w with ended:=true }:TR.Wk).deed=.cut k from hd]
    have pre:∀ {g:DSx} {r:(Fl×En)×Hs},g (e5 .un .un .un) w2=some r->Qq (sIf (eB (Qf eqG (Qf ixG (Qb 4) (eC (.int 0))) (eC (.str "put")))) (QJ (Q3 (Qc (eC (.str "put")) (Qc (Qb 2) (Qc (Qb 5) (Qc (Qu 4 Xb (Qc (Qb 0) (Qc (Qb 1) (Qc (Qb 2) (Qc (Qu 3 Jg (Qc (Qb 3) (Qc (Qf ixG (Qb 1) (eC (.str "aim"))) (Qc (Qf ixG (Qb 4) (eC (.int 2))) Qm)))) Qm))))) Qm)))))) Q5) (Qq (sIf (eB (Qf eqG (Qf ixG (Qb 4) (eC (.int 0))) (eC (.str "stretch")))) (Qq (QA 6 (Qu 3 Xa (Qc (Qb 3) (Qc (Qf ixG (Qb 4) (eC (.int 1))) (Qc (Qf ixG (Qb 4) (eC (.int 2))) Qm))))) (Qq (sIf (eOr (eB (Qf isD (Qf ixG (Qb 3) (eC (.int 3))) (eC .non))) (eB (Qf geD (Qf ixG (Qb 3) (eC (.int 3))) (Qf ixG (Qb 4) (eC (.int 2)))))) (Qq (Zo (eC (.bl true)) (gSb (Qb 1) (eC (.str "over")))) (QJ (Q3 (Qc (eC (.str "read")) (Qc (Qb 2) (Qc (Qb 6) (Qc (eC .non) (Qc (eC .non) Qm)))))))) Q5) (Qq (Zo (Qf ixG (Qb 3) (eC (.int 3))) (gSb (Qb 1) (eC (.str "aim")))) (Qq (Zo (Qf ixG (Qb 3) (eC (.int 4))) (gSb (Qb 1) (eC (.str "here")))) (QJ (Q3 (Qc (eC (.str "read")) (Qc (Qb 2) (Qc (Qb 6) (Qc (Qf ixG (Qb 3) (eC (.int 4))) (Qc (Qf ixG (Qb 3) (eC (.int 3))) Qm))))))))))) Q5) (Qq (Zo (eC (.bl true)) (gSb (Qb 1) (eC (.str "over")))) (Qq (sIf (eB (Qf eqG (Qf ixG (Qb 4) (eC (.int 0))) (eC (.str "find")))) (QJ (Q3 (Qc (eC (.str "found")) (Qc (Qb 2) (Qc (Qb 5) Qm))))) Q5) g))) (e5 .un .un .un) w1=some r:=fun hg =>
      (Qk ((QN t1).trans QO)).trans ((Qk ((QN t2).trans QO)).trans ((Qk (ov _ w1 w S _ rfl A1)).trans ((Qk ((QN t3).trans QO)).trans hg)))
    dsimp only
    cases hw:TR.QV p w.aim with
    | none =>
      have t4:eB (Qf Yt (Qb 5) (eC .non)) (e5 .un .un .un) w2=some (false,w2):=QR (b:=false) (Qh (x:=old) (Qe rfl) rfl (by show Yt (opt (TR.QV p w.aim)) .non w2=_;rw [hw];rfl))
      rw [hw] at e9
      refine ⟨w2,Qz (env:=e5 .un .un .un) (go (pre ((Qk ((QN t4).trans QO)).trans (QD ((Zr (ZK rfl (Qe rfl) (Qe rfl)) (by simp)).trans (by show some (DV.tup [.str "cut", .int n,opt (TR.QV p w.aim)],w2)=_;rw [hw];rfl)))))),?_,F1.trans Ft⟩
      show Sd _ s pl t y S _ (some (S.wr - S.wr)) fr
      rw [w0]
      exact ⟨B.a1,B.a2,B.a3.trans (by rw [e9]),B.a4⟩
    | some v =>
      have t4:eB (Qf Yt (Qb 5) (eC .non)) (e5 .un .un .un) w2=some (true,w2):=QR (b:=true) (Qh (x:=old) (Qe rfl) rfl (by show Yt (opt (TR.QV p w.aim)) .non w2=_;rw [hw];rfl))
      let q:=TR.without p w.aim
      let z:=TR.prs q
      have lq:q.ps.length=q.ks.length:=by
        show (p.ps.take _++p.ps.drop _).length=(p.ks.take _++p.ks.drop _).length
        simp [hp5]
      obtain ⟨zk,zv⟩:=QcO lq
      have hz':z.length<=60:=by
        show (TR.prs q).length<=60
        rw [<- yT so hp5]
        refine Nat.le_trans (List.length_filter_le _ _) ?_
        unfold TR.prs;rw [List.length_zip];omega
      have c3:X5 (e5 .un .un .un) w2=some (.lst (prD z),w2):=by
        have e0:yd (Qf ixG (Qb 3) (eC (.int 1))) (Qf ixG (Qb 3) (eC (.int 2))) (e5 .un .un .un) w2=some (prD (TR.prs p),w2):=(Gd (Qh (Qe rfl) rfl (XD p w2)) (Qh (Qe rfl) rfl (qK p w2))).trans (by rw [Vt];rfl)
        have e2:=xY (hp:=w2) (t:=fun d=>eB (Qf neG (Qf ixG (Qb 0) (eC (.int 0))) (Qf ixG (Qb 1) (eC (.str "aim")))) (cE [1] (e5 .un .un .un) d)) (f:=fun d=>Qb 0 (cE [1] (e5 .un .un .un) d)) (p:=Qet w.aim) (prD (TR.prs p)) (fun d hd=>by
          obtain ⟨u,_,rfl⟩:=List.mem_map.mp hd
          exact QR (Qh (Qh (Qe rfl) rfl (ZV (i:=0) rfl w2)) (B.see rfl (jN ..)) (neI _ _ w2))) (fun d hd=>rfl) (by rw [qL];unfold TR.prs;rw [List.length_zip];omega)
        rw [QcN,yT so hp5] at e2
        unfold X5 ZN
        rw [Qi (UB e0),Qi (show ZR _ _ _ lim 0 w2=_ from e2)];rfl
      let e7:Sl->En:=fun z8=>e5 .un (.val (.lst (prD z))) z8
      have u1:QA 7 X5 (e5 .un .un .un) w2=some ((.nx,e7 .un),w2):=QI c3
      have c2:X4 (e7 .un) w2=some (.lst (q.ks.map .int),w2):=by
        have cx:=zQ (hp:=w2) (t:=fun d=>jf (cE [] (e7 .un) d)) (f:=fun d=>Qf ixG (Qb 0) (eC (.int 0)) (cE [] (e7 .un) d)) (g:=fun d=>match d with | .tup [a,_]=>a | _=>DV.non) (prD z) (fun _ _=>rfl) (fun d hd=>by
          obtain ⟨u,_,rfl⟩:=List.mem_map.mp hd
          exact Qh (Qe rfl) rfl (ZV (i:=0) rfl w2)) (by rw [qL];omega)
        rw [QdT,zk] at cx
        unfold X4 ZN
        rw [Qi (xT (hp1:=w2) (Qe rfl)),Qi (show ZR _ _ _ lim 0 w2=_ from cx)];rfl
      have u2:QA 8 (Zl yu (Qc X4 Qm)) (e7 .un) w2=some ((.nx,e7 (.val (.tup (q.ks.map .int)))),w2):=QI (JD (ZJ c2) rfl)
      have c1:X3 (e7 (.val (.tup (q.ks.map .int)))) w2=some (.lst (q.ps.map .int),w2):=by
        have cx:=zQ (hp:=w2) (t:=fun d=>jf (cE [] (e7 (.val (.tup (q.ks.map .int)))) d)) (f:=fun d=>Qf ixG (Qb 0) (eC (.int 1)) (cE [] (e7 (.val (.tup (q.ks.map .int)))) d)) (g:=fun d=>match d with | .tup [_,b]=>b | _=>DV.non) (prD z) (fun _ _=>rfl) (fun d hd=>by
          obtain ⟨u,_,rfl⟩:=List.mem_map.mp hd
          exact Qh (Qe rfl) rfl (ZV (i:=1) rfl w2)) (by rw [qL];omega)
        rw [QeN,zv] at cx
        unfold X3 ZN
        rw [Qi (xT (hp1:=w2) (Qe rfl)),Qi (show ZR _ _ _ lim 0 w2=_ from cx)];rfl
      let e8:=e7 (.val (.tup (q.ks.map .int)))
      have pg:Q3 (Qc (eC (.int 0)) (Qc (Qb 8) (Qc (Zl yu (Qc X3 Qm)) (Qc (Qf ixG (Qb 3) (eC (.int 3))) (Qc (Qf ixG (Qb 3) (eC (.int 4))) Qm))))) e8 w2=some (pgD q,w2):=(Zr (jh rfl (Qe rfl) (JD (ZJ c1) rfl) (Qh (Qe rfl) rfl (jG p w2)) (Qh (Qe rfl) rfl (zB p w2))) (by simp)).trans (by
        show some (DV.tup [.int 0,.tup (q.ks.map .int),.tup (q.ps.map .int),opt p.hi,oN p.sd],w2)=some (pgD q,w2)
        unfold pgD
        rw [show q.lv=0 from hz];rfl)
      have u3:=gz (o:=Qf ixG (Qb 0) (eC (.str "pages"))) (j:=Qb 2) (env:=e8) (n:=n) pg (B.read rfl (JC ..)) (Qe rfl) B.a2 (by rw [List.length_map];exact hn)
      rw [<- List.map_set] at u3
      let S2:TR.Sh:={ S with pg:=S.pg.set n q,wr:=S.wr+1 }
      have B2:=B.page (S':=S2) D rfl rfl
      have u4:=Jv (e:=eC (.int 1)) (o:=Qb 0) (x := "writings") (env:=e8) (d:=.int 1) rfl (Qe rfl) B2.a1 (Nat.le_trans (jJ ..) (by decide))
      rw [qi] at u4
      have B3:=B2.side (wr':=some 1) (S':=S2) D rfl
      rw [hw] at e9
      refine ⟨_,Qz (env:=e8) (go (pre ((Qk ((Q9 t4).trans ((Qk u1).trans ((Qk u2).trans ((Qk u3).trans u4))))).trans (QD ((Zr (ZK rfl (Qe rfl) (Qe rfl)) (by simp)).trans (by show some (DV.tup [.str "cut", .int n,opt (TR.QV p w.aim)],_)=_;rw [hw];rfl)))))),?_,((F1.trans Ft).trans (Fx.set (.inr (.inl rfl)))).trans (Fx.set (.inl rfl))⟩
      rw [if_pos (show (some v).isSome=true from rfl)]
      have e:(S2.wr - S.wr)=1:=by show S.wr+1 - S.wr=1;omega
      show Sd _ s pl t y S2 _ (some (S2.wr - S.wr)) fr
      rw [e]
      exact ⟨B3.a1,B3.a2,B3.a3.trans (by rw [e9]),B3.a4⟩
end
section
variable {hp hp' hp2:Hs} {s pl t y:Nat} {S S':TR.Sh} {w w':TR.Wk} {wr:Option Int} {fr:Bool} {bg:TR.Bg} {r:TR.Row}
theorem QgL (T:TR.Tree S bg) (W:TR.WOk S bg w) (A:Sd hp s pl t y S w wr fr) (D:Ds s pl t y) (hr:S.room<=50) (hl:S.pg.length < 90000) (hf:w.forks.length < 5000) (hs:TR.qZ S w=some (r,S',w')) (he:w.ended=false) :
    ∃ hp',Ye [.ref s,.ref t] hp=some (Ve r,hp')/\Sd hp' s pl t y S' w' (some (S'.wr - S.wr)) fr/\Fx hp hp' s pl t y:=by
  obtain ⟨n,hn0,hpl⟩:∃ n,w.place.getD S.top=n/\(w.place=some n∨(w.place=none/\n=S.top)):=by
    cases e:w.place with
    | none=>exact ⟨S.top,rfl,.inr ⟨rfl,rfl⟩⟩
    | some m=>exact ⟨m,rfl,.inl rfl⟩
  obtain ⟨p,hn⟩:∃ p,S.pg[n]?=some p:=by
    rcases hpl with hp | ⟨_,rfl⟩
    . obtain ⟨p,a,_⟩:=W.at_ n hp;exact ⟨p,a⟩
    . obtain ⟨p,a,_⟩:=T.root;exact ⟨p,a⟩
  have ln:=TR.JL hn
  have ok:=T.page n p hn
  have few:=ok.few
  let w1:Hs:=hp.set s (.dic (sdD pl S.top S.room (some 0)))
  have A1:Sd w1 s pl t y S w (some 0) fr:=A.side (S':=S) D rfl
  have Fs:∀ {h:Hs} {o:OV},Fx h (h.set s o) s pl t y:=Fx.set (.inl rfl)
  have Fp:∀ {h:Hs} {o:OV},Fx h (h.set pl o) s pl t y:=Fx.set (.inr (.inl rfl))
  have Ft:∀ {h:Hs} {o:OV},Fx h (h.set t o) s pl t y:=Fx.set (.inr (.inr (.inl rfl)))
  have Fy:∀ {h:Hs} {o:OV},Fx h (h.set y o) s pl t y:=Fx.set (.inr (.inr (.inr rfl)))
  have u1:Zo (eC (.int 0)) (gSb (Qb 0) (eC (.str "writings"))) [.val (.ref s),.val (.ref t),.un,.un] hp=some ((.nx,[.val (.ref s),.val (.ref t),.un,.un]),w1):=by
    have:=Jv (e:=eC (.int 0)) (o:=Qb 0) (x := "writings") (env:=[.val (.ref s),.val (.ref t),.un,.un]) (d:=.int 0) rfl (Qe rfl) A.a1 (Nat.le_trans (jJ ..) (by decide))
    rw [qi] at this;exact this
  have u2:sIf (eB (Qf ixG (Qb 1) (eC (.str "over")))) (QJ (eC .non)) Q5 [.val (.ref s),.val (.ref t),.un,.un] w1=some ((.nx,[.val (.ref s),.val (.ref t),.un,.un]),w1):=(QN (QR (A1.see rfl ((Vs ..).trans (by rw [he]))))).trans QO
  have u3:QA 2 (Qf ixG (Qb 1) (eC (.str "here"))) [.val (.ref s),.val (.ref t),.un,.un] w1=some ((.nx,[.val (.ref s),.val (.ref t),.val (oN w.place),.un]),w1):=QI (A1.see rfl (Qao ..))
  have u4:sIf (eB (Qf isD (Qb 2) (eC .non))) (QA 2 (Qf ixG (Qb 0) (eC (.str "root")))) Q5 [.val (.ref s),.val (.ref t),.val (oN w.place),.un] w1=some ((.nx,[.val (.ref s),.val (.ref t),.val (.int n),.un]),w1):=by
    rcases hpl with hq | ⟨hq,e⟩
    . rw [hq]
      exact (QN (QR (b:=false) (Qh (x:=.int n) (Qe rfl) rfl rfl))).trans QO
    . rw [hq,e]
      exact (Q9 (QR (b:=true) (Qh (x:=.non) (Qe rfl) rfl rfl))).trans (QI (A1.read rfl (GG ..)))
  let e3:En:=[.val (.ref s),.val (.ref t),.val (.int n),.val (pgD p)]
  have u5:QA 3 (Qf ixG (Qf ixG (Qb 0) (eC (.str "pages"))) (Qb 2)) [.val (.ref s),.val (.ref t),.val (.int n),.un] w1=some ((.nx,e3),w1):=QI (Qh (A1.read rfl (JC ..)) (Qe rfl) (X8 (i:=n) A1.a2 (by rw [List.getElem?_map,hn];rfl)))
  have lvE:∀ w':Hs,Qf ixG (Qb 3) (eC (.int 0)) e3 w'=some (.int p.lv,w'):=fun w'=>Qh (Qe rfl) rfl (YU p w')
  have hiE:∀ w':Hs,Qf ixG (Qb 3) (eC (.int 3)) e3 w'=some (opt p.hi,w'):=fun w'=>Qh (Qe rfl) rfl (jG p w')
  have sdE:∀ w':Hs,Qf ixG (Qb 3) (eC (.int 4)) e3 w'=some (oN p.sd,w'):=fun w'=>Qh (Qe rfl) rfl (zB p w')
  have pre:∀ {g:DSx} {x:(Fl×En)×Hs},g e3 w1=some x->Qq (Zo (eC (.int 0)) (gSb (Qb 0) (eC (.str "writings")))) (Qq (sIf (eB (Qf ixG (Qb 1) (eC (.str "over")))) (QJ (eC .non)) Q5) (Qq (QA 2 (Qf ixG (Qb 1) (eC (.str "here")))) (Qq (sIf (eB (Qf isD (Qb 2) (eC .non))) (QA 2 (Qf ixG (Qb 0) (eC (.str "root")))) Q5) (Qq (QA 3 (Qf ixG (Qf ixG (Qb 0) (eC (.str "pages"))) (Qb 2))) g)))) [.val (.ref s),.val (.ref t),.un,.un] hp=some x:=fun h=>(Qk u1).trans ((Qk u2).trans ((Qk u3).trans ((Qk u4).trans ((Qk u5).trans h))))
  have ltT:∀ b:Bool,decide (p.lv < w.goal)=b->eB (Qf ltD (Qf ixG (Qb 3) (eC (.int 0))) (Qf ixG (Qb 1) (eC (.str "level")))) e3 w1=some (b,w1):=fun b hb=>QR (Qh (lvE w1) (A1.see rfl (v0 ..)) (by
    rw [Ja,<- hb]
    show some (DV.bl _,_)=_
    congr 3
    rw [decide_eq_decide];omega))
  unfold TR.qZ at hs
  rw [if_neg (by rw [he];simp),hn0] at hs
  simp only [hn] at hs
  by_cases hra:w.place=none/\p.lv < w.goal
  . rw [if_pos hra] at hs
    obtain ⟨k,q,a1,a2,a3,a4⟩:=W.tell (by omega)
    simp only [a1] at hs
    cases hs
    have htop:n=S.top:=by
      rcases hpl with hp | ⟨_,e⟩
      . rw [hra.1] at hp;cases hp
      . exact e
    subst htop
    let P:TR.Pg:=⟨p.lv+1,[w.aim],[(S.top:Int),(k:Int)],none,none⟩
    have t1:=ltT true (decide_eq_true hra.2)
    have gA:Q3 (Qc (Qf ixG (Qb 1) (eC (.str "aim"))) Qm) e3 w1=some (.tup [.int w.aim],w1):=Zr (ZJ (A1.see rfl (jN ..))) (Nat.le_of_ble_eq_true rfl)
    have gK:Q3 (Qc (Qb 2) (Qc (Qf ixG (Qb 1) (eC (.str "kid"))) Qm)) e3 w1=some (.tup [.int (S.top:Nat),.int (k:Nat)],w1):=Zr (ZQ (Qe rfl) (A1.see (d:=.int (k:Nat)) rfl (by unfold ssW;rw [a1];exact Qdj ..))) (Nat.le_of_ble_eq_true rfl)
    have pg:Q3 (Qc (Qf Zt (Qf ixG (Qb 3) (eC (.int 0))) (eC (.int 1))) (Qc (Q3 (Qc (Qf ixG (Qb 1) (eC (.str "aim"))) Qm)) (Qc (Q3 (Qc (Qb 2) (Qc (Qf ixG (Qb 1) (eC (.str "kid"))) Qm))) (Qc (eC .non) (Qc (eC .non) Qm))))) e3 w1=some (pgD P,w1):=Zr (jh (Qh (lvE w1) rfl (by show some (DV.int ((p.lv:Int)+1),w1)=some (.int ((p.lv+1:Nat):Int),w1);congr 3)) gA gK rfl rfl) (by simp)
    have v1:=xV (o:=Qf ixG (Qb 0) (eC (.str "pages"))) (env:=e3) (A1.read rfl (JC ..)) A1.a2 pg (by rw [List.length_map];omega)
    rw [show S.pg.map pgD++[pgD P]=(S.pg++[P]).map pgD by simp] at v1
    have A2:=A1.page (S':={ S with pg:=S.pg++[P] }) D rfl rfl
    have lnE:Qf yr (Zl Jr (Qc (Qf ixG (Qb 0) (eC (.str "pages"))) Qm)) (eC (.int 1)) e3 (w1.set pl (.lst ((S.pg++[P]).map pgD)))=some (.int (S.pg.length:Nat),(w1.set pl (.lst ((S.pg++[P]).map pgD)))):=Qh (JD (ZJ (A2.read rfl (JC ..))) (zx A2.a2)) rfl (by
      show some (DV.int ((((S.pg++[P]).map pgD).length:Int) - 1),_)=_
      rw [show ((((S.pg++[P]).map pgD).length:Int) - 1)=(S.pg.length:Int) by simp])
    have v2:=Jv (o:=Qb 0) (x := "root") (env:=e3) lnE (Qe rfl) A2.a1 (Nat.le_trans (jJ ..) (by decide))
    rw [Qc4] at v2
    let S2:TR.Sh:={ S with rd:=S.rd+1,pg:=S.pg++[P],top:=S.pg.length,wr:=S.wr+1 }
    have A3:=A2.side (S':=S2) (wr':=some 0) D rfl
    have v3:=Jv (e:=eC (.int 1)) (o:=Qb 0) (x := "writings") (env:=e3) (d:=.int 1) rfl (Qe rfl) A3.a1 (Nat.le_trans (jJ ..) (by decide))
    rw [qi] at v3
    have A4:=A3.side (S':=S2) (wr':=some 1) D rfl
    have v4:=Jv (e:=eC (.bl true)) (o:=Qb 1) (x := "over") (env:=e3) (d:=.bl true) rfl (Qe rfl) A4.a3 (X0 ..)
    unfold ssW at v4
    rw [Ut] at v4
    have A5:=A4.state (w':={ w with ended:=true }) (fr':=fr) D rfl
    refine ⟨_,Qz (env:=e3) (pre (QT ((Q9 t1).trans ((Qk (Xu v1)).trans ((Qk v2).trans ((Qk v3).trans ((Qk v4).trans (QD (Zr (ZK rfl (Qe rfl) (A5.read rfl (GG ..))) (by simp)))))))))),?_,((((Fs.trans Fp).trans Fs).trans Fs).trans Ft)⟩
    have e:(S2.wr - S.wr)=1:=by show S.wr+1 - S.wr=1;omega
    show Sd _ s pl t y S2 _ (some (S2.wr - S.wr)) fr
    rw [e,<- a1];exact A5
  . rw [if_neg hra] at hs
    have hg:w.goal<=p.lv:=by
      rcases hpl with hp | ⟨hp,_⟩
      . obtain ⟨p',b1,b2,_⟩:=W.at_ n hp
        rw [hn] at b1;cases b1;exact b2
      . exact Nat.le_of_not_lt fun h=>hra ⟨hp,h⟩
    have t1:=ltT false (decide_eq_false (by omega))
    have w0:S.wr - S.wr=0:=by omega
    have bey:∀ b:Bool,TR.JM p w.aim=b->Xf (eB (Qf Yt (Qf ixG (Qb 3) (eC (.int 3))) (eC .non))) (eB (Qf geD (Qf ixG (Qb 1) (eC (.str "aim"))) (Qf ixG (Qb 3) (eC (.int 3))))) e3 w1=some (b,w1):=fun b hb=>by
      unfold TR.JM at hb
      cases hh:p.hi with
      | none =>
        rw [hh] at hb
        subst hb
        exact K3 (QR (b:=false) (Qh (hiE w1) rfl (by rw [hh];rfl)))
      | some x =>
        rw [hh] at hb
        have g:geD (.int w.aim) (.int x) w1=some (.bl b,w1):=by rw [Z7,<- hb];rfl
        exact (K4 (QR (b:=true) (Qh (hiE w1) rfl (by rw [hh];rfl)))).trans (QR (Qh (A1.see rfl (jN ..)) ((hiE w1).trans (by rw [hh];rfl)) g))
    cases hb:TR.JM p w.aim with
    | true =>
      rw [hb,if_pos rfl] at hs
      cases hsd:p.sd with
      | none=>rw [hsd] at hs;cases hs
      | some q =>
        rw [hsd] at hs;cases hs
        have v1:=Jv (o:=Qb 1) (x := "here") (env:=e3) (d:=oN (some q)) ((sdE w1).trans (by rw [hsd])) (Qe rfl) A1.a3 (X0 ..)
        unfold ssW at v1
        rw [xP] at v1
        have A2:=A1.state (w':={ w with place:=some q }) (fr':=fr) D rfl
        refine ⟨_,Qz (env:=e3) (pre ((Qk ((QN t1).trans QO)).trans (QT ((Q9 (bey true hb)).trans ((Qk v1).trans (QD (Zr (ZK rfl (Qe rfl) ((sdE _).trans (by rw [hsd];rfl))) (by simp)))))))),?_,Fs.trans Ft⟩
        show Sd _ s pl t y _ _ (some (S.wr - S.wr)) fr
        rw [w0];exact ⟨A2.a1,A2.a2,A2.a3,A2.a4⟩
    | false =>
      rw [hb,if_neg (by simp)] at hs
      have gtT:∀ b:Bool,decide (w.goal < p.lv)=b->eB (Qf gtD (Qf ixG (Qb 3) (eC (.int 0))) (Qf ixG (Qb 1) (eC (.str "level")))) e3 w1=some (b,w1):=fun b hb=>QR (Qh (lvE w1) (A1.see rfl (v0 ..)) (by
        rw [Z9,<- hb]
        show some (DV.bl _,_)=_
        congr 3
        rw [decide_eq_decide];omega))
      by_cases hd:w.goal < p.lv
      . rw [if_pos hd] at hs
        cases hq:p.ps[TR.cLe p.ks w.aim]? with
        | none=>rw [hq] at hs;cases hs
        | some c0 =>
          rw [hq] at hs;cases hs
          obtain ⟨c,z,b1,b2,b3,_⟩:=T.kid n p hn (by omega) _ _ hq
          subst b1
          have v1:=QeA (e:=Qb 2) (o:=Qf ixG (Qb 1) (eC (.str "ways"))) (j:=Qf ixG (Qb 3) (eC (.int 0))) (env:=e3) (n:=p.lv) (d:=.int n) (Qe rfl) (A1.see rfl (Qaq ..)) (lvE w1) A1.a4 (by rw [kG];omega)
          rw [kH] at v1
          have A2:=A1.way (w':={ w with forks:=TR.je w.forks p.lv n }) D rfl
          let w2:Hs:=w1.set y (.dic (fkD (TR.je w.forks p.lv n)))
          have kd:Qf ixG (Qf ixG (Qb 3) (eC (.int 2))) (Qu 2 Yh (Qc (Qf ixG (Qb 3) (eC (.int 1))) (Qc (Qf ixG (Qb 1) (eC (.str "aim"))) Qm))) e3 w2=some (.int (c:Nat),w2):=Qh (Qh (Qe rfl) rfl (qK p w2)) (QW (ZQ (Qh (Qe rfl) rfl (XD p w2)) (A2.see rfl (jN ..))) rfl (QgE p.ks w.aim (by omega) w2)) (ZV (i:=TR.cLe p.ks w.aim) (by rw [List.getElem?_map,hq];rfl) w2)
          have v2:=Jv (o:=Qb 1) (x := "here") (env:=e3) kd (Qe rfl) A2.a3 (X0 ..)
          unfold ssW at v2
          rw [xP] at v2
          have A3:=A2.state (w':={ w with forks:=TR.je w.forks p.lv n,place:=some c }) (fr':=fr) D rfl
          refine ⟨_,Qz (env:=e3) (pre ((Qk ((QN t1).trans QO)).trans ((Qk ((QN (bey false hb)).trans QO)).trans (QT ((Q9 (gtT true (decide_eq_true hd))).trans ((Qk v1).trans ((Qk v2).trans (QD (Zr (ZK rfl (Qe rfl) (A3.see (d:=.int (c:Nat)) rfl (Qao ..))) (by simp)))))))))),?_,(Fs.trans Fy).trans Ft⟩
          show Sd _ s pl t y _ _ (some (S.wr - S.wr)) fr
          rw [w0]
          exact ⟨A3.a1,A3.a2,A3.a3.trans (by show _=some (OV.dic (ssW y ({ w with forks:=TR.je w.forks p.lv n,place:=some ((c:Int).toNat) }:TR.Wk) fr));rw [Int.toNat_natCast]),A3.a4⟩
      . rw [if_neg hd] at hs
        have t3:=gtT false (decide_eq_false hd)
        have eqT:∀ b:Bool,((p.lv:Int)==0)=b->eB (Qf eqG (Qf ixG (Qb 3) (eC (.int 0))) (eC (.int 0))) e3 w1=some (b,w1):=fun b hb=>QR (Qh (lvE w1) rfl ((eqI _ _ w1).trans (by rw [hb])))
        have pre2:∀ {g:DSx} {x:(Fl×En)×Hs},g e3 w1=some x->Qq (sIf (eB (Qf ltD (Qf ixG (Qb 3) (eC (.int 0))) (Qf ixG (Qb 1) (eC (.str "level"))))) (Qq (Jk (JX "list" Z3 (Qf ixG (Qb 0) (eC (.str "pages"))) (Qc (Q3 (Qc (Qf Zt (Qf ixG (Qb 3) (eC (.int 0))) (eC (.int 1))) (Qc (Q3 (Qc (Qf ixG (Qb 1) (eC (.str "aim"))) Qm)) (Qc (Q3 (Qc (Qb 2) (Qc (Qf ixG (Qb 1) (eC (.str "kid"))) Qm))) (Qc (eC .non) (Qc (eC .non) Qm)))))) Qm))) (Qq (Zo (Qf yr (Zl Jr (Qc (Qf ixG (Qb 0) (eC (.str "pages"))) Qm)) (eC (.int 1))) (gSb (Qb 0) (eC (.str "root")))) (Qq (Zo (eC (.int 1)) (gSb (Qb 0) (eC (.str "writings")))) (Qq (Zo (eC (.bl true)) (gSb (Qb 1) (eC (.str "over")))) (QJ (Q3 (Qc (eC (.str "raised")) (Qc (Qb 2) (Qc (Qf ixG (Qb 0) (eC (.str "root"))) Qm))))))))) Q5) (Qq (sIf (Xf (eB (Qf Yt (Qf ixG (Qb 3) (eC (.int 3))) (eC .non))) (eB (Qf geD (Qf ixG (Qb 1) (eC (.str "aim"))) (Qf ixG (Qb 3) (eC (.int 3)))))) (Qq (Zo (Qf ixG (Qb 3) (eC (.int 4))) (gSb (Qb 1) (eC (.str "here")))) (QJ (Q3 (Qc (eC (.str "side")) (Qc (Qb 2) (Qc (Qf ixG (Qb 3) (eC (.int 4))) Qm)))))) Q5) (Qq (sIf (eB (Qf gtD (Qf ixG (Qb 3) (eC (.int 0))) (Qf ixG (Qb 1) (eC (.str "level"))))) (Qq (Zo (Qb 2) (gSb (Qf ixG (Qb 1) (eC (.str "ways"))) (Qf ixG (Qb 3) (eC (.int 0))))) (Qq (Zo (Qf ixG (Qf ixG (Qb 3) (eC (.int 2))) (Qu 2 Yh (Qc (Qf ixG (Qb 3) (eC (.int 1))) (Qc (Qf ixG (Qb 1) (eC (.str "aim"))) Qm)))) (gSb (Qb 1) (eC (.str "here")))) (QJ (Q3 (Qc (eC (.str "down")) (Qc (Qb 2) (Qc (Qf ixG (Qb 1) (eC (.str "here"))) Qm))))))) Q5) g)) e3 w1=some x:=fun hg=>(Qk ((QN t1).trans QO)).trans ((Qk ((QN (bey false hb)).trans QO)).trans ((Qk ((QN t3).trans QO)).trans hg))
        by_cases h0:0 < w.goal
        . rw [if_pos h0] at hs
          obtain ⟨k,q,a1,a2,a3,a4⟩:=W.tell h0
          simp only [a1] at hs
          simp only [Option.some.injEq,Prod.mk.injEq] at hs
          obtain ⟨rfl,rfl,rfl⟩:=hs
          have pl0:=ok.parts
          rw [if_neg (by omega)] at pl0
          have lk:(TR.ZG p w.aim k).ks.length<=52:=by
            show (p.ks.take _++w.aim::p.ks.drop _).length<=52
            simp;omega
          have A1':Sd w1 s pl t y { S with rd:=S.rd+1 } w (some 0) fr:=⟨A1.a1,A1.a2,A1.a3,A1.a4⟩
          obtain ⟨hp3,e4,A3,F3⟩:=Qfa A1' D (P:=TR.ZG p w.aim k) ln hl (by omega) (fun _=>by show 1<=(p.ks.take _++w.aim::p.ks.drop _).length;rw [List.length_append,List.length_cons];omega)
          have cw:Qu 3 Jg (Qc (Qb 3) (Qc (Qf ixG (Qb 1) (eC (.str "aim"))) (Qc (Qf ixG (Qb 1) (eC (.str "kid"))) Qm))) e3 w1=some (pgD (TR.ZG p w.aim k),w1):=QW (ZK (Qe rfl) (A1.see rfl (jN ..)) (A1.see (d:=.int (k:Nat)) rfl (by unfold ssW;rw [a1];exact Qdj ..))) rfl (Qbs (by omega) (by omega) (by omega) w.aim k w1)
          have cp:Qu 4 Xb (Qc (Qb 0) (Qc (Qb 1) (Qc (Qb 2) (Qc (Qu 3 Jg (Qc (Qb 3) (Qc (Qf ixG (Qb 1) (eC (.str "aim"))) (Qc (Qf ixG (Qb 1) (eC (.str "kid"))) Qm)))) Qm)))) e3 w1=some (_,hp3):=QW (yw (Qe rfl) (Qe rfl) (Qe rfl) cw) rfl e4
          exact ⟨hp3,Qz (env:=e3) (pre (pre2 ((Qk ((QN (eqT false (by simp;omega))).trans QO)).trans (QD (Zr (ZK rfl (Qe rfl) cp) (by simp)))))),A3,Fs.trans F3⟩
        . rw [if_neg h0] at hs
          have hz:p.lv=0:=by omega
          have hs:=Option.some.inj hs
          have pl0:=ok.parts
          rw [if_pos hz] at pl0
          have A1':Sd w1 s pl t y { S with rd:=S.rd+1 } w (some 0) fr:=⟨A1.a1,A1.a2,A1.a3,A1.a4⟩
          obtain ⟨hp3,e4,A3,F3⟩:=QfI A1' D ln hl hz ok.sorted (by omega) (by omega) ((T.link n p hn).imp id fun ⟨x,q,_,b1,b2,_⟩=>⟨x,q,b1,b2⟩)
          rw [hs] at e4 A3
          exact ⟨hp3,Qz (env:=e3) (pre (pre2 (QT ((Q9 (eqT true (by simp [hz]))).trans (QD (QW (yw (Qe rfl) (Qe rfl) (Qe rfl) (Qe rfl)) rfl e4)))))),A3,Fs.trans F3⟩
end
section
variable {hp hp' hp2:Hs} {s pl t y:Nat} {S S':TR.Sh} {w w':TR.Wk} {wr:Option Int} {fr:Bool} {bg:TR.Bg} {r:TR.Row}
theorem Qbq (T:TR.Tree S bg) (W:TR.WOk S bg w) (hs:TR.qZ S w=some (r,S',w')) (he:w.ended=false):S'.rd=S.rd+1/\Yt (Ve r) .non=pure (.bl true)/\∃ n,n < S.pg.length/\∀ h,ixG (Ve r) (.int 1) h=some (.int (n:Nat),h):=by
  have set_rd:∀ (S0:TR.Sh) (w0:TR.Wk) (m:Nat) (P:TR.Pg),(TR.Q8 S0 w0 m P).2.1.rd=S0.rd:=fun S0 w0 m P=>by unfold TR.Q8;split<;>rfl
  obtain ⟨n,hn0,p,hn⟩:∃ n,w.place.getD S.top=n/\∃ p,S.pg[n]?=some p:=by
    refine ⟨_,rfl,?_⟩
    cases e:w.place with
    | none=>obtain ⟨p,a,_⟩:=T.root;exact ⟨p,a⟩
    | some m=>obtain ⟨p,a,_⟩:=W.at_ m e;exact ⟨p,a⟩
  have ln:=TR.JL hn
  have ix:∀ {x:DV} {xs:List DV} (h:Hs),ixG (.tup (x::.int (n:Nat)::xs)) (.int 1) h=some (.int (n:Nat),h):=fun h=>ZV (i:=1) rfl h
  unfold TR.qZ at hs
  rw [if_neg (by rw [he];simp),hn0] at hs
  simp only [hn] at hs
  by_cases hra:w.place=none/\p.lv < w.goal
  . rw [if_pos hra] at hs
    rw [hra.1] at hn0
    have hn0:S.top=n:=hn0
    cases hk:w.newp with
    | none=>rw [hk] at hs;cases hs
    | some k=>rw [hk] at hs;cases hs;exact ⟨rfl,rfl,n,ln,fun h=>by rw [<- hn0];exact ZV (i:=1) rfl h⟩
  . rw [if_neg hra] at hs
    by_cases hb:TR.JM p w.aim=true
    . rw [if_pos hb] at hs
      cases hsd:p.sd with
      | none=>rw [hsd] at hs;cases hs
      | some q=>rw [hsd] at hs;cases hs;exact ⟨rfl,rfl,n,ln,fun h=>ix h⟩
    . rw [if_neg hb] at hs
      by_cases hd:w.goal < p.lv
      . rw [if_pos hd] at hs
        cases hq:p.ps[TR.cLe p.ks w.aim]? with
        | none=>rw [hq] at hs;cases hs
        | some c=>rw [hq] at hs;cases hs;exact ⟨rfl,rfl,n,ln,fun h=>ix h⟩
      . rw [if_neg hd] at hs
        by_cases h0:0 < w.goal
        . rw [if_pos h0] at hs
          cases hk:w.newp with
          | none=>rw [hk] at hs;cases hs
          | some k =>
            rw [hk] at hs
            simp only [Option.some.injEq,Prod.mk.injEq] at hs
            obtain ⟨rfl,rfl,rfl⟩:=hs
            exact ⟨set_rd _ _ _ _,rfl,n,ln,fun h=>ix h⟩
        . rw [if_neg h0] at hs
          have hs:=Option.some.inj hs
          unfold TR.Jz at hs
          cases hdd:w.deed with
          | find k=>rw [hdd] at hs;cases hs;exact ⟨rfl,rfl,n,ln,fun h=>ix h⟩
          | put k x =>
            rw [hdd] at hs
            dsimp only at hs
            simp only [Prod.mk.injEq] at hs
            obtain ⟨rfl,rfl,rfl⟩:=hs
            exact ⟨set_rd _ _ _ _,rfl,n,ln,fun h=>ix h⟩
          | cut k =>
            rw [hdd] at hs;dsimp only at hs;cases hs
            refine ⟨?_,rfl,n,ln,fun h=>ix h⟩
            by_cases hq:(TR.QV p w.aim).isSome=true
            . rw [if_pos hq]
            . rw [if_neg hq]
          | stretch l h =>
            rw [hdd] at hs;dsimp only at hs
            cases hhi:p.hi with
            | none=>rw [hhi] at hs;cases hs;exact ⟨rfl,rfl,n,ln,fun h=>ix h⟩
            | some x =>
              cases hsd:p.sd with
              | none=>rw [hhi,hsd] at hs;cases hs;exact ⟨rfl,rfl,n,ln,fun h=>ix h⟩
              | some q =>
                rw [hhi,hsd] at hs
                dsimp only at hs
                by_cases hx:h<=x
                . rw [if_pos hx] at hs;cases hs;exact ⟨rfl,rfl,n,ln,fun h=>ix h⟩
                . rw [if_neg hx] at hs;cases hs;exact ⟨rfl,rfl,n,ln,fun h=>ix h⟩
theorem QdO (A:Sd hp s pl t y S w wr fr) (D:Ds s pl t y) (he:w.ended=true):Ye [.ref s,.ref t] hp=some (.non,hp.set s (.dic (sdD pl S.top S.room (some 0)))):=by
 have A1:Sd (hp.set s (.dic (sdD pl S.top S.room (some 0)))) s pl t y S w (some 0) fr:=A.side (S':=S) D rfl
 have u1:=Jv (e:=eC (.int 0)) (o:=Qb 0) (x := "writings") (env:=[.val (.ref s),.val (.ref t),.un,.un]) (d:=.int 0) rfl (Qe rfl) A.a1 (Nat.le_trans (jJ ..) (by decide))
 rw [qi] at u1
 exact Qz (env:=[.val (.ref s),.val (.ref t),.un,.un]) ((Qk u1).trans (QT ((Q9 (QR (A1.see rfl ((Vs ..).trans (by rw [he]))))).trans (QD (d:=.non) rfl))))
theorem QgD {n f q a:Nat} {v:TR.Wk} (h3:hp[a]?=some (wkO n f q v)) (he:v.ended=false):XE [.ref a] hp=some (.non,hp) :=
 Qz (env:=[.val (.ref a)]) (QT ((Q9 (XI (b:=false) (QR (Zn (Qe rfl) h3 ((qo ..).trans (by rw [he])))))).trans (QD (d:=.non) rfl)))
theorem Qdk {hp:Hs} {n f q a:Nat} {w:TR.Wk} (h:hp[a]?=some (wkO n f q w)) (he:w.ended=true):JR [.ref a] hp=some (.non,hp) :=
 Qz (env:=[.val (.ref a),.un,.un]) (QT ((Q9 (QR (Zn (Qe rfl) h ((qo ..).trans (by rw [he]))))).trans (QD (d:=.non) rfl)))
theorem QaO {f:Nat} (h1:hp[1]?=some (.ins "Shelf" (shF S.room 2 S.top S.rd S.wr))) (h2:hp[2]?=some (.lst (S.pg.map pgD))) (a1:hp[s]?=some (.dic (sdD pl S.top S.room wr))) (a2:hp[pl]?=some (.lst (S.pg.map pgD))) (s1:s≠1) (p1:pl≠1) (f1:f≠1) (ns:List Nat) (hf:hp[f]?=some (.lst (ns.map fun n:Nat=>.int n))) (hn:∀ n∈ns,n < S.pg.length) (hl:ns.length < 1000) (env:En) (he0:env[0]?=some (.val (.ref 1))) (he1:env[1]?=some (.val (.ref s))) :
    ZR (nxW f) (fun d=>JY (eB (Qu 2 (Zx 6) (Qc (QF "Shelf" "read" 2 Zd (Qb 1) (Qc (Qb 0) Qm)) (Qc (Qf ixG (Qf ixG (Qb 2) (eC (.str "pages"))) (Qb 0)) Qm)))) (cE [0,1] env d)) (fun d=>Qb 0 (cE [0,1] env d)) lim 0 hp=some ([],hp.set 1 (.ins "Shelf" (shF S.room 2 S.top (S.rd+ns.length) S.wr))):=by
  let W:Nat->Hs:=fun i=>hp.set 1 (.ins "Shelf" (shF S.room 2 S.top (S.rd+i) S.wr))
  have w1:∀ i,(W i)[1]?=some (.ins "Shelf" (shF S.room 2 S.top (S.rd+i) S.wr)):=fun i=>gss h1
  have w2:∀ i,(W i)[2]?=some (.lst (S.pg.map pgD)):=fun i=>gs (by decide) h2
  have ws:∀ i,(W i).set 1 (.ins "Shelf" (shF S.room 2 S.top (S.rd+i+1) S.wr))=W (i+1):=fun i=>by
    show (hp.set 1 _).set 1 _=hp.set 1 _
    rw [List.set_set,show S.rd+(i:Int)+1=S.rd+((i+1:Nat):Int) by omega]
  have w0:W 0=hp:=by
    show hp.set 1 _=hp
    rw [show S.rd+((0:Nat):Int)=S.rd by simp];exact Vq h1
  have wf:∀ i,(W i)[f]?=some (.lst (ns.map fun n:Nat=>.int n)):=fun i=>gs (Ne.symm f1) hf
  have ce:∀ n:Nat,cE [0,1] env (.int n)=[.val (.int n),.val (.ref 1),.val (.ref s)]:=fun n=>by
    show [Sl.val (DV.int n),G1 ((env[0]?).getD .un),G1 ((env[1]?).getD .un)]=_
    rw [he0,he1];rfl
  have cx:∀ (m i fuel:Nat),m+i=ns.length->m < fuel->ZR (nxW f) (fun d=>JY (eB (Qu 2 (Zx 6) (Qc (QF "Shelf" "read" 2 Zd (Qb 1) (Qc (Qb 0) Qm)) (Qc (Qf ixG (Qf ixG (Qb 2) (eC (.str "pages"))) (Qb 0)) Qm)))) (cE [0,1] env d)) (fun d=>Qb 0 (cE [0,1] env d)) fuel i (W i)=some ([],W ns.length):=by
    intro m
    induction m with
    | zero =>
      intro i fuel e hf'
      obtain ⟨g,rfl⟩:∃ g,fuel=g+1:=⟨fuel - 1,by omega⟩
      have:i=ns.length:=by omega
      subst this
      have x:=Qcu (wf ns.length) ns.length
      rw [List.getElem?_eq_none (by simp)] at x
      rw [ZR,Qi x];rfl
    | succ m ih =>
      intro i fuel e hf'
      obtain ⟨g,rfl⟩:∃ g,fuel=g+1:=⟨fuel - 1,by omega⟩
      have hi:i < ns.length:=by omega
      have x:=Qcu (wf i) i
      rw [List.getElem?_map,List.getElem?_eq_getElem hi] at x
      have hm:=hn ns[i] (List.getElem_mem hi)
      generalize ns[i]=n at x hm
      have hg:S.pg[n]?=some S.pg[n]:=List.getElem?_eq_getElem hm
      generalize S.pg[n]=p at hg
      have rd:=Vp (i:=n) (d:=pgD p) (w1 i) (w2 i) (by decide) (by rw [List.getElem?_map,hg];rfl)
      rw [ws] at rd
      have tst:JY (eB (Qu 2 (Zx 6) (Qc (QF "Shelf" "read" 2 Zd (Qb 1) (Qc (Qb 0) Qm)) (Qc (Qf ixG (Qf ixG (Qb 2) (eC (.str "pages"))) (Qb 0)) Qm)))) (cE [0,1] env (.int n)) (W i)=some (false,W (i+1)):=by
        rw [ce]
        exact XI (b:=true) (QR (QW (ZQ (Q4 (Qe rfl) (w1 i) (qN ..) (ZJ (Qe rfl)) rfl rd) (Qh (VO (Qe rfl) (gs (Ne.symm s1) a1) (JC ..)) (Qe rfl) (X8 (i:=n) (gs (Ne.symm p1) a2) (by rw [List.getElem?_map,hg];rfl)))) rfl (Qc3 _ 2 (by decide) (Qam 0 p) _)))
      rw [ZR,Qi x]
      simp only [Option.map_some]
      rw [Qi tst]
      simp only [Bool.false_eq_true,if_false]
      exact ih (i+1) g (by omega) (by omega)
  have c0:=cx ns.length 0 lim rfl (by unfold lim;omega)
  rw [w0] at c0
  exact c0
end
section
variable {hp:Hs} {s pl a:Nat} {S S':TR.Sh} {w w':TR.Wk} {wr:Option Int} {fr:Bool} {bg:TR.Bg} {r:TR.Row}
theorem QhJ (a b:Int) (h:Hs):neG (.tup [.int a,.int b]) (.tup [.int a,.int b]) h=some (.bl false,h):=by
 have p:Pl 1 (.tup [.int a,.int b]):=fun d hd=>by
  simp only [List.mem_cons,List.not_mem_nil,or_false] at hd
  rcases hd with rfl | rfl<;>exact Qf7 _ _
 exact Qcp p (by decide) h
def Gx (hp hp':Hs) (s pl a:Nat):Prop:=hp.length<=hp'.length/\∀ i,i < hp.length->i≠1->i≠2->i≠s->i≠pl->(i < a∨a+4 < i)->hp'[i]?=hp[i]?
theorem KB (T:TR.Tree S bg) (W:w.ended=false->TR.WOk S bg w) (A:At hp 1 2 a (a+1) (a+2) S w) (B:Sd hp s pl (a+4) (a+3) S w wr fr) (h3:2 < pl) (hsp:s=pl+1) (hsa:s < a) (hr:S.room<=50) (hl:S.pg.length < 80000) (hf:w.forks.length < 900) (hw:w.pairs.length<=45000) (hs:w.ended=false->TR.qZ S w=some (r,S',w')) (he':w.ended=true->S'=S/\w'=w) (hS':w.ended=false->S'.pg.length<=S.pg.length+1/\S.pg.length<=S'.pg.length) :
    ∃ hp' rd',XH [.ref 1,.ref s,.ref a,.ref (a+4)] hp=some (.bl true,hp')/\At hp' 1 2 a (a+1) (a+2) { S' with rd:=rd',wr:=S'.wr } w'/\(∃ wr',Sd hp' s pl (a+4) (a+3) { S' with rd:=rd',wr:=S'.wr } w' wr' fr)/\Gx hp hp' s pl a:=by
  have Df:Dif 1 2 a (a+1) (a+2):=⟨by decide,by omega,by omega,by omega,by omega,by omega,by omega,by omega,by omega,by omega⟩
  have Dd:Ds s pl (a+4) (a+3):=⟨by omega,by omega,by omega,by omega,by omega,by omega⟩
  have la:a+4 < hp.length:=(List.getElem?_eq_some_iff.mp B.a3).1
  obtain ⟨due,w1,w2,e1,e2,A2,B2,G2,hsm,hrd,hpg,hnum⟩:∃ (due:DV) (w1 w2:Hs),Ye [.ref s,.ref (a+4)] hp=some (due,w1)/\JR [.ref a] w1=some (due,w2)/\At w2 1 2 a (a+1) (a+2) S' w'/\Sd w2 s pl (a+4) (a+3) S' w' (some (S'.wr - S.wr)) fr/\Gx hp w2 s pl a/\Sm 3 due/\(∃ b:Bool,Yt due .non=pure (.bl b)/\S'.rd=S.rd+(if b=true then 1 else 0)/\(b=true->∃ n,n < S.pg.length/\∀ h,ixG due (.int 1) h=some (.int (n:Nat),h))/\(b=false->S'.pg.length=S.pg.length))/\(S'.pg.length<=S.pg.length+1/\S.pg.length<=S'.pg.length)/\w1.length<=w2.length/\w1[a]?=hp[a]?:=by
    cases he:w.ended with
    | true =>
      obtain ⟨rfl,rfl⟩:=he' he
      have A1:At (hp.set s (.dic (sdD pl S'.top S'.room (some 0)))) 1 2 a (a+1) (a+2) S' w':=⟨gs (by omega) A.h1,gs (by omega) A.h2,gs (by omega) A.h3,gs (by omega) A.h4,gs (by omega) A.h5⟩
      refine ⟨.non,_,_,QdO B Dd he,Qdk A1.h3 he,A1,?_,⟨by simp,fun i _ _ _ c3 _ _=>QU _ _ _ _ (Ne.symm c3)⟩,yp _,⟨false,rfl,by simp,fun h=>(by cases h),fun _=>rfl⟩,⟨by omega,Nat.le_refl _⟩,Nat.le_refl _,QU _ _ _ _ (by omega)⟩
      rw [show S'.wr - S'.wr=0 by omega]
      exact B.side (S':=S') Dd rfl
    | false =>
      have es:=hs he
      obtain ⟨p1,p2⟩:=hS' he
      obtain ⟨w1,e1,B1,F1⟩:=QgL T (W he) B Dd hr (by omega) (by omega) es he
      have k1:∀ i,i < hp.length->i≠s->i≠pl->(i < a+3∨a+4 < i)->w1[i]?=hp[i]?:=fun i hi c1 c2 c3=>F1.2 i hi c1 c2 (by omega) (by omega)
      have A1:At w1 1 2 a (a+1) (a+2) S w:=⟨(k1 1 (by omega) (by omega) (by omega) (by omega)).trans A.h1,(k1 2 (by omega) (by omega) (by omega) (by omega)).trans A.h2,(k1 a (by omega) (by omega) (by omega) (by omega)).trans A.h3,(k1 (a+1) (by omega) (by omega) (by omega) (by omega)).trans A.h4,(k1 (a+2) (by omega) (by omega) (by omega) (by omega)).trans A.h5⟩
      obtain ⟨w2,e2,A2,F2⟩:=Qar T (W he) hr A1 Df (by omega) (by omega) (by omega) es
      have l1:=F1.1
      have k2:∀ i,i < w1.length->i≠1->i≠2->(i < a∨a+2 < i)->w2[i]?=w1[i]?:=fun i hi c1 c2 c3=>F2.2 i hi c1 c2 (by omega) (by omega) (by omega)
      obtain ⟨q1,q2,n,q3,q4⟩:=Qbq T (W he) es he
      refine ⟨Ve r,w1,w2,e1,e2,A2,⟨(k2 s (by omega) (by omega) (by omega) (by omega)).trans B1.a1,(k2 pl (by omega) (by omega) (by omega) (by omega)).trans B1.a2,(k2 (a+4) (by omega) (by omega) (by omega) (by omega)).trans B1.a3,(k2 (a+3) (by omega) (by omega) (by omega) (by omega)).trans B1.a4⟩,⟨by have:=F2.1;omega,fun i hi c1 c2 c3 c4 c5=>(k2 i (by omega) c1 c2 (by omega)).trans (k1 i hi c3 c4 (by omega))⟩,Qgl r,⟨true,q2,by rw [if_pos rfl];exact q1,fun _=>⟨n,q3,q4⟩,fun h=>(by cases h)⟩,⟨p1,p2⟩,F2.1,k1 a (by omega) (by omega) (by omega) (by omega)⟩
  obtain ⟨b,hb1,hb2,hb3,hb4⟩:=hrd
  obtain ⟨l12,ka⟩:=hnum
  obtain ⟨p1,p2⟩:=hpg
  let N:=S.pg.length
  let ct:=DV.tup [.int S.rd,.int S.wr]
  let e4:Sl->Sl->Sl->Sl->Sl->Sl->En:=fun z5 z6 z7 z8 z9 z10=>[.val (.ref 1),.val (.ref s),.val (.ref a),.val (.ref (a+4)),.val (.int N),z5,z6,z7,z8,z9,z10]
  have c1:QA 4 (Zl Jr (Qc (Qf ixG (Qb 1) (eC (.str "pages"))) Qm)) [.val (.ref 1),.val (.ref s),.val (.ref a),.val (.ref (a+4)),.un,.un,.un,.un,.un,.un,.un] hp=some ((.nx,e4 .un .un .un .un .un .un),hp):=QI ((JD (ZJ (B.read rfl (JC ..))) (zx B.a2)).trans (by rw [List.length_map]))
  have c2:QA 5 (Q3 (Qc (QF "Shelf" "readings" 1 Q0 (Qb 0) Qm) (Qc (QF "Shelf" "writings" 1 ZD (Qb 0) Qm) Qm))) (e4 .un .un .un .un .un .un) hp=some ((.nx,e4 (.val ct) .un .un .un .un .un),hp):=QI (Zr (ZQ (Q4 (Qe rfl) A.h1 (xM ..) Xc rfl (YA A.h1)) (Q4 (Qe rfl) A.h1 (vV ..) Xc rfl (yU A.h1))) (Nat.le_of_ble_eq_true rfl))
  have c3:QA 6 (Qu 2 Ye (Qc (Qb 1) (Qc (Qb 3) Qm))) (e4 (.val ct) .un .un .un .un .un) hp=some ((.nx,e4 (.val ct) (.val due) .un .un .un .un),w1):=QI (QW (ZQ (Qe rfl) (Qe rfl)) rfl e1)
  have c4:QA 7 (QF "Walk" "step" 1 JR (Qb 2) Qm) (e4 (.val ct) (.val due) .un .un .un .un) w1=some ((.nx,e4 (.val ct) (.val due) (.val due) .un .un .un),w2):=QI (Q4 (Qe rfl) (ka.trans A.h3) (Qaw ..) Xc rfl e2)
  have c5:QA 8 (QF "Walk" "over" 1 XL (Qb 2) Qm) (e4 (.val ct) (.val due) (.val due) .un .un .un) w2=some ((.nx,e4 (.val ct) (.val due) (.val due) (.val (.bl w'.ended)) .un .un),w2):=QI (Q4 (Qe rfl) A2.h3 (GQ ..) Xc rfl (Qaa A2.h3))
  let e8:Sl->Sl->En:=fun z9 z10=>e4 (.val ct) (.val due) (.val due) (.val (.bl w'.ended)) z9 z10
  have c6:sIf (Xf (JY (eB (Qb 8))) (eB (Qf Yt (QF "Walk" "answer" 1 XE (Qb 2) Qm) (eC .non)))) (QJ (eC (.bl false))) Q5 (e8 .un .un) w2=some ((.nx,e8 .un .un),w2):=by
    refine (QN ?_).trans QO
    have x:=XI (QR (show Qb 8 (e8 .un .un) w2=some (.bl w'.ended,w2) from Qe rfl))
    cases hx:w'.ended with
    | true=>rw [hx] at x;exact K3 x
    | false=>rw [hx] at x;exact (K4 x).trans (QR (b:=false) (Qh (x:=.non) (Q4 (Qe rfl) A2.h3 (QeV ..) Xc rfl (QgD A2.h3 hx)) rfl rfl))
  let rb:Int:=if b=true then 1 else 0
  have c7:QA 9 (Zl vA (Qc (Qf Yt (Qb 6) (eC .non)) Qm)) (e8 .un .un) w2=some ((.nx,e8 (.val (.int rb)) .un),w2):=QI (JD (ds:=[.bl b]) (hp1:=w2) (ZJ (Qh (x:=due) (Qe rfl) rfl (Zc hb1 w2))) (by show vA [.bl b] w2=some (.int rb,w2);cases b<;>rfl))
  let e9:Sl->En:=fun z10=>e8 (.val (.int rb)) z10
  have wsum:S.wr+(S'.wr - S.wr)=S'.wr:=by omega
  have c8:sIf (eB (Qf neG (Q3 (Qc (QF "Shelf" "readings" 1 Q0 (Qb 0) Qm) (Qc (QF "Shelf" "writings" 1 ZD (Qb 0) Qm) Qm))) (Q3 (Qc (Qf Zt (Qf ixG (Qb 5) (eC (.int 0))) (Qb 9)) (Qc (Qf Zt (Qf ixG (Qb 5) (eC (.int 1))) (Qf ixG (Qb 1) (eC (.str "writings")))) Qm))))) (QJ (eC (.bl false))) Q5 (e9 .un) w2=some ((.nx,e9 .un),w2):=by
    have x:Q3 (Qc (QF "Shelf" "readings" 1 Q0 (Qb 0) Qm) (Qc (QF "Shelf" "writings" 1 ZD (Qb 0) Qm) Qm)) (e9 .un) w2=some (.tup [.int S'.rd,.int S'.wr],w2):=Zr (ZQ (Q4 (Qe rfl) A2.h1 (xM ..) Xc rfl (YA A2.h1)) (Q4 (Qe rfl) A2.h1 (vV ..) Xc rfl (yU A2.h1))) (Nat.le_of_ble_eq_true rfl)
    have y1:Qf Zt (Qf ixG (Qb 5) (eC (.int 0))) (Qb 9) (e9 .un) w2=some (.int S'.rd,w2):=Qh (Qh (x:=ct) (Qe rfl) rfl (ZV (i:=0) rfl w2)) (Qe rfl) (by show some (DV.int (S.rd+rb),w2)=_;rw [hb2])
    have y2:Qf Zt (Qf ixG (Qb 5) (eC (.int 1))) (Qf ixG (Qb 1) (eC (.str "writings"))) (e9 .un) w2=some (.int S'.wr,w2):=Qh (Qh (x:=ct) (Qe rfl) rfl (ZV (i:=1) rfl w2)) (B2.read rfl (QeJ ..)) (by show some (DV.int (S.wr+(S'.wr - S.wr)),w2)=_;rw [wsum])
    exact (QN (QR (Qh x (Zr (ZQ y1 y2) (Nat.le_of_ble_eq_true rfl)) (QhJ _ _ w2)))).trans QO
  have c9:sIf (eOr (JY (eB (Qu 2 (Zx 6) (Qc (Qb 7) (Qc (Qb 6) Qm))))) (eOr (eB (Qf neG (Qb 8) (Qf ixG (Qb 3) (eC (.str "over"))))) (eB (Qf neG (QF "Shelf" "root" 1 ZH (Qb 0) Qm) (Qf ixG (Qb 1) (eC (.str "root"))))))) (QJ (eC (.bl false))) Q5 (e9 .un) w2=some ((.nx,e9 .un),w2):=by
    refine (QN ((jm (XI (b:=true) (QR (QW (ZQ (Qe rfl) (Qe rfl)) rfl (Qc3 due 3 (by decide) hsm w2))))).trans ((jm (QR (Qh (Qe rfl) (B2.see rfl (Vs ..)) (QhI _ w2)))).trans (QR (Qh (Q4 (Qe rfl) A2.h1 (jM ..) Xc rfl (GA A2.h1)) (B2.read rfl (GG ..)) (Qd3 _ w2)))))).trans QO
  have lenE:∀ z10:Sl,Zl Jr (Qc (Qf ixG (Qb 1) (eC (.str "pages"))) Qm) (e9 z10) w2=some (.int (S'.pg.length:Nat),w2):=fun z10=>(JD (ZJ (B2.read rfl (JC ..))) (zx B2.a2)).trans (by rw [List.length_map])
  have c10:sIf (eB (Qf neG (QF "Shelf" "pages" 1 Jc (Qb 0) Qm) (Zl Jr (Qc (Qf ixG (Qb 1) (eC (.str "pages"))) Qm)))) (QJ (eC (.bl false))) Q5 (e9 .un) w2=some ((.nx,e9 .un),w2):=(QN (QR (Qh ((Q4 (Qe rfl) A2.h1 (zJ ..) Xc rfl (V2 A2.h1 A2.h2)).trans (by rw [List.length_map])) (lenE _) (Qd3 _ w2)))).trans QO
  let ms:=(List.range (S'.pg.length - N)).map fun i=>N+i
  let f:=w2.length
  let w3:Hs:=w2++[.lst (ms.map fun n:Nat=>.int n)]
  have c11:QA 10 (K5 (Qc (Qb 4) (Qc (Zl Jr (Qc (Qf ixG (Qb 1) (eC (.str "pages"))) Qm)) Qm))) (e9 .un) w2=some ((.nx,e9 (.val (.ref f))),w3):=by
    refine QI ?_
    unfold K5
    rw [Qi (ZQ (Qe rfl) (lenE .un))]
    have rg:QcY [.int N,.int (S'.pg.length:Nat)] w2=some (Ze N (S'.pg.length - N),w2):=by
      unfold QcY
      have s1:Ys (N:Int)=true:=yq (by show S.pg.length<=1000000;omega)
      have s2:Ys (S'.pg.length:Int)=true:=yq (by omega)
      simp only [s1,s2]
      show some (Ze _ _,w2)=_
      rw [show ((S'.pg.length:Int) - (N:Int)).toNat=S'.pg.length - N by omega]
    have e:Ze N (S'.pg.length - N)=ms.map fun n:Nat=>DV.int n:=by
      unfold Ze
      show _=((List.range (S'.pg.length - N)).map fun i=>N+i).map fun n:Nat=>DV.int n
      rw [List.map_map]
      apply List.map_congr_left
      intro i _
      show DV.int ((N:Int)+(i:Int))=DV.int ((N+i:Nat):Int)
      congr 1
    have sh:QE (qY (Ze N (S'.pg.length - N))) w2=some ((),w2):=by
      rw [qk (by rw [Jj];omega)];rfl
    rw [Qi rg,Qi sh,e];rfl
  have g3:∀ {j:Nat} {x:OV},w2[j]?=some x->w3[j]?=some x:=fun {j x} h=>(List.getElem?_append_left (List.getElem?_eq_some_iff.mp h).1).trans h
  have gf:w3[f]?=some (.lst (ms.map fun n:Nat=>.int n)):=by show (w2++_)[w2.length]?=_;simp
  have lf:a+4 < f:=(List.getElem?_eq_some_iff.mp B2.a3).1
  obtain ⟨ns,w4,c12,hns,n1,n2,w4f⟩:∃ (ns:List Nat) (w4:Hs),sIf (eB (Qf Yt (Qb 6) (eC .non))) (Jk (JX "list" Z3 (Qb 10) (Qc (Qf ixG (Qb 6) (eC (.int 1))) Qm))) Q5 (e9 (.val (.ref f))) w3=some ((.nx,e9 (.val (.ref f))),w4)/\w4=w3.set f (.lst (ns.map fun n:Nat=>.int n))/\(∀ n∈ns,n < S'.pg.length)/\ns.length < 1000/\w4[f]?=some (.lst (ns.map fun n:Nat=>.int n)):=by
    have hms:∀ n∈ms,n < S'.pg.length:=fun n hn=>by
      obtain ⟨i,hi,rfl⟩:=List.mem_map.mp hn
      have:=List.mem_range.mp hi;omega
    have lms:ms.length<=1:=by show ((List.range (S'.pg.length - N)).map _).length<=1;simp;show S'.pg.length<=1+S.pg.length;omega
    cases hbb:b with
    | false =>
      rw [hbb] at hb1
      refine ⟨ms,w3,(QN (QR (Qh (x:=due) (Qe rfl) rfl (Zc hb1 w3)))).trans QO,(Vq gf).symm,hms,by omega,gf⟩
    | true =>
      obtain ⟨n,q3,q4⟩:=hb3 hbb
      rw [hbb] at hb1
      have ap:=xV (o:=Qb 10) (env:=e9 (.val (.ref f))) (e:=Qf ixG (Qb 6) (eC (.int 1))) (d:=.int (n:Nat)) (Qe rfl) gf (Qh (x:=due) (Qe rfl) rfl (q4 w3)) (by rw [List.length_map];omega)
      refine ⟨ms++[n],_,(Q9 (QR (Qh (x:=due) (Qe rfl) rfl (Zc hb1 w3)))).trans (Xu ap),by rw [List.map_append];rfl,fun m hm=>?_,by simp;omega,by rw [List.map_append];exact gss gf⟩
      rcases List.mem_append.mp hm with h | h
      . exact hms m h
      . rw [List.mem_singleton] at h;omega
  have g4:∀ {j:Nat} {x:OV},j < f->w2[j]?=some x->w4[j]?=some x:=fun {j x} hj h=>by rw [hns];exact gs (by omega) (g3 h)
  have cm:=QaO (S:=S') (s:=s) (pl:=pl) (f:=f) (g4 (by omega) A2.h1) (g4 (by omega) A2.h2) (g4 (by omega) B2.a1) (g4 (by omega) B2.a2) (by omega) (by omega) (by omega) ns w4f n1 n2 (e9 (.val (.ref f))) rfl rfl
  let w5:Hs:=w4.set 1 (.ins "Shelf" (shF S'.room 2 S'.top (S'.rd+ns.length) S'.wr))
  have c13:XR (e9 (.val (.ref f))) w4=some (.lst [],w5):=by
    unfold XR ZN
    have src:xLs (Qb 10) (e9 (.val (.ref f))) w4=some (nxW f,w4):=by
      unfold xLs
      rw [Qi (Qe rfl)]
      show (Jn f >>= _) w4=_
      rw [Qi (Z2 w4f)];rfl
    rw [Qi src,Qi cm];rfl
  refine ⟨w5,S'.rd+ns.length,Qz (env:=e9 (.val (.ref f))) ((Qk c1).trans ((Qk c2).trans ((Qk c3).trans ((Qk c4).trans ((Qk c5).trans ((Qk c6).trans ((Qk c7).trans ((Qk c8).trans ((Qk c9).trans ((Qk c10).trans ((Qk c11).trans ((Qk c12).trans (QD (Qh c13 rfl (QdP w5))))))))))))))),?_,⟨some (S'.wr - S.wr),?_⟩,?_⟩
  . exact ⟨gss (g4 (by omega) A2.h1),gs (by omega) (g4 (by omega) A2.h2),gs (by omega) (g4 (by omega) A2.h3),gs (by omega) (g4 (by omega) A2.h4),gs (by omega) (g4 (by omega) A2.h5)⟩
  . exact ⟨gs (by omega) (g4 (by omega) B2.a1),gs (by omega) (g4 (by omega) B2.a2),gs (by omega) (g4 (by omega) B2.a3),gs (by omega) (g4 (by omega) B2.a4)⟩
  . have l2:=G2.1
    refine ⟨by show hp.length<=(w4.set 1 _).length;rw [hns];simp [w3];omega,fun i hi d1 d2 d3 d4 d5=>?_⟩
    have gi:=G2.2 i hi d1 d2 d3 d4 d5
    show (w4.set 1 _)[i]?=_
    rw [QU _ _ _ _ (Ne.symm d1),hns,QU _ _ _ _ (by omega)]
    show (w2++_)[i]?=_
    rw [List.getElem?_append_left (by omega)];exact gi
end
def hD:Option Nat->DV
 | none=>.non
 | some a=>.ref a
def stD:Option Nat->DV
 | none=>.non
 | some a=>.ref (a+4)
theorem QbD {S:TR.Sh} {bg:TR.Bg} {ws:List TR.Wk} (A:TR.All S bg ws) (x y:Int):TR.All { S with rd:=x,wr:=y } bg ws:=⟨fun i w h e=>(A.ok i w h e).rd x y,A.unt,A.diff⟩
theorem Qc6 {ws:List TR.Wk} {i:Nat} {v:TR.Wk} (h:ws[i]?=some v):ws.set i v=ws:=by
 obtain ⟨hl,rfl⟩:=List.getElem?_eq_some_iff.mp h
 exact List.set_getElem_self hl
structure Sys (w:Hs) (pl:Nat) (S:TR.Sh) (bg:TR.Bg) (H:List (Option Nat)) (ws:List TR.Wk) (N:Nat):Prop where
 T:TR.Tree S bg
 A:TR.All S bg ws
 rm:S.room<=50
 len:H.length=ws.length
 h1:w[1]?=some (.ins "Shelf" (shF S.room 2 S.top S.rd S.wr))
 h2:w[2]?=some (.lst (S.pg.map pgD))
 hs:∃ wr,w[pl+1]?=some (.dic (sdD pl S.top S.room wr))
 hp:w[pl]?=some (.lst (S.pg.map pgD))
 hw:w[pl+2]?=some (.lst (H.map hD))
 ht:w[pl+3]?=some (.lst (H.map stD))
 p3:2 < pl
 ob:∀ (i a:Nat),H[i]?=some (some a)->∃ v fr,ws[i]?=some v/\w[a]?=some (wkO 1 (a+1) (a+2) v)/\w[a+1]?=some (.dic (fkD v.forks))/\w[a+2]?=some (.lst (prD v.pairs))/\w[a+3]?=some (.dic (fkD v.forks))/\w[a+4]?=some (.dic (ssW (a+3) v fr))/\pl+3 < a/\v.forks.length<=N/\v.pairs.length<=50 * N
 dj:∀ (i j a b:Nat),i≠j->H[i]?=some (some a)->H[j]?=some (some b)->a+4 < b∨b+4 < a
 pn:S.pg.length<=60001+N
section
variable {w:Hs} {pl:Nat} {S:TR.Sh} {bg:TR.Bg} {H:List (Option Nat)} {ws:List TR.Wk} {N:Nat}
theorem Sys.mono (Y:Sys w pl S bg H ws N) {M:Nat} (hM:N<=M):Sys w pl S bg H ws M:=⟨Y.T,Y.A,Y.rm,Y.len,Y.h1,Y.h2,Y.hs,Y.hp,Y.hw,Y.ht,Y.p3,fun i a h=>by
 obtain ⟨v,fr,a1,a2,a3,a4,a5,a6,a7,a8,a9⟩:=Y.ob i a h
 exact ⟨v,fr,a1,a2,a3,a4,a5,a6,a7,by omega,by omega⟩,Y.dj,by have:=Y.pn;omega⟩
theorem Sys.rest (Y:Sys w pl S bg H ws N) {w':Hs} {S':TR.Sh} {bg':TR.Bg} {v':TR.Wk} {fr':Bool} {i a M:Nat} (hi:H[i]?=some (some a)) (T':TR.Tree S' bg') (A':TR.All S' bg' (ws.set i v')) (rm':S'.room<=50) (X:At w' 1 2 a (a+1) (a+2) S' v') {wr':Option Int} (B:Sd w' (pl+1) pl (a+4) (a+3) S' v' wr' fr') (G:Gx w w' (pl+1) pl a) (hNM:N<=M) (hf:v'.forks.length<=M) (hq:v'.pairs.length<=50 * M) (hpn:S'.pg.length<=60001+M):Sys w' pl S' bg' H (ws.set i v') M:=by
 obtain ⟨v,fr,a1,a2,a3,a4,a5,a6,a7,a8,a9⟩:=Y.ob i a hi
 have p3:=Y.p3
 have li:i < ws.length:=(List.getElem?_eq_some_iff.mp a1).1
 have lw:pl+2 < w.length:=(List.getElem?_eq_some_iff.mp Y.hw).1
 have lt:pl+3 < w.length:=(List.getElem?_eq_some_iff.mp Y.ht).1
 refine ⟨T',A',rm',by rw [List.length_set];exact Y.len,X.h1,X.h2,⟨wr',B.a1⟩,B.a2,?_,?_,p3,fun j c hj=>?_,Y.dj,hpn⟩
 ·rw [G.2 (pl+2) lw (by omega) (by omega) (by omega) (by omega) (by omega)];exact Y.hw
 ·rw [G.2 (pl+3) lt (by omega) (by omega) (by omega) (by omega) (by omega)];exact Y.ht
 ·by_cases e:j=i
  ·subst e
   rw [hi] at hj;cases hj
   exact ⟨v',fr',List.getElem?_set_self li,X.h3,X.h4,X.h5,B.a4,B.a3,a7,hf,hq⟩
  ·obtain ⟨u,fu,b1,b2,b3,b4,b5,b6,b7,b8,b9⟩:=Y.ob j c hj
   have l4:c+4 < w.length:=(List.getElem?_eq_some_iff.mp b6).1
   have dd:=Y.dj i j a c (Ne.symm e) hi hj
   have k:∀ x,x<=4->w'[c+x]?=w[c+x]?:=fun x hx=>G.2 (c+x) (by omega) (by omega) (by omega) (by omega) (by omega) (by omega)
   exact ⟨u,fu,by rw [List.getElem?_set_ne (Ne.symm e)];exact b1,(k 0 (by omega)).trans b2,(k 1 (by omega)).trans b3,(k 2 (by omega)).trans b4,(k 3 (by omega)).trans b5,(k 4 (by omega)).trans b6,b7,by omega,by omega⟩
theorem Qdm (Y:Sys w pl S bg H ws N) {i a:Nat} (hi:H[i]?=some (some a)) (hN:N < 890):∃ w' S' bg' ws',XH [.ref 1,.ref (pl+1),.ref a,.ref (a+4)] w=some (.bl true,w')/\Sys w' pl S' bg' H ws' (N+1):=by
  obtain ⟨v,fr,a1,a2,a3,a4,a5,a6,a7,a8,a9⟩:=Y.ob i a hi
  obtain ⟨wr,hs⟩:=Y.hs
  have pn:=Y.pn
  have p3:=Y.p3
  have rm:=Y.rm
  have X:At w 1 2 a (a+1) (a+2) S v:=⟨Y.h1,Y.h2,a2,a3,a4⟩
  have B:Sd w (pl+1) pl (a+4) (a+3) S v wr fr:=⟨hs,Y.hp,a6,a5⟩
  cases he:v.ended with
  | true =>
    obtain ⟨w',rd',e,X',⟨wr',B'⟩,G⟩:=KB (r:=.non) (S':=S) (w':=v) Y.T (fun h=>by rw [he] at h;cases h) X B p3 rfl (by omega) rm (by omega) (by omega) (by omega) (fun h=>by rw [he] at h;cases h) (fun _=>⟨rfl,rfl⟩) (fun h=>by rw [he] at h;cases h)
    have sw:ws.set i v=ws:=Qc6 a1
    exact ⟨w',{ S with rd:=rd',wr:=S.wr },bg,ws.set i v,e,Y.rest hi (Y.T.rd _ _) (by rw [sw];exact QbD Y.A _ _) rm X' B' G (by omega) (by omega) (by omega) (by show S.pg.length<=_;omega)⟩
  | false =>
    have W:=Y.A.ok i v a1 he
    obtain ⟨r,S2,v2,bg2,es,st⟩:=TR.Qas Y.T W he (fun g c hc=>Y.A.unt i v c a1 he g hc)
    have sz:=TR.Uu (m:=50) (fun m p hm=>by have:=(Y.T.page m p hm).few;omega) es
    have gl:S.pg.length<=S2.pg.length:=by
      refine Nat.le_of_not_lt fun hlt=>?_
      obtain ⟨_,p',h',_⟩:=st.grow.1 S2.pg.length _ (List.getElem?_eq_getElem hlt)
      have:=(List.getElem?_eq_some_iff.mp h').1
      omega
    have sl:=st.len
    obtain ⟨w',rd',e,X',⟨wr',B'⟩,G⟩:=KB (r:=r) (S':=S2) (w':=v2) Y.T (fun _=>W) X B p3 rfl (by omega) rm (by omega) (by omega) (by omega) (fun _=>es) (fun h=>by rw [he] at h;cases h) (fun _=>⟨sl,gl⟩)
    exact ⟨w',{ S2 with rd:=rd',wr:=S2.wr },bg2,ws.set i v2,e,Y.rest hi (st.tree.rd _ _) (QbD (Y.A.step a1 he st) _ _) (by show S2.room<=50;rw [st.room];exact rm) X' B' G (by omega) (by omega) (by omega) (by show S2.pg.length<=_;omega)⟩
theorem Qdl (Y:Sys w pl S bg H ws N) {i a:Nat} {v:TR.Wk} (hi:H[i]?=some (some a)) (hv:ws[i]?=some v) (fr:Bool):Sys (w.set (a+4) (.dic (ssW (a+3) v fr))) pl S bg H ws N:=by
 obtain ⟨u,fu,a1,a2,a3,a4,a5,a6,a7,a8,a9⟩:=Y.ob i a hi
 rw [hv] at a1;cases a1
 obtain ⟨wr,hs⟩:=Y.hs
 have p3:=Y.p3
 have q:=Y.rest (w':=w.set (a+4) (.dic (ssW (a+3) v fr))) (v':=v) (fr':=fr) (M:=N) hi Y.T (by rw [Qc6 hv];exact Y.A) Y.rm ⟨gs (by omega) Y.h1,gs (by omega) Y.h2,gs (by omega) a2,gs (by omega) a3,gs (by omega) a4⟩ (wr':=wr) ⟨gs (by omega) hs,gs (by omega) Y.hp,gss a6,gs (by omega) a5⟩ ⟨by simp,fun j _ _ _ _ _ c=>QU _ _ _ _ (by omega)⟩ (Nat.le_refl _) a8 a9 Y.pn
 rw [Qc6 hv] at q
 exact q
theorem QeQ (Y:Sys w pl S bg H ws N) {i:Nat} (hi:i < H.length) (d:TR.Deed):Sys (((w++[wkO 1 (w.length+1) (w.length+2) (TR.fresh d),.dic [],.lst [],.dic [],.dic (ssW (w.length+3) (TR.fresh d) true)]).set (pl+2) (.lst ((H.map hD).set i (.ref w.length)))).set (pl+3) (.lst ((H.map stD).set i (.ref (w.length+4))))) pl S bg (H.set i (some w.length)) (ws.set i (TR.fresh d)) N:=by
 have p3:=Y.p3
 have lw:pl+3 < w.length:=(List.getElem?_eq_some_iff.mp Y.ht).1
 have li:i < ws.length:=by rw [<- Y.len];exact hi
 generalize hz:[wkO 1 (w.length+1) (w.length+2) (TR.fresh d),.dic [],.lst [],.dic [],.dic (ssW (w.length+3) (TR.fresh d) true)]=tl
 have gap:∀ j x,tl[j]?=some x->(w++tl)[w.length+j]?=some x:=fun j x h=>by rw [List.getElem?_append_right (by omega),Nat.add_sub_cancel_left];exact h
 have old:∀ j x,j≠pl+2->j≠pl+3->w[j]?=some x->(((w++tl).set (pl+2) (.lst ((H.map hD).set i (.ref w.length)))).set (pl+3) (.lst ((H.map stD).set i (.ref (w.length+4)))))[j]?=some x:=fun j x hj hk h=>gs (Ne.symm hk) (gs (Ne.symm hj) ((List.getElem?_append_left (List.getElem?_eq_some_iff.mp h).1).trans h))
 obtain ⟨wr,hs⟩:=Y.hs
 refine ⟨Y.T,Y.A.put rfl rfl rfl,Y.rm,by simp [Y.len],old 1 _ (by omega) (by omega) Y.h1,old 2 _ (by omega) (by omega) Y.h2,⟨wr,old _ _ (by omega) (by omega) hs⟩,old _ _ (by omega) (by omega) Y.hp,?_,?_,p3,fun j c hj=>?_,fun j j' a c hne ha hb=>?_,Y.pn⟩
 ·rw [QU _ _ _ _ (by omega),Zi _ _ _ (by rw [List.getElem?_append_left (by omega),Y.hw];rfl),List.map_set];rfl
 ·rw [Zi _ _ _ (by rw [QU _ _ _ _ (by omega),List.getElem?_append_left (by omega),Y.ht];rfl),List.map_set];rfl
 ·rcases TR.Z8 hj with ⟨rfl,e,_⟩ | ⟨ne,hj⟩
  ·cases e
   subst hz
   refine ⟨TR.fresh d,true,List.getElem?_set_self li,gs (by omega) (gs (by omega) (gap 0 _ rfl)),gs (by omega) (gs (by omega) (gap 1 _ rfl)),gs (by omega) (gs (by omega) (gap 2 _ rfl)),gs (by omega) (gs (by omega) (gap 3 _ rfl)),gs (by omega) (gs (by omega) (gap 4 _ rfl)),lw,Nat.zero_le _,Nat.zero_le _⟩
  ·obtain ⟨u,fu,b1,b2,b3,b4,b5,b6,b7,b8,b9⟩:=Y.ob j c hj
   exact ⟨u,fu,by rw [List.getElem?_set_ne (Ne.symm ne)];exact b1,old c _ (by omega) (by omega) b2,old (c+1) _ (by omega) (by omega) b3,old (c+2) _ (by omega) (by omega) b4,old (c+3) _ (by omega) (by omega) b5,old (c+4) _ (by omega) (by omega) b6,b7,b8,b9⟩
 ·have small:∀ j b,H[j]?=some (some b)->b+4 < w.length:=fun j b hj=>by
   obtain ⟨u,_,_,_,_,_,_,b6,_⟩:=Y.ob j b hj
   exact (List.getElem?_eq_some_iff.mp b6).1
  rcases TR.Z8 ha with ⟨rfl,e,_⟩ | ⟨na,ha2⟩
  ·cases e
   rcases TR.Z8 hb with ⟨rfl,e,_⟩ | ⟨nb,hb2⟩
   ·exact absurd rfl hne
   ·exact .inr (small _ _ hb2)
  ·rcases TR.Z8 hb with ⟨rfl,e,_⟩ | ⟨nb,hb2⟩
   ·cases e;exact .inl (small _ _ ha2)
   ·exact Y.dj j j' a c hne ha2 hb2
theorem kM (Y:Sys w pl S bg H ws N) {i a m:Nat} (hi:H[i]?=some (some a)) (hN:N+5 < 890) (hm:m<=5) (e0 e1 e4 e7 e8 e11 e12 e13:Sl):∃ w' S' bg' ws' z11,KL [e0,e1,.val (.ref 1),.val (.ref (pl+1)),e4,.val (.ref (pl+2)),.val (.ref (pl+3)),e7,e8,.val (.int (i:Int)),.val (.int (m:Int)),e11,e12,e13] w=some ((.nx,[e0,e1,.val (.ref 1),.val (.ref (pl+1)),e4,.val (.ref (pl+2)),.val (.ref (pl+3)),e7,e8,.val (.int (i:Int)),.val (.int (m:Int)),z11,e12,e13]),w')/\Sys w' pl S' bg' H ws' (N+5):=by
 let E:Sl->En:=fun z11=>[e0,e1,.val (.ref 1),.val (.ref (pl+1)),e4,.val (.ref (pl+2)),.val (.ref (pl+3)),e7,e8,.val (.int (i:Int)),.val (.int (m:Int)),z11,e12,e13]
 have M:WP (xh (fun d env=>do let env' <- gN 11 d env;kT env') (Ze 0 m) (E e11)) w fun q w'=>∃ S' bg' ws' z11,q=(.nx,E z11)/\Sys w' pl S' bg' H ws' (N+m):=by
  refine jS (fun j env w'=>∃ S' bg' ws' z11,env=E z11/\Sys w' pl S' bg' H ws' (N+j)) _ ⟨S,bg,ws,e11,rfl,Y⟩ (fun j d0 hd0 env w' zz=>?_) (fun env w' zz=>by obtain ⟨S',bg',ws',z11,e,Y'⟩:=zz;exact ⟨S',bg',ws',z11,by rw [e],by rw [Jj] at Y';exact Y'⟩)
  obtain ⟨S',bg',ws',z11,rfl,Y'⟩:=zz
  obtain ⟨hj,hd'⟩:=xA hd0
  subst hd'
  obtain ⟨w2,S2,bg2,ws2,es,Y2⟩:=Qdm Y' hi (by omega)
  have x5:Qf ixG (Qb 5) (Qb 9) (E (.val (.int (j:Int)))) w'=some (.ref a,w'):=Qh (Qe rfl) (Qe rfl) (X8 (i:=i) Y'.hw (by rw [List.getElem?_map,hi];rfl))
  have x6:Qf ixG (Qb 6) (Qb 9) (E (.val (.int (j:Int)))) w'=some (.ref (a+4),w'):=Qh (Qe rfl) (Qe rfl) (X8 (i:=i) Y'.ht (by rw [List.getElem?_map,hi];rfl))
  exact WP.of ((QN (XI (b:=true) (QR (QW (yw (Qe rfl) (Qe rfl) x5 x6) rfl es)))).trans QO) ⟨S2,bg2,ws2,_,rfl,Y2⟩
 obtain ⟨q,w',eM,S',bg',ws',z11,rfl,Y'⟩:=M
 exact ⟨w',S',bg',ws',z11,qc (zU (m:=m) (ZJ (Qe rfl)) (by omega)) eM,Y'.mono (by omega)⟩
end
theorem QcU {hp:Hs} {a i:Nat} {ds:List DV} {d:DV} (h:hp[a]?=some (.lst ds)) (hi:i < ds.length):jd (.ref a) (.int (i:Int)) d hp=some ((),hp.set a (.lst (ds.set i d))):=by
 show (Jn a >>= _) hp=_
 rw [Qi (Z2 h)]
 show (asI (.int (i:Int)) >>= fun k=>match ixN ds.length k with | some j=>jL a (.lst (ds.set j d)) | none=>failure) hp=_
 simp only [asI,pure_bind,Gg hi];rfl
theorem vn {x:Str} {g:DEx} {r:List (DEx×DEx)} {env:En} {hp hp1 hp2:Hs} {d:DV} {ps:List (Key×DV)} (hg:g env hp=some (d,hp1)) (hr:evP r env hp1=some (ps,hp2)):evP ((eC (.str x),g)::r) env hp=some ((.inr x,d)::ps,hp2):=by
 show (do let y <- eC (.str x) env;let k <- J4 y;let z <- g env;let ps <- evP r env;pure ((k,z)::ps)) hp=_
 rw [Qi (rfl:eC (.str x) env hp=some (.str x,hp)),Qi (rfl:J4 (.str x) hp=some (.inr x,hp)),Qi hg,Qi hr];rfl
theorem kY {ps:List (DEx×DEx)} {env:En} {hp hp1:Hs} {kvs:List (Key×DV)} (h:evP ps env hp=some (kvs,hp1)) (hl:kvs.length<=15):Xd ps env hp=some (.ref hp1.length,hp1++[.dic (YS [] kvs)]):=by
 unfold Xd
 rw [Qi h,Qi (show QE (decide (kvs.length<=15)) hp1=some ((),hp1) by rw [decide_eq_true hl];rfl)];rfl
section
variable {w:Hs} {pl:Nat} {S:TR.Sh} {bg:TR.Bg} {H:List (Option Nat)} {ws:List TR.Wk} {N:Nat}
theorem QdS (Y:Sys w pl S bg H ws N) {i:Nat} (hi:i < H.length) (c:Int) (e0 e1 e4 e8 e10 e11 e12 e13:Sl):∃ w' ws' y12 y13,Qq (QA 12 (Qu 1 Yi (Qc (Qb 7) (Qm)))) (Qq (QA 13 (QF "Shelf" "readings" 1 Q0 (Qb 2) Qm)) (Qq (Zo (JZ "Walk" 3 ZP (Qc (Qb 2) (Qc (Qb 12) (Qm)))) (gSb (Qb 5) (Qb 9))) (Qq (sIf (eB (Qf neG (QF "Shelf" "readings" 1 Q0 (Qb 2) Qm) (Qb 13))) (QJ (eC (.bl false))) (Q5)) (Qq (Zo (Xd [(eC (.str "deed"),Qb 12),(eC (.str "aim"),Qf ixG (Qb 12) (eC (.int 1))),(eC (.str "here"),eC .non),(eC (.str "level"),eC (.int 0)),(eC (.str "ways"),Jo)]) (gSb (Qb 6) (Qb 9))) (Qq (Zo (eC (.bl false)) (gSb (Qf ixG (Qb 6) (Qb 9)) (eC (.str "over")))) (Zo (eC (.bl true)) (gSb (Qf ixG (Qb 6) (Qb 9)) (eC (.str "fresh"))))))))) [e0,e1,.val (.ref 1),.val (.ref (pl+1)),e4,.val (.ref (pl+2)),.val (.ref (pl+3)),.val (.int c),e8,.val (.int (i:Int)),e10,e11,e12,e13] w=some ((.nx,[e0,e1,.val (.ref 1),.val (.ref (pl+1)),e4,.val (.ref (pl+2)),.val (.ref (pl+3)),.val (.int c),e8,.val (.int (i:Int)),e10,e11,y12,y13]),w')/\Sys w' pl S bg (H.set i (some w.length)) ws' N:=by
 obtain ⟨d,de,_⟩:=Qfq c w
 have p3:=Y.p3
 have lw:pl+3 < w.length:=(List.getElem?_eq_some_iff.mp Y.ht).1
 let E:Sl->Sl->En:=fun z12 z13=>[e0,e1,.val (.ref 1),.val (.ref (pl+1)),e4,.val (.ref (pl+2)),.val (.ref (pl+3)),.val (.int c),e8,.val (.int (i:Int)),e10,e11,z12,z13]
 let L:=w.length
 let E2:En:=E (.val (ZM d)) (.val (.int S.rd))
 have s1:QA 12 (Qu 1 Yi (Qc (Qb 7) (Qm))) (E e12 e13) w=some ((.nx,E (.val (ZM d)) e13),w):=QI (QW (ZJ (Qe rfl)) rfl de)
 have s2:QA 13 (QF "Shelf" "readings" 1 Q0 (Qb 2) Qm) (E (.val (ZM d)) e13) w=some ((.nx,E2),w):=QI (Q4 (Qe rfl) Y.h1 (xM ..) Xc rfl (YA Y.h1))
 let w1:Hs:=(w++[wkO 1 (L+1) (L+2) (TR.fresh d),.dic [],.lst []]).set (pl+2) (.lst ((H.map hD).set i (.ref L)))
 have l1:w1.length=L+3:=by show ((w++_).set _ _).length=_;simp [L]
 have g1:∀ {j:Nat} {x:OV},j≠pl+2->w[j]?=some x->w1[j]?=some x:=fun {j x} hj h=>gs (Ne.symm hj) ((List.getElem?_append_left (List.getElem?_eq_some_iff.mp h).1).trans h)
 have s3:Zo (JZ "Walk" 3 ZP (Qc (Qb 2) (Qc (Qb 12) (Qm)))) (gSb (Qb 5) (Qb 9)) E2 w=some ((.nx,E2),w1):=by
  refine YC (uj (n:=1) (d:=d) (hp0:=w) (hp:=w) (ZQ (Qe rfl) (Qe rfl))) ?_
  unfold gSb
  rw [Qi (Qe rfl),Qi (Qe rfl),Qi (QcU (i:=i) ((List.getElem?_append_left (by omega)).trans Y.hw) (by simpa using hi))];rfl
 have s4:sIf (eB (Qf neG (QF "Shelf" "readings" 1 Q0 (Qb 2) Qm) (Qb 13))) (QJ (eC (.bl false))) (Q5) E2 w1=some ((.nx,E2),w1):=(QN (QR (Qh (Q4 (Qe rfl) (g1 (by omega) Y.h1) (xM ..) Xc rfl (YA (g1 (by omega) Y.h1))) (Qe rfl) (Qd3 _ w1)))).trans QO
 let kv:List (Key×DV):=[(.inr "deed", ZM d),(.inr "aim", .int d.key),(.inr "here", .non),(.inr "level", .int 0),(.inr "ways", .ref (L+3))]
 have dx:ixG (ZM d) (.int 1) w1=some (.int d.key,w1):=by cases d<;>exact ZV (i:=1) rfl w1
 have nw:Xd [(eC (.str "deed"),Qb 12),(eC (.str "aim"),Qf ixG (Qb 12) (eC (.int 1))),(eC (.str "here"),eC .non),(eC (.str "level"),eC (.int 0)),(eC (.str "ways"),Jo)] E2 w1=some (.ref (L+4),w1++[.dic []]++[.dic kv]):=by
  have nd:Jo E2 w1=some (.ref (L+3),w1++[.dic []]):=by
   show some (DV.ref w1.length,w1++[.dic []])=_
   rw [l1]
  have:=kY (vn (x := "deed") (g:=Qb 12) (env:=E2) (hp:=w1) (Qe rfl) (vn (x := "aim") (g:=Qf ixG (Qb 12) (eC (.int 1))) (Qh (Qe rfl) rfl dx) (vn (x := "here") (g:=eC .non) (d:=.non) rfl (vn (x := "level") (g:=eC (.int 0)) (d:=.int 0) rfl (vn (x := "ways") (g:=Jo) (r:=[]) (ps:=[]) nd rfl))))) (Nat.le_of_ble_eq_true rfl)
  rw [this]
  have e4:(w1++[OV.dic []]).length=L+4:=by rw [List.length_append,l1];rfl
  rw [e4];rfl
 let w2:Hs:=(w1++[OV.dic []]++[OV.dic kv]).set (pl+3) (.lst ((H.map stD).set i (.ref (L+4))))
 have t1:(w1++[OV.dic []]++[OV.dic kv])[pl+3]?=some (.lst (H.map stD)):=by
  have h:=g1 (j:=pl+3) (by omega) Y.ht
  have hl:=(List.getElem?_eq_some_iff.mp h).1
  rw [List.append_assoc,List.getElem?_append_left hl];exact h
 have s5:Zo (Xd [(eC (.str "deed"),Qb 12),(eC (.str "aim"),Qf ixG (Qb 12) (eC (.int 1))),(eC (.str "here"),eC .non),(eC (.str "level"),eC (.int 0)),(eC (.str "ways"),Jo)]) (gSb (Qb 6) (Qb 9)) E2 w1=some ((.nx,E2),w2):=by
  refine YC nw ?_
  unfold gSb
  rw [Qi (Qe rfl),Qi (Qe rfl),Qi (QcU (i:=i) t1 (by simpa using hi))];rfl
 have lst4:w2[L+4]?=some (.dic kv):=by
  show ((w1++[OV.dic []]++[OV.dic kv]).set (pl+3) _)[L+4]?=_
  refine gs (by omega) ?_
  have e4:(w1++[OV.dic []]).length=L+4:=by rw [List.length_append,l1];rfl
  rw [<- e4];simp
 have x6:∀ (w':Hs),w'[pl+3]?=w2[pl+3]?->Qf ixG (Qb 6) (Qb 9) E2 w'=some (.ref (L+4),w'):=fun w' h=>Qh (Qe rfl) (Qe rfl) (X8 (i:=i) (h.trans (gss t1)) (List.getElem?_set_self (by simpa using hi)))
 have s6:=Jv (e:=eC (.bl false)) (o:=Qf ixG (Qb 6) (Qb 9)) (x := "over") (env:=E2) (hp:=w2) (d:=.bl false) rfl (x6 w2 rfl) lst4 (Nat.le_of_ble_eq_true rfl)
 have s7:=Jv (e:=eC (.bl true)) (o:=Qf ixG (Qb 6) (Qb 9)) (x := "fresh") (env:=E2) (hp:=w2.set (L+4) (.dic (JT kv (.inr "over") (.bl false)))) (d:=.bl true) rfl (x6 _ (QU _ _ _ _ (by omega))) (gss lst4) (Nat.le_of_ble_eq_true rfl)
 refine ⟨_,ws.set i (TR.fresh d),_,_,(Qk s1).trans ((Qk s2).trans ((Qk s3).trans ((Qk s4).trans ((Qk s5).trans ((Qk s6).trans s7))))),?_⟩
 have fin:(w2.set (L+4) (.dic (JT kv (.inr "over") (.bl false)))).set (L+4) (.dic (JT (JT kv (.inr "over") (.bl false)) (.inr "fresh") (.bl true)))=((w++[wkO 1 (w.length+1) (w.length+2) (TR.fresh d),.dic [],.lst [],.dic [],.dic (ssW (w.length+3) (TR.fresh d) true)]).set (pl+2) (.lst ((H.map hD).set i (.ref w.length)))).set (pl+3) (.lst ((H.map stD).set i (.ref (w.length+4)))):=by
  have ek:JT (JT kv (.inr "over") (.bl false)) (.inr "fresh") (.bl true)=ssW (L+3) (TR.fresh d) true:=rfl
  rw [List.set_set,ek]
  show ((w1++[OV.dic []]++[OV.dic kv]).set (pl+3) _).set (L+4) _=_
  rw [List.set_comm _ _ (by omega)]
  congr 1
  have e4:(w1++[OV.dic []]).length=L+4:=by rw [List.length_append,l1];rfl
  rw [List.set_append_right _ _ (by omega),e4,Nat.sub_self]
  show ((w++[wkO 1 (L+1) (L+2) (TR.fresh d),.dic [],.lst []]).set (pl+2) _++[OV.dic []])++[OV.dic (ssW (L+3) (TR.fresh d) true)]=_
  rw [List.append_assoc,<- List.set_append_left _ _ (by simp;omega),List.append_assoc];rfl
 rw [fin]
 exact QeQ Y hi d
theorem Qea (Y:Sys w pl S bg H ws N) (hH:0 < H.length) (hH8:H.length<=8) (hN:N+5 < 890) (c:Int) (e0 e1 e8 e9 e10 e11 e12 e13:Sl):∃ w' S' bg' H' ws' z9 z10 z11 z12 z13,Gj [e0,e1,.val (.ref 1),.val (.ref (pl+1)),.val (.int (H.length:Nat)),.val (.ref (pl+2)),.val (.ref (pl+3)),.val (.int c),e8,e9,e10,e11,e12,e13] w=some ((.nx,[e0,e1,.val (.ref 1),.val (.ref (pl+1)),.val (.int (H.length:Nat)),.val (.ref (pl+2)),.val (.ref (pl+3)),.val (.int c),e8,z9,z10,z11,z12,z13]),w')/\Sys w' pl S' bg' H' ws' (N+5)/\H'.length=H.length:=by
  let E:Sl->Sl->Sl->Sl->Sl->En:=fun z9 z10 z11 z12 z13=>[e0,e1,.val (.ref 1),.val (.ref (pl+1)),.val (.int (H.length:Nat)),.val (.ref (pl+2)),.val (.ref (pl+3)),.val (.int c),e8,z9,z10,z11,z12,z13]
  have pk:=Zc (Jt c 10111 H.length (by decide) (by decide) (by omega))
  obtain ⟨i,hi⟩:=yh (Xn c 10111 H.length (by omega))
  have hil:=Ya c 10111 H.length (by omega)
  rw [hi] at pk hil
  have hil':i < H.length:=by omega
  have p5:=Zc (Jt c 10133 5 (by decide) (by decide) (by decide))
  obtain ⟨m,hm⟩:=yh (Xn c 10133 5 (by decide))
  have ml:=Ya c 10133 5 (by decide)
  rw [hm] at p5 ml
  have p2:=Zc (Jt c 10139 2 (by decide) (by decide) (by decide))
  obtain ⟨m2,hm2⟩:=yh (Xn c 10139 2 (by decide))
  have ml2:=Ya c 10139 2 (by decide)
  rw [hm2] at p2 ml2
  let I:Sl:=.val (.int (i:Int))
  have s1:QA 9 (Qu 3 Qx (Qc (Qb 7) (Qc (eC (.int 10111)) (Qc (Qb 4) (Qm))))) (E e9 e10 e11 e12 e13) w=some ((.nx,E I e10 e11 e12 e13),w):=QI (QW (ZK (Qe rfl) rfl (Qe rfl)) rfl (pk _))
  have go:∀ {w1:Hs} {S1:TR.Sh} {bg1:TR.Bg} {H1:List (Option Nat)} {ws1:List TR.Wk} (y12 y13:Sl) {a:Nat},Sys w1 pl S1 bg1 H1 ws1 N->H1[i]?=some (some a)->∃ w' S' bg' ws' z10 z11,Qq (QA 10 (Qf Zt (eC (.int 1)) (Qu 3 Qx (Qc (Qb 7) (Qc (eC (.int 10133)) (Qc (eC (.int 5)) (Qm))))))) (Qq (sIf (eB (Qf ixG (Qf ixG (Qb 6) (Qb 9)) (eC (.str "fresh")))) (Qq (QA 10 (Qf qJ (Qb 10) (Qu 3 Qx (Qc (Qb 7) (Qc (eC (.int 10139)) (Qc (eC (.int 2)) (Qm))))))) (Zo (eC (.bl false)) (gSb (Qf ixG (Qb 6) (Qb 9)) (eC (.str "fresh"))))) (Q5)) (KL)) (E I e10 e11 y12 y13) w1=some ((.nx,E I z10 z11 y12 y13),w')/\Sys w' pl S' bg' H1 ws' (N+5):=by
    intro w1 S1 bg1 H1 ws1 y12 y13 a Y1 ha
    obtain ⟨v,fr,a1,a2,a3,a4,a5,a6,a7,a8,a9⟩:=Y1.ob i a ha
    have q1:QA 10 (Qf Zt (eC (.int 1)) (Qu 3 Qx (Qc (Qb 7) (Qc (eC (.int 10133)) (Qc (eC (.int 5)) (Qm)))))) (E I e10 e11 y12 y13) w1=some ((.nx,E I (.val (.int ((1+m:Nat):Int))) e11 y12 y13),w1):=QI (Qh rfl (QW (ZK (Qe rfl) rfl rfl) rfl (p5 _)) (by show some (DV.int (1+(m:Int)),w1)=_;rw [show (1+(m:Int))=((1+m:Nat):Int) by omega]))
    have x6:∀ z10:Sl,Qf ixG (Qb 6) (Qb 9) (E I z10 e11 y12 y13) w1=some (.ref (a+4),w1):=fun z10=>Qh (Qe rfl) (Qe rfl) (X8 (i:=i) Y1.ht (by rw [List.getElem?_map,ha];rfl))
    have xf:∀ z10:Sl,Qf ixG (Qf ixG (Qb 6) (Qb 9)) (eC (.str "fresh")) (E I z10 e11 y12 y13) w1=some (.bl fr,w1):=fun z10=>VO (x6 z10) a6 (Qdi ..)
    cases hf:fr with
    | true =>
      subst hf
      have q2:QA 10 (Qf qJ (Qb 10) (Qu 3 Qx (Qc (Qb 7) (Qc (eC (.int 10139)) (Qc (eC (.int 2)) (Qm)))))) (E I (.val (.int ((1+m:Nat):Int))) e11 y12 y13) w1=some ((.nx,E I (.val (.int (((1+m) * m2:Nat):Int))) e11 y12 y13),w1):=QI (Qh (Qe rfl) (QW (ZK (Qe rfl) rfl rfl) rfl (p2 _)) ((Zc (yg ((1+m:Nat):Int) (m2:Int) (by omega) (by omega)) w1).trans (by rw [Int.natCast_mul])))
      have q3:=Jv (e:=eC (.bl false)) (o:=Qf ixG (Qb 6) (Qb 9)) (x := "fresh") (env:=E I (.val (.int (((1+m) * m2:Nat):Int))) e11 y12 y13) (hp:=w1) (d:=.bl false) rfl (x6 _) a6 (X0 ..)
      rw [show JT (ssW (a+3) v true) (.inr "fresh") (.bl false)=ssW (a+3) v false from Qbo ..] at q3
      have mm:(1+m) * m2<=5:=by
        have h2:m2=0∨m2=1:=by omega
        rcases h2 with rfl | rfl<;>omega
      obtain ⟨w',S',bg',ws',z11,eL,Y'⟩:=kM (Qdl Y1 ha a1 false) ha hN mm e0 e1 (.val (.int (H.length:Nat))) (.val (.int c)) e8 e11 y12 y13
      exact ⟨w',S',bg',ws',_,z11,(Qk q1).trans ((Qk ((Q9 (QR (xf _))).trans ((Qk q2).trans q3))).trans eL),Y'⟩
    | false =>
      subst hf
      obtain ⟨w',S',bg',ws',z11,eL,Y'⟩:=kM Y1 ha hN (show 1+m<=5 by omega) e0 e1 (.val (.int (H.length:Nat))) (.val (.int c)) e8 e11 y12 y13
      exact ⟨w',S',bg',ws',_,z11,(Qk q1).trans ((Qk ((QN (QR (xf _))).trans QO)).trans eL),Y'⟩
  have wk:Qf ixG (Qb 5) (Qb 9) (E I e10 e11 e12 e13) w=some (hD H[i],w):=Qh (Qe rfl) (Qe rfl) (X8 (i:=i) Y.hw (by rw [List.getElem?_map,List.getElem?_eq_getElem hil'];rfl))
  obtain ⟨wn,wsn,y12,y13,en,Yn⟩:=QdS Y hil' c e0 e1 (.val (.int (H.length:Nat))) e8 e10 e11 e12 e13
  obtain ⟨w',S',bg',ws',z10,z11,eg,Y'⟩:=go y12 y13 Yn (List.getElem?_set_self hil')
  cases hx:H[i] with
  | none =>
    rw [hx] at wk
    exact ⟨w',S',bg',_,ws',_,_,_,_,_,(Qk s1).trans ((Qk ((Q9 (kD (QR (b:=true) (Qh wk rfl rfl)))).trans en)).trans eg),Y',by simp⟩
  | some a =>
    rw [hx] at wk
    have ha:H[i]?=some (some a):=by rw [List.getElem?_eq_getElem hil',hx]
    obtain ⟨v,fr,a1,a2,a3,a4,a5,a6,a7,a8,a9⟩:=Y.ob i a ha
    have x6:Qf ixG (Qb 6) (Qb 9) (E I e10 e11 e12 e13) w=some (.ref (a+4),w):=Qh (Qe rfl) (Qe rfl) (X8 (i:=i) Y.ht (by rw [List.getElem?_map,ha];rfl))
    have t:eOr (eB (Qf isD (Qf ixG (Qb 5) (Qb 9)) (eC .non))) (eB (Qf ixG (Qf ixG (Qb 6) (Qb 9)) (eC (.str "over")))) (E I e10 e11 e12 e13) w=some (v.ended,w):=(jm (QR (b:=false) (Qh wk rfl rfl))).trans (QR (VO x6 a6 (Vs ..)))
    cases he:v.ended with
    | true =>
      rw [he] at t
      exact ⟨w',S',bg',_,ws',_,_,_,_,_,(Qk s1).trans ((Qk ((Q9 t).trans en)).trans eg),Y',by simp⟩
    | false =>
      rw [he] at t
      obtain ⟨w2,S2,bg2,ws2,u10,u11,eg2,Y2⟩:=go e12 e13 Y ha
      exact ⟨w2,S2,bg2,H,ws2,_,_,_,_,_,(Qk s1).trans ((Qk ((QN t).trans QO)).trans eg2),Y2,rfl⟩
end
theorem QdJ (ns:List Int) (k:Nat) (hl:ns.length<=63):∃ x,JK [.lst (ns.map .int),.int k]=pure (.int x):=by
 by_cases h:k < ns.length
 ·have a:=zP (xs:=ns.map DV.int) (j:=k) (v:=.int ns[k]) (by simp [h])
  refine ⟨ns[k],?_⟩
  have h':(k:Int) < (ns.length:Int):=by omega
  simp [JK,YL,Zb,Qq,QA,QJ,YD,sIf,Q5,xD,jB,xB,xC,Qf,Qb,eC,eB,asB,Xf,eOr,JY,J3,xc,X2,eIf,j9,Qm,Qc,Q3,Y7,Qu,Zl,QE,gN,Z4,Ju,Z9,Ja,Jl,Z7,Js,Xo,Yz,xy,Z6,JQ,qH,ixD,asI,a,h']
 ·have h':¬ (k:Int) < (ns.length:Int):=by omega
  exact ⟨0,by simp [JK,YL,Zb,Qq,QA,QJ,YD,sIf,Q5,xD,jB,xB,xC,Qf,Qb,eC,eB,asB,Xf,eOr,JY,J3,xc,X2,eIf,j9,Qm,Qc,Q3,Y7,Qu,Zl,QE,gN,Z4,Ju,Z9,Ja,Jl,Z7,Js,Xo,Yz,xy,Z6,JQ,qH,h']⟩
section
variable {hp:Hs} {S:TR.Sh}
theorem QgC (h1:hp[1]?=some (.ins "Shelf" (shF S.room 2 S.top S.rd S.wr))) (h2:hp[2]?=some (.lst (S.pg.map pgD))) (hl:S.pg.length < 99000) (env:En) (he:env[2]?=some (.val (.ref 1))) :
    jO env hp=some (.ref hp.length,hp.set 1 (.ins "Shelf" (shF S.room 2 S.top (S.rd+S.pg.length) S.wr))++[.lst (S.pg.map pgD)]):=by
  let W:Nat->Hs:=fun i=>hp.set 1 (.ins "Shelf" (shF S.room 2 S.top (S.rd+i) S.wr))
  have w1:∀ i,(W i)[1]?=some (.ins "Shelf" (shF S.room 2 S.top (S.rd+i) S.wr)):=fun i=>gss h1
  have w2:∀ i,(W i)[2]?=some (.lst (S.pg.map pgD)):=fun i=>gs (by decide) h2
  have ws:∀ i,(W i).set 1 (.ins "Shelf" (shF S.room 2 S.top (S.rd+i+1) S.wr))=W (i+1):=fun i=>by
    show (hp.set 1 _).set 1 _=hp.set 1 _
    rw [List.set_set,show S.rd+(i:Int)+1=S.rd+((i+1:Nat):Int) by omega]
  have w0:W 0=hp:=by
    show hp.set 1 _=hp
    rw [show S.rd+((0:Nat):Int)=S.rd by simp];exact Vq h1
  have ce:∀ n:Nat,cE [2] env (.int n)=[.val (.int n),.val (.ref 1)]:=fun n=>by
    show [Sl.val (DV.int n),G1 ((env[2]?).getD .un)]=_
    rw [he];rfl
  have cx:∀ (m i fuel:Nat),m+i=S.pg.length->m < fuel->ZR (nxD (Ze 0 S.pg.length)) (fun d=>jf (cE [2] env d)) (fun d=>QF "Shelf" "read" 2 Zd (Qb 1) (Qc (Qb 0) Qm) (cE [2] env d)) fuel i (W i)=some ((S.pg.drop i).map pgD,W S.pg.length):=by
    intro m
    induction m with
    | zero =>
      intro i fuel e hf
      obtain ⟨g,rfl⟩:∃ g,fuel=g+1:=⟨fuel - 1,by omega⟩
      have:i=S.pg.length:=by omega
      subst this
      have x:=XY (Ze 0 S.pg.length) S.pg.length (by rw [Jj];omega) (W S.pg.length)
      rw [List.getElem?_eq_none (by rw [Jj];omega)] at x
      rw [ZR,Qi x,List.drop_length];rfl
    | succ m ih =>
      intro i fuel e hf
      obtain ⟨g,rfl⟩:∃ g,fuel=g+1:=⟨fuel - 1,by omega⟩
      have hi:i < S.pg.length:=by omega
      have x:=XY (Ze 0 S.pg.length) i (by rw [Jj];omega) (W i)
      have gi:(Ze 0 S.pg.length)[i]?=some (.int (i:Int)):=by
        have:=List.getElem?_eq_getElem (l:=Ze 0 S.pg.length) (i:=i) (by rw [Jj];exact hi)
        rw [this];congr 1
        exact (xA this).2
      rw [gi] at x
      have hg:S.pg[i]?=some S.pg[i]:=List.getElem?_eq_getElem hi
      have rd:=Vp (i:=i) (d:=pgD S.pg[i]) (w1 i) (w2 i) (by decide) (by rw [List.getElem?_map,hg];rfl)
      rw [ws] at rd
      have me:QF "Shelf" "read" 2 Zd (Qb 1) (Qc (Qb 0) Qm) (cE [2] env (.int (i:Int))) (W i)=some (pgD S.pg[i],W (i+1)):=by
        rw [ce]
        exact Q4 (Qe rfl) (w1 i) (qN ..) (ZJ (Qe rfl)) rfl rd
      rw [ZR,Qi x]
      simp only
      rw [show (jf (cE [2] env (.int (i:Int))))=pure true from rfl,pure_bind]
      simp only [if_true]
      rw [Qi me,Qi (ih (i+1) g (by omega) (by omega)),List.drop_eq_getElem_cons hi];rfl
  have src:xOf (Vc (Qc (QF "Shelf" "pages" 1 Jc (Qb 2) Qm) Qm)) env hp=some (nxD (Ze 0 S.pg.length),hp):=UB (zU (m:=S.pg.length) (ZJ ((Q4 (Qe he) h1 (zJ ..) Xc rfl (V2 h1 h2)).trans (by rw [List.length_map]))) (by omega))
  have c0:=cx S.pg.length 0 lim rfl (by unfold lim;omega)
  rw [w0,List.drop_zero] at c0
  unfold jO ZN
  rw [Qi src,Qi c0]
  show some (DV.ref (W S.pg.length).length,_)=_
  rw [show (W S.pg.length).length=hp.length from by show (hp.set 1 _).length=_;simp]
end
section
variable {w:Hs} {pl:Nat} {S:TR.Sh} {bg:TR.Bg} {H:List (Option Nat)} {ws:List TR.Wk} {N:Nat}
theorem QfF (Y:Sys w pl S bg H ws N) (hN:N < 890) (e0 e1 e4 e5 e6 e7 e8 e9 e10 e11 e12 e13:Sl):∃ w' z8,gY [e0,e1,.val (.ref 1),.val (.ref (pl+1)),e4,e5,e6,e7,e8,e9,e10,e11,e12,e13] w=some ((.nx,[e0,e1,.val (.ref 1),.val (.ref (pl+1)),e4,e5,e6,e7,z8,e9,e10,e11,e12,e13]),w'):=by
 have pn:=Y.pn
 have p3:=Y.p3
 obtain ⟨wr,hs⟩:=Y.hs
 let E:Sl->En:=fun z8=>[e0,e1,.val (.ref 1),.val (.ref (pl+1)),e4,e5,e6,e7,z8,e9,e10,e11,e12,e13]
 have M:WP (xh (fun d env=>do let env' <- gN 8 d env;kS env') (Ze 0 S.pg.length) (E e8)) w fun q _=>∃ z8,q=(.nx,E z8):=by
  refine jS (fun j env w'=>∃ z8,env=E z8/\w'=w.set 1 (.ins "Shelf" (shF S.room 2 S.top (S.rd+j) S.wr))) _ ⟨e8,rfl,?_⟩ (fun j d0 hd0 env w' zz=>?_) (fun env w' zz=>by obtain ⟨z8,e,_⟩:=zz;exact ⟨z8,by rw [e]⟩)
  ·rw [show S.rd+((0:Nat):Int)=S.rd by simp];exact (Vq Y.h1).symm
  ·obtain ⟨z8,rfl,rfl⟩:=zz
   obtain ⟨hj,hd'⟩:=xA hd0
   subst hd'
   have hg:S.pg[j]?=some S.pg[j]:=List.getElem?_eq_getElem hj
   generalize S.pg[j]=p at hg
   have w1:(w.set 1 (.ins "Shelf" (shF S.room 2 S.top (S.rd+j) S.wr)))[1]?=some (.ins "Shelf" (shF S.room 2 S.top (S.rd+j) S.wr)):=gss Y.h1
   have rd:=Vp (i:=j) (d:=pgD p) w1 (gs (by decide) Y.h2) (by decide) (by rw [List.getElem?_map,hg];rfl)
   rw [List.set_set,show S.rd+(j:Int)+1=S.rd+((j+1:Nat):Int) by omega] at rd
   have t1:QF "Shelf" "read" 2 Zd (Qb 2) (Qc (Qb 8) (Qm)) (E (.val (.int (j:Int)))) (w.set 1 (.ins "Shelf" (shF S.room 2 S.top (S.rd+j) S.wr)))=some (pgD p,w.set 1 (.ins "Shelf" (shF S.room 2 S.top (S.rd+((j+1:Nat):Int)) S.wr))):=Q4 (Qe rfl) w1 (qN ..) (ZJ (Qe rfl)) rfl rd
   have t2:∀ x,Qf ixG (Qf ixG (Qb 3) (eC (.str "pages"))) (Qb 8) (E (.val (.int (j:Int)))) (w.set 1 x)=some (pgD p,w.set 1 x):=fun x=>Qh (VO (Qe rfl) (gs (by omega) hs) (JC ..)) (Qe rfl) (X8 (i:=j) (gs (by omega) Y.hp) (by rw [List.getElem?_map,hg];rfl))
   exact WP.of ((QN (XI (b:=true) (QR (QW (ZQ t1 (t2 _)) rfl (Qc3 _ 2 (by decide) (Qam 0 p) _))))).trans QO) ⟨_,rfl,rfl⟩
 obtain ⟨q,w',eM,z8,rfl⟩:=M
 refine ⟨w',z8,qc (zU (m:=S.pg.length) (ZJ ?_) (by omega)) eM⟩
 exact (JD (ZJ (VO (Qe rfl) hs (JC ..))) (zx Y.hp)).trans (by rw [List.length_map])
end
theorem Qce (ns:List Int) (h:ns.length<=63):∃ hp,GT [.lst (ns.map .int)] []=some (.bl true,hp):=by
 obtain ⟨x0,c0⟩:=QdJ ns 0 h
 have c0':=Zc c0
 simp only [Int.natCast_zero] at c0'
 obtain ⟨S,bg,hp1,kvs,b1,T,rm,pn,h1,h2,h0⟩:=QbJ x0
 have l2:2 < hp1.length:=(List.getElem?_eq_some_iff.mp h2).1
 have p6:=Zc (Jt x0 10103 6 (by decide) (by decide) (by decide))
 obtain ⟨m,hm⟩:=yh (Xn x0 10103 6 (by decide))
 have ml:=Ya x0 10103 6 (by decide)
 rw [hm] at p6 ml
 let pl:=hp1.length
 let S1:TR.Sh:={ S with rd:=S.rd+S.pg.length,wr:=S.wr }
 let hp2:Hs:=hp1.set 1 (.ins "Shelf" (shF S.room 2 S.top (S.rd+S.pg.length) S.wr))++[OV.lst (S.pg.map pgD)]
 have lp2:hp2.length=pl+1:=by show (hp1.set 1 _++_).length=_;simp [pl]
 have g2:∀ {j:Nat} {x:OV},j≠1->hp1[j]?=some x->hp2[j]?=some x:=fun {j x} hj hx=>by
  show (hp1.set 1 _++_)[j]?=_
  rw [List.getElem?_append_left (by rw [List.length_set];exact (List.getElem?_eq_some_iff.mp hx).1)]
  exact gs (Ne.symm hj) hx
 have k1:hp2[1]?=some (.ins "Shelf" (shF S1.room 2 S1.top S1.rd S1.wr)):=by
  show (hp1.set 1 _++_)[1]?=_
  rw [List.getElem?_append_left (by rw [List.length_set];omega)]
  exact gss h1
 have kp:hp2[pl]?=some (.lst (S.pg.map pgD)):=by
  show (hp1.set 1 _++_)[hp1.length]?=_
  rw [List.getElem?_append_right (by rw [List.length_set];omega),List.length_set,Nat.sub_self];rfl
 let nsD:DV:=.lst (ns.map .int)
 let e2:Sl->Sl->Sl->Sl->En:=fun z3 z4 z5 z6=>[.val nsD,.val (.int x0),.val (.ref 1),z3,z4,z5,z6,.un,.un,.un,.un,.un,.un,.un]
 have side:Xd [(eC (.str "pages"),jO),(eC (.str "root"),QF "Shelf" "root" 1 ZH (Qb 2) Qm),(eC (.str "room"),QF "Shelf" "room" 1 ZX (Qb 2) Qm)] (e2 .un .un .un .un) hp1=some (.ref (pl+1),hp2++[OV.dic (sdD pl S1.top S1.room none)]):=by
  have:=kY (vn (x := "pages") (g:=jO) (env:=e2 .un .un .un .un) (hp:=hp1) (QgC h1 h2 (by omega) _ rfl) (vn (x := "root") (g:=QF "Shelf" "root" 1 ZH (Qb 2) Qm) (Q4 (Qe rfl) k1 (jM ..) Xc rfl (GA k1)) (vn (x := "room") (g:=QF "Shelf" "room" 1 ZX (Qb 2) Qm) (r:=[]) (ps:=[]) (Q4 (Qe rfl) k1 (vU ..) Xc rfl (Qaf k1)) rfl))) (Nat.le_of_ble_eq_true rfl)
  rw [this,show (hp1.set 1 (OV.ins "Shelf" (shF S.room 2 S.top (S.rd+S.pg.length) S.wr))++[OV.lst (S.pg.map pgD)]).length=pl+1 from lp2];rfl
 let hp3:Hs:=hp2++[OV.dic (sdD pl S1.top S1.room none)]
 have lp3:hp3.length=pl+2:=by show (hp2++_).length=_;rw [List.length_append,lp2];rfl
 let H0:List (Option Nat):=List.replicate (1+m) none
 have H0l:H0.length=1+m:=List.length_replicate ..
 have non:∀ (f:Option Nat->DV),f none=.non->(Ze 0 H0.length).map (fun _=>DV.non)=H0.map f:=fun f hf=>by
  rw [List.map_const',Jj]
  show _=(List.replicate (1+m) none).map f
  rw [List.map_replicate,H0l,hf]
 let e4:Sl->Sl->En:=fun z5 z6=>e2 (.val (.ref (pl+1))) (.val (.int (H0.length:Nat))) z5 z6
 have src:∀ (z5 z6:Sl) (q:Hs),xOf (Vc (Qc (Qb 4) (Qm))) (e4 z5 z6) q=some (nxD (Ze 0 H0.length),q):=fun z5 z6 q=>UB (zU (m:=H0.length) (ZJ (Qe rfl)) (by omega))
 have cx:∀ (z5 z6:Sl) (q:Hs),ZR (nxD (Ze 0 H0.length)) (fun d=>jf (cE [] (e4 z5 z6) d)) (fun d=>eC .non (cE [] (e4 z5 z6) d)) lim 0 q=some ((Ze 0 H0.length).map (fun _=>DV.non),q):=fun z5 z6 q=>zQ (hp:=q) (t:=fun d=>jf (cE [] (e4 z5 z6) d)) (f:=fun d=>eC .non (cE [] (e4 z5 z6) d)) (g:=fun _=>.non) (Ze 0 H0.length) (fun _ _=>rfl) (fun _ _=>rfl) (by rw [Jj];omega)
 have cw:KJ (e4 .un .un) hp3=some (.ref (pl+2),hp3++[OV.lst (H0.map hD)]):=by
  unfold KJ ZN
  rw [Qi (src _ _ _),Qi (cx _ _ _),non hD rfl]
  show some (DV.ref hp3.length,_)=_
  rw [lp3]
 let hp4:Hs:=hp3++[OV.lst (H0.map hD)]
 have lp4:hp4.length=pl+3:=by show (hp3++_).length=_;rw [List.length_append,lp3];rfl
 have cs:KI (e4 (.val (.ref (pl+2))) .un) hp4=some (.ref (pl+3),hp4++[OV.lst (H0.map stD)]):=by
  unfold KI ZN
  rw [Qi (src _ _ _),Qi (cx _ _ _),non stD rfl]
  show some (DV.ref hp4.length,_)=_
  rw [lp4]
 let hp5:Hs:=hp4++[OV.lst (H0.map stD)]
 have ap:∀ {q:Hs} {t:Hs} {j:Nat} {x:OV},q[j]?=some x->(q++t)[j]?=some x:=fun {q t j x} hx=>(List.getElem?_append_left (List.getElem?_eq_some_iff.mp hx).1).trans hx
 have nn:∀ (i a:Nat),H0[i]?=some (some a)->False:=fun i a hx=>by
  have:=List.mem_of_getElem? hx
  have:=List.eq_of_mem_replicate this
  cases this
 let d0:TR.Wk:=⟨.find 0,0,0,none,[],none,none,[],true⟩
 have dead:∀ (i:Nat) (v:TR.Wk),(List.replicate (1+m) d0)[i]?=some v->v.ended=true:=fun i v hv=>by rw [List.eq_of_mem_replicate (List.mem_of_getElem? hv)]
 have Y0:Sys hp5 pl S1 bg H0 (List.replicate (1+m) d0) 0:=by
  refine ⟨T.rd _ _,⟨fun i v hv he=>?_,fun i v c hv he=>?_,fun i j v u c _ hv _ he=>?_⟩,rm,by rw [H0l,List.length_replicate],ap (ap (ap k1)),ap (ap (ap (g2 (by decide) h2))),⟨none,ap (ap ?_)⟩,ap (ap (ap kp)),ap ?_,?_,l2,fun i a hx=>(nn i a hx).elim,fun i j a c _ hx=>(nn i a hx).elim,pn⟩
  ·rw [dead i v hv] at he;cases he
  ·rw [dead i v hv] at he;cases he
  ·rw [dead i v hv] at he;cases he
  ·show (hp2++_)[pl+1]?=_;rw [<- lp2];simp
  ·show (hp3++_)[pl+2]?=_;rw [<- lp3];simp
  ·show (hp4++_)[pl+3]?=_;rw [<- lp4];simp
 have hc:D.yZ (ns.map DV.int) none (some 120)=ns.map .int:=by
  have q:D.yZ (ns.map DV.int) none (some 120)=(ns.map DV.int).take 120:=VB (ns.map DV.int) 120
  rw [q,List.take_of_length_le (by simp;omega)]
 let e6:Sl->Sl->Sl->Sl->Sl->Sl->Sl->En:=fun z7 z8 z9 z10 z11 z12 z13=>[.val nsD,.val (.int x0),.val (.ref 1),.val (.ref (pl+1)),.val (.int (H0.length:Nat)),.val (.ref (pl+2)),.val (.ref (pl+3)),z7,z8,z9,z10,z11,z12,z13]
 have M:WP (y4 (nxD (ns.map .int)) (fun d env=>gN 7 d env >>= fun env'=>Gj env') 100000 0 (e6 .un .un .un .un .un .un .un)) hp5 fun q w=>∃ S' bg' H' ws' z7 z9 z10 z11 z12 z13,q=(.nx,e6 z7 .un z9 z10 z11 z12 z13)/\Sys w pl S' bg' H' ws' 315:=by
  refine QbC _ (fun i env w=>∃ S' bg' H' ws' z7 z9 z10 z11 z12 z13,env=e6 z7 .un z9 z10 z11 z12 z13/\Sys w pl S' bg' H' ws' (5 * i)/\H'.length=H0.length) (by simp;omega) ⟨_,_,_,_,_,_,_,_,_,_,rfl,Y0,rfl⟩ (fun i d hd env w zz=>?_) (fun env w zz=>?_)
  ·obtain ⟨S',bg',H',ws',z7,z9,z10,z11,z12,z13,rfl,Y,hl⟩:=zz
   have hi:i < 63:=by have:=(List.getElem?_eq_some_iff.mp hd).1;simp at this;omega
   obtain ⟨c,_,rfl⟩:=List.mem_map.mp (List.mem_of_getElem? hd)
   obtain ⟨w',S2,bg2,H2,ws2,y9,y10,y11,y12,y13,e,Y2,l3⟩:=Qea Y (by rw [hl,H0l];omega) (by rw [hl,H0l];omega) (by omega) c (.val nsD) (.val (.int x0)) .un z9 z10 z11 z12 z13
   rw [hl] at e
   exact ⟨_,_,e,S2,bg2,H2,ws2,_,y9,y10,y11,y12,y13,rfl,Y2,by rw [l3,hl]⟩
  ·obtain ⟨S',bg',H',ws',z7,z9,z10,z11,z12,z13,rfl,Y,hl⟩:=zz
   exact ⟨S',bg',H',ws',z7,z9,z10,z11,z12,z13,rfl,Y.mono (by simp;omega)⟩
 obtain ⟨q,w,eM,S',bg',H',ws',z7,z9,z10,z11,z12,z13,rfl,Y⟩:=M
 have L:gZ (e6 .un .un .un .un .un .un .un) hp5=some ((.nx,e6 z7 .un z9 z10 z11 z12 z13),w):=by
  refine gF (ds:=ns.map .int) (hp1:=hp5) ?_ eM
  have e1:eSl (Qb 0) Zj (Zk (eC (.int 120))) (e6 .un .un .un .un .un .un .un)=pure (.lst (ns.map .int)):=by
   simp [e6,nsD,eSl,Zj,Zk,slD,hc,Zb,Qq,QA,QJ,YD,sIf,Q5,xD,jB,xB,xC,Qf,Qb,eC,eB,asB,Xf,eOr,JY,J3,xc,X2,eIf,j9,Qm,Qc,Q3,Y7,Qu,Zl,QE,gN,Z4,Ju,Z9,Ja,Jl,Z7,Js,Xo,Yz,xy,Z6,JQ,asI]
  exact xT (Zc e1 _)
 obtain ⟨w2,z8,eL⟩:=QfF Y (by omega) (.val nsD) (.val (.int x0)) (.val (.int (H0.length:Nat))) (.val (.ref (pl+2))) (.val (.ref (pl+3))) z7 .un z9 z10 z11 z12 z13
 have u1:QA 1 (Qu 2 JK (Qc (Qb 0) (Qc (eC (.int 0)) Qm))) [.val nsD,.un,.un,.un,.un,.un,.un,.un,.un,.un,.un,.un,.un,.un] []=some ((.nx,[.val nsD,.val (.int x0),.un,.un,.un,.un,.un,.un,.un,.un,.un,.un,.un,.un]),[]):=QI (QW (ZQ (Qe rfl) rfl) rfl (c0' _))
 have u2:QA 2 (Qu 2 Yu (Qc (Qb 1) (Qc Jo Qm))) [.val nsD,.val (.int x0),.un,.un,.un,.un,.un,.un,.un,.un,.un,.un,.un,.un] []=some ((.nx,e2 .un .un .un .un),hp1):=QI (QW (ZQ (Qe rfl) (v':=.ref 0) (hp2:=[.dic []]) rfl) rfl b1)
 have u4:QA 4 (Qf Zt (eC (.int 1)) (Qu 3 Qx (Qc (Qb 1) (Qc (eC (.int 10103)) (Qc (eC (.int 6)) (Qm)))))) (e2 (.val (.ref (pl+1))) .un .un .un) hp3=some ((.nx,e4 .un .un),hp3):=QI (Qh rfl (QW (ZK (Qe rfl) rfl rfl) rfl (p6 _)) (by show some (DV.int (1+(m:Int)),hp3)=_;rw [H0l,show ((1+m:Nat):Int)=1+(m:Int) by omega]))
 exact ⟨w2,Qz ((Qk u1).trans ((Qk u2).trans ((Qk (QI side)).trans ((Qk u4).trans ((Qk (QI cw)).trans ((Qk (QI cs)).trans ((Qk L).trans ((Qk eL).trans (QD (d:=.bl true) rfl)))))))))⟩
theorem U0 {K:PySem.W.Frag} {a0 a1 a2:Addr} {d0 d1 d2:Option Addr} {n0 n1 n2:Nat} {s0 s1 s2:Array (Option Value)} {t1:Tok} (l0:K.lookup a0=some ⟨.type "tuple", d0,.seq #[.int 0 t1,.ref a1,.ref a2,.none,.none] n0,s0⟩) (l2:K.lookup a2=some ⟨.type "tuple", d2,.seq #[] n2,s2⟩) (l1:K.lookup a1=some ⟨.type "tuple", d1,.seq #[] n1,s1⟩):KRep K (.tup [.int 0,.tup [],.tup [],.non,.non]) (.ref a0):=(uX (xs:=[.int 0,.ref a1,.ref a2,.non,.non]) l0 (Nat.le_of_ble_eq_true rfl) (.cons ⟨_,rfl⟩ (.cons rfl (.cons rfl (.cons rfl (.cons rfl .nil))))) (zw QfE (zw (uX (xs:=[]) l1 (Nat.le_of_ble_eq_true rfl) .nil Gi) (zw (uX (xs:=[]) l2 (Nat.le_of_ble_eq_true rfl) .nil Gi) (zw Qca (zw Qca Gi))))))
theorem QfG {P:Program} {w:World} {K:PySem.W.Frag} {h:Heap} {mg:Str->Option Value} {fa f:Addr} {oc kV dc pm cd ct:Value} {od an:Option Addr} {sl:Array (Option Value)} (X:K.In h) (G:h.Ns mainGlobals mg) (hfa:mg "law" = some (.ref fa)) (Z:Al K mg) (n:PySem.W.nsIn K mainGlobals "law" = some (some (.ref f))) (l:K.lookup f=some ⟨oc,od,.func (PySem.W.fnOf "law" "law" (JP yL) (ZY yL) (Qs yL) .none kV dc pm an cd ct),sl⟩) (c:PySem.W.codeIn K cd "law" = true) (k:PySem.W.keepIn K (.ref f)=true):∃ fd:FuncData,(∀ (s:Shared) (v:Value),BindsTo s fd ⟨[v],[]⟩ [("script", v)])/\∀ base:Heap,K.In base->base.Ns mainGlobals mg->zh P w K mg base CX0 9 fa fd ["script"] (spD K 1 GT):=by
 cases hfa.symm.trans (PySem.W.mg_of X G n)
 exact ⟨PySem.W.fnOf "law" "law" (JP yL) (ZY yL) (Qs yL) .none kV dc pm an cd ct,fun s v=>.of_eq rfl,fun base _ _=>law_fn Z (K7 l c k)⟩
theorem walk {l:PySem.W.OpenLaw} {q:Program} {loose:List Str} {XP:(Str->Option Value)->Heap->Prop} {YP:World->Heap->Prop} {d:DefRec} {K:Params->PySem.W.Frag} (hn:l.most=some 63) (hdf:d.params.defaults=[])
  (hY:∀ (w:World) (h:Heap),YP w h->(K w.params).In h)
  (F:∀ (w:World) (mg:Str->Option Value) (fa:Addr) (h:Heap),(K w.params).In h->h.Ns mainGlobals mg->mg d.name=some (.ref fa) ->
   ∃ fd:FuncData,(∀ (s:Shared) (u:Value),BindsTo s fd ⟨[u],[]⟩ [("script", u)])/\∀ base:Heap,(K w.params).In base->base.Ns mainGlobals mg->zh l.prog w (K w.params) mg base CX0 9 fa fd ["script"] (spD (K w.params) 1 GT)) :
  PySem.W.WalkO q loose XP YP l.row.toRowW d [] (fun f vs=>PySem.call f vs) :=
 L2.Qav (n:=63) (k:=9) (x := "script") (CX:=fun _=>CX0) (sp:=fun w=>spD (K w.params) 1 GT) hn (by decide) hdf ⟨rfl,by decide,by decide⟩ hY F (fun w _ a ns hl _ hS=>QfH (Qce ns hl) hS) fun _ _ _ _ _ z=>z
end K22
open PySem PySem.W PyProof.Rows
open D in
set_option maxRecDepth 100000 in
set_option maxHeartbeats 0 in
theorem PySem.Challenge.cw_sidelink_k22_each_step_told_holds : PySem.Challenge.rw_sidelink_k22_each_step_told.Holds := by
 w_on;o_law;k_head;(case hw=>w_witness2)
 k_fill
 refine K22.walk (l:=PySem.Challenge.rw_sidelink_k22_each_step_told) rfl rfl (fun w h Y=>PySem.W.kIn_of Y) ?F
 case F =>
  intro w mg fa h KX G hmg
  have c0:UC _ "Shelf" := uc KX (by k_is) (by k_is) (by k_is) (by k_is) (by k_is)
  have c1:UC _ "Walk" := uc KX (by k_is) (by k_is) (by k_is) (by k_is) (by k_is)
  exact K22.QfG KX G hmg (by constructor<;>first | exact PySem.W.mg_none_of KX G (by k_is) | exact uf KX G (by k_is) (by k_is) (by k_is) (by k_is) | exact ug KX G (by k_is) | exact ut KX G (by k_is) (K22.U0 (by k_is) (by k_is) (by k_is)) | exact uk KX c0 (by k_is) (by k_is) | exact um KX c0 (by k_is) (by k_is) (by k_is) (by k_is) (by k_is) (by k_is) | exact uk KX c1 (by k_is) (by k_is) | exact um KX c1 (by k_is) (by k_is) (by k_is) (by k_is) (by k_is) (by k_is) | exact ui KX G (by k_is) (by k_is) (by k_is) (by k_is) (by k_is) (by k_is) (by k_is) (by k_is)) (by k_is) (by k_is) (by k_is) (by k_is)

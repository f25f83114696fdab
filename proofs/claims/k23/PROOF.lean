import PyProof.Rows.All
import Wide.All
import OpenK.AllK
import Wide.FinOn
import Lean
import PyProof.EqAt
import PyProof.EqKinds
import PyProof.TupleCall
import PySem.Challenge.RW_sidelink_k23_stretches
section
open PySem PySem.Spec PyProof.Rows
abbrev Aa:=PySem.W.Frag
def Ab:=@List.getElem?_eq_getElem
def Ac:=@List.getElem?_eq_some_iff
def Ad:=@Heap.get?_push_of_some
def Ae:=@Nat.le_refl
def Ag:=@Array.toList_append
def Ah:=@List.getElem?_append_left
def Ai:=@List.mem_append
def Aj:=@List.mem_append_right
def Ak:=@Option.some.inj
def Am:=@List.getElem?_set_ne
def An:=@List.length_append
def Ao:=@List.size_toArray
def Ap:=@Heap.lt_size
def Aq:=@List.getElem?_append_right
def Ar:=@List.mem_singleton
def As:=@List.filter_cons
def Au:=@List.getElem?_set_self
def Av:=@Heap.get?_push_size
def Aw:=@List.mem_of_getElem?
def Ax:=@List.mem_cons_of_mem
def Ay:=@Nat.lt_of_lt_of_le
def Az:=@Bool.false_eq_true
def A7:=@List.mem_append_left
def A8:=@List.append_assoc
def A9:=@List.length_take
def Ba:=@List.length_cons
def Bb:=@List.map_cons
def Bc:=@Bool.and_eq_true
def Be:=@Nat.zero_le
def Bf:=@Nat.ne_of_lt
def Bh:=@Nat.lt_or_ge
def Bi:=@List.drop_eq_getElem_cons
def Bj:=@Nat.le_trans
def Bk:=@List.mem_cons
def Bm:=@List.mem_filter
def Bo:=@Int.le_refl
def Bp:=@Prod.mk.injEq
def Bq:=@List.length_drop
def Br:=@List.length_map
def Bt:=@List.append_nil
def Bu:=@List.getElem?_map
def Bv:=@List.pairwise_append
def Bw:=@List.mem_iff_getElem?
def Bx:=@List.mem_of_mem_take
def By:=@Nat.lt_of_le_of_lt
def Bz:=@Bool.false_ne_true
def B0:=@List.take_append_drop
def B7:=@Int.toNat_natCast
def B8:=@List.find?_cons
def B9:=@List.getElem_mem
def Ca:=@List.getElem?_take_of_lt
def Cb:=@List.length_filter_le
def Cc:=@List.getElem?_drop
def Cd:=@List.mem_of_mem_drop
def Ce:=@Array.toList_reverse
def Cf:=@List.not_mem_nil
def Cg:=@Option.map_eq_some_iff
def Ch:=@List.mem_range
def Ci:=@List.take_of_length_le
def Cj:=@Array.length_toList
def Ck:=@Int.le_of_lt
def Cm:=@List.prefix_rfl
def Cn:=@List.drop_of_length_le
def Co:=@Heap.size_push
def Cp:=@List.pairwise_cons
def Cq:=@Bool.not_eq_true'
def Cr:=@List.mem_iff_getElem
def Cs:=@List.any_cons
def Ct:=@List.filter_eq_self
def Cu:=@List.drop_drop
def Cv:=@List.nodup_cons
def Cw:=@Nat.lt_irrefl
def Cy:=@List.getElem_take
def Cz:=@Nat.le_of_not_lt
def C0:=@Int.le_trans
def C1:=@List.all_cons
def C4:=@Nat.zero_add
def C5:=@Nat.ne_of_gt
def C6:=@List.mem_map
def C7:=@wpAny_bind
def C8:=@if_neg
def C9:=@if_pos
def Ea:=@wpAny_pure
def Eb:=@wpS_bind
def Ec:=@wpS_pure
def Ed:=@decide_eq_true
def Ee:=@of_decide_eq_true
def Ef:=@decide_eq_false
def Eg:=@pure_bind
abbrev Eh:=Value->Shared->Prop
abbrev Ei:=List (Addr×Obj)
abbrev Ej:=Str->Option Value
abbrev Em:=List (Int×Int)
abbrev Eo:=Addr->Prop
abbrev Ep:=List Addr
abbrev Es:=Int->Option Int
end
-- CHANGE: your row's module here,as the last of these rows
set_option Elab.async false
set_option linter.all false
set_option maxRecDepth 100000
namespace L2
open PySem PySem.Spec PyProof.Rows
abbrev Key:=Sum Int Str
def y9:Key->Value->Bool
 | .inl k,v=>Value.isInt k v
 | .inr x,v=>Value.isStrOf x v
def QhM (w:World):Key->Int
 | .inl k=>hashInt k
 | .inr x=>hashStr w x
theorem ZN:∀ {k:Key} {v:Value},y9 k v=true->(∃ i t,k=Sum.inl i/\v=Value.int i t)∨(∃ x t,k=Sum.inr x/\v=Value.str x t)
  | .inl i,v,h=>by
    obtain ⟨t,e⟩:=Value.isInt_shape (k:=i) (v:=v) h
    exact .inl ⟨i,t,rfl,e⟩
  | .inr x,v,h=>by
    obtain ⟨t,e⟩:=Value.isStrOf_shape (x:=x) (v:=v) h
    exact .inr ⟨x,t,rfl,e⟩
theorem Qax (i:Int) (t:Tok):y9 (.inl i) (.int i t)=true:=by simp [y9,Value.isInt]
theorem Qay (x:Str) (t:Tok):y9 (.inr x) (.str x t)=true:=by simp [y9,Value.isStrOf]
theorem Qfp (a b:Int):decide ((Sum.inl a:Key)=Sum.inl b)=(a==b):=by
 by_cases e:a=b
 ·subst e;simp
 ·have h:¬ (Sum.inl a:Key)=Sum.inl b:=fun q=>e (Sum.inl.inj q)
  rw [Ef h]
  exact (beq_eq_false_iff_ne.mpr e).symm
theorem Qfs (a b:Str):decide ((Sum.inr a:Key)=Sum.inr b)=decide (a=b):=by
 by_cases e:a=b
 ·subst e;simp
 ·have h:¬ (Sum.inr a:Key)=Sum.inr b:=fun q=>e (Sum.inr.inj q)
  rw [Ef h,Ef e]
def Qfq (a:Int) (b:Str):decide ((Sum.inl a:Key)=Sum.inr b)=false:=Ef (fun q=>nomatch q)
def Qfr (a:Str) (b:Int):decide ((Sum.inr a:Key)=Sum.inl b)=false:=Ef (fun q=>nomatch q)
def Zu (prog:Program) (w:World):PySem.KeyKind prog w Key where
 is:=y9
 hash:=QhM w
 inj:=fun v a b ha hb=>by
  rcases ZN ha with ⟨i,t,rfl,rfl⟩ | ⟨x,t,rfl,rfl⟩
  ·rcases ZN hb with ⟨j,u,rfl,e⟩ | ⟨y,u,rfl,e⟩
   ·injection e with e1 _;rw [e1]
   ·exact nomatch e
  ·rcases ZN hb with ⟨j,u,rfl,e⟩ | ⟨y,u,rfl,e⟩
   ·exact nomatch e
   ·injection e with e1 _;rw [e1]
 byValue:=fun k v h=>by
  rcases ZN h with ⟨i,t,rfl,rfl⟩ | ⟨x,t,rfl,rfl⟩<;>rfl
 pyHash:=fun hv h=>by
  rcases ZN hv with ⟨i,t,rfl,rfl⟩ | ⟨x,t,rfl,rfl⟩
  ·exact wpAny_pyHash_int h
  ·exact wpAny_pyHash_str h
 eqBool:=fun hu hv h=>by
  rcases ZN hu with ⟨i,t,rfl,rfl⟩ | ⟨x,t,rfl,rfl⟩
  ·rcases ZN hv with ⟨j,u,rfl,rfl⟩ | ⟨y,u,rfl,rfl⟩
   ·rw [Qfp] at h;exact wpAny_eqBool_int h
   ·rw [Qfq] at h;exact SeqAt.EqAt.int_str i t y u _ _ _ _ h
  ·rcases ZN hv with ⟨j,u,rfl,rfl⟩ | ⟨y,u,rfl,rfl⟩
   ·rw [Qfr] at h;exact SeqAt.EqAt.str_int x t j u _ _ _ _ h
   ·rw [Qfs] at h;exact wpAny_eqBool_str h
 «strs»:=fun k x t v h=>by
  rcases ZN h with ⟨i,u,rfl,e⟩ | ⟨y,u,rfl,e⟩
  ·exact nomatch e
  ·injection e with e1 _
   subst e1
   cases v<;>rfl
def G0 (prog:Program) (w:World) (i:Int) (t:Tok):(Zu prog w).is (.inl i) (.int i t)=true:=Qax i t
def G2 (prog:Program) (w:World) (x:Str) (t:Tok):(Zu prog w).is (.inr x) (.str x t)=true:=Qay x t
inductive V where
 | non | bl (b:Bool) | int (i:Int) | str (x:Str) | byt (b:Array UInt8) | flt (b:UInt64) | ref (a:Addr) | ty (n:String)
 deriving DecidableEq
def RelV:V->Value->Prop
 | .non,u=>u=Value.none
 | .bl b,u=>u=Value.bool b
 | .int i,u=>∃ t,u=Value.int i t
 | .str x,u=>∃ t,u=Value.str x t
 | .byt b,u=>∃ t,u=Value.bytes b t
 | .flt b,u=>∃ t,u=Value.float b t
 | .ref a,u=>u=Value.ref a
 | .ty n,u=>u=Value.type n
abbrev Vals:List V->List Value->Prop:=Paired RelV
def Vals.length {xs:List V} {us:List Value} (r:Vals xs us):xs.length=us.length:=Paired.length r
theorem Vals.get:∀ {xs:List V} {us:List Value} {i:Nat} {x:V},Vals xs us->xs[i]?=some x->∃ u,us[i]?=some u/\RelV x u
  | _,_,_,_,.nil,e=>by simp at e
  | _,_,0,_,.cons r _,e=>by simp at e;subst e;exact ⟨_,rfl,r⟩
  | _,_,i+1,x,.cons _ t,e=>by
    obtain ⟨u,h1,h2⟩:=Vals.get (i:=i) (x:=x) t (by simpa using e)
    exact ⟨u,by simpa using h1,h2⟩
theorem Vals.set (r:RelV x u):∀ {xs:List V} {us:List Value} (i:Nat),Vals xs us->Vals (xs.set i x) (us.set i u)
 | _,_,_,.nil=>.nil
 | _,_,0,.cons _ t=>.cons r t
 | _,_,i+1,.cons q t=>.cons q (Vals.set r i t)
theorem Vals.append:∀ {xs ys:List V} {us ws:List Value},Vals xs us->Vals ys ws->Vals (xs++ys) (us++ws)
 | _,_,_,_,.nil,s=>s
 | _,_,_,_,.cons r t,s=>.cons r (Vals.append t s)
theorem Vals.take:∀ {xs:List V} {us:List Value} (n:Nat),Vals xs us->Vals (xs.take n) (us.take n)
 | _,_,0,_=>.nil
 | _,_,_+1,.nil=>.nil
 | _,_,n+1,.cons r t=>.cons r (Vals.take n t)
theorem Vals.drop:∀ {xs:List V} {us:List Value} (n:Nat),Vals xs us->Vals (xs.drop n) (us.drop n)
 | _,_,0,r=>r
 | _,_,_+1,.nil=>.nil
 | _,_,n+1,.cons _ t=>Vals.drop n t
def RelO:Option V->Option Value->Prop
 | some v,some u=>RelV v u
 | none,none=>True
 | _,_=>False
def KV {κ:Type}:List (κ×V)->List (κ×Value)->Prop:=Paired fun (p:κ×V) (q:κ×Value)=>p.1=q.1/\RelV p.2 q.2
def kV:Key->V
 | .inl i=>.int i
 | .inr x=>.str x
inductive HO where
  | lst (xs:List V)
  | tup (xs:List V)
  | dK (kvs:List (Key×V)) | dT (kvs:List (List Key×V))
  | set (S:Int->Bool) (n:Nat)
  | ins (C dx:Addr) (fs:List (Str×V))
  | own (x:Addr)
  | xd (fs:List (Str×V))
  | met (f x:Addr)
  | rng (lo hi:Int)
  | frz (o:Obj) (u:HO)
  | tbl (ps:Array Value)
  | ext (φ:Heap->Prop)
abbrev Hp:=Addr->Option HO
def upd (H:Hp) (a:Addr) (o:HO):Hp:=fun b=>if b=a then some o else H b
theorem Q9 {a:Addr}:upd H a o a=some o:=by unfold upd;rw [C9 rfl]
theorem QX {H:Hp} {a b:Addr} (h:b≠a):upd H a o b=H b:=by unfold upd;rw [C8 h]
theorem Qg1 {H:Hp} {a b:Addr} {o u:HO} (h:H a=some o) (h':H b=some u) (d:o≠u):a≠b:=by
 intro e;subst e;rw [h] at h';exact d (Ak h')
theorem ZC {H:Hp} {a b:Addr} (h:H a=some o) (h':H b=none):a≠b:=by
 intro e;subst e;rw [h] at h';cases h'
section
variable (P:Program) (w:World)
def ObjOk (H:Hp) (h:Heap) (a:Addr):HO->Prop
 | .lst xs=>xs.length<=sizeLine/\∃ (its:List Value) (n:Nat),Vals xs its/\h.get? a=some { cls:=.type "list", data:=.seq its.toArray n }
 | .tup xs=>xs.length<=sizeLine/\∃ its:List Value,Vals xs its/\IsTup h a its.toArray
 | .dK kvs=>kvs.length<=sizeLine/\(a==sysModules)=false/\∃ vs,KV kvs vs/\h.DictOf (Zu P w) a vs
 | .dT kvs=>kvs.length<=sizeLine/\(a==sysModules)=false/\∃ xs:List (List Key×Addr×Value),
   Paired (fun (p:List Key×V) (q:List Key×Addr×Value)=>p.1=q.1/\H q.2.1=some (.tup (p.1.map kV))/\RelV p.2 q.2.2) kvs xs /\
   ∃ o es ep,h.get? a=some o/\o.ExactDict/\o.data=.dict es ep/\es.toList=xs.map (entryOfKey (tupleKind (Zu P w)))/\(xs.map (·.1)).Nodup
 | .set S n=>h.SetOf (intKind P w) a S n
 | .ins C dx fs=>H dx=some (.own a)/\fs.length<=1000/\dx≠a/\h.get? a=some (PySem.W.instObj C dx) /\
   ∃ mA,h.Ns1 dx mA/\(∀ f,RelO (fs.lookup f) (mA f))/\PySem.Within mA (fs.map (·.1))
 | .own _=>∃ o,h.get? a=some o
 | .xd fs=>∃ mA,h.Ns1 a mA/\∀ f,RelO (fs.lookup f) (mA f)
 | .rng lo hi=>∃ t u v,h.get? a=some { cls:=.type "range", data:=.fields #[.int lo t,.int hi u,.int 1 v] }
 | .frz o u=>h.get? a=some o/\ObjOk H h a u
 | .tbl ps=>h.get? a=some { cls:=.none,data:=.fields ps }
 | .met f x=>h.get? a=some (PySem.W.methodObj (.ref f) (.ref x))
 | .ext φ=>φ h/\(∃ o,h.get? a=some o)/\∀ h1 h2:Heap,φ h1->(∀ o,h1.get? a=some o->h2.get? a=some o)->φ h2
def HOk (H:Hp) (h:Heap):Prop:=∀ a o,H a=some o->ObjOk P w H h a o
end
section
variable {P:Program} {w:World} {H H':Hp} {h h':Heap} {a:Addr} {o:HO}
theorem ObjOk.lt (x:ObjOk P w H h a o):a < h.objs.size:=by
 cases o with
 | lst xs=>obtain ⟨_,_,_,_,e⟩:=x;exact Ap e
 | tup xs=>obtain ⟨_,_,_,p⟩:=x;exact p.lt
 | dK kvs=>obtain ⟨_,_,_,_,o,_,_,e,_⟩:=x;exact Ap e
 | dT kvs=>obtain ⟨_,_,_,_,o,_,_,e,_⟩:=x;exact Ap e
 | set S n=>obtain ⟨o,_,_,_,e,_⟩:=x;exact Ap e
 | ins C dx fs=>obtain ⟨_,_,_,e,_⟩:=x;exact Ap e
 | own y=>obtain ⟨_,e⟩:=x;exact Ap e
 | xd fs=>obtain ⟨_,⟨_,_,_,e,_⟩,_⟩:=x;exact Ap e
 | rng lo hi=>obtain ⟨_,_,_,e⟩:=x;exact Ap e
 | frz ob u=>obtain ⟨e,_⟩:=x;exact Ap e
 | tbl ps=>exact Ap (show h.get? a=some _ from x)
 | met f y=>exact Ap (show h.get? a=some _ from x)
 | ext φ=>obtain ⟨_,⟨_,e⟩,_⟩:=x;exact Ap e
theorem Paired.mapP {α β:Type} {F G:α->β->Prop}:∀ {l₁:List α} {l₂:List β},Paired F l₁ l₂->(∀ a b,F a b->G a b)->Paired G l₁ l₂
 | _,_,.nil,_=>.nil
 | _,_,.cons r t,f=>.cons (f _ _ r) (Paired.mapP t f)
theorem ObjOk.stay (x:ObjOk P w H h a o) (k:∀ b u,(b=a∨H b=some (.own a))->h.get? b=some u->h'.get? b=some u)
    (ho:∀ b,H b=some (.own a)->H' b=some (.own a)) (ht:∀ b xs,H b=some (.tup xs)->H' b=some (.tup xs)):ObjOk P w H' h' a o:=by
  induction o with
  | lst xs=>obtain ⟨z,its,n,r,e⟩:=x;exact ⟨z,its,n,r,k _ _ (.inl rfl) e⟩
  | tup xs=>obtain ⟨z,its,r,ob,e,c⟩:=x;exact ⟨z,its,r,ob,k _ _ (.inl rfl) e,c⟩
  | dK kvs=>obtain ⟨z,y,vs,r,ob,es,ep,e,c⟩:=x;exact ⟨z,y,vs,r,ob,es,ep,k _ _ (.inl rfl) e,c⟩
  | dT kvs =>
    obtain ⟨z,y,xs,r,ob,es,ep,e,c⟩:=x
    exact ⟨z,y,xs,Paired.mapP r fun p q z=>⟨z.1,ht _ _ z.2.1,z.2.2⟩,ob,es,ep,k _ _ (.inl rfl) e,c⟩
  | set S n=>obtain ⟨ob,es,ep,t,e,c⟩:=x;exact ⟨ob,es,ep,t,k _ _ (.inl rfl) e,c⟩
  | ins C dx fs =>
    obtain ⟨d,z,ne,e,mA,⟨od,es,ep,e2,c⟩,r⟩:=x
    exact ⟨ho _ d,z,ne,k _ _ (.inl rfl) e,mA,⟨od,es,ep,k _ _ (.inr d) e2,c⟩,r⟩
  | own y=>obtain ⟨ob,e⟩:=x;exact ⟨ob,k _ _ (.inl rfl) e⟩
  | xd fs=>obtain ⟨mA,⟨od,es,ep,e,c⟩,r⟩:=x;exact ⟨mA,⟨od,es,ep,k _ _ (.inl rfl) e,c⟩,r⟩
  | rng lo hi=>obtain ⟨t,u,v,e⟩:=x;exact ⟨t,u,v,k _ _ (.inl rfl) e⟩
  | frz ob u ih=>obtain ⟨e,q⟩:=x;exact ⟨k _ _ (.inl rfl) e,ih q⟩
  | tbl ps =>
    have e:h.get? a=some { cls:=.none,data:=.fields ps }:=x
    show h'.get? a=some { cls:=.none,data:=.fields ps }
    exact k a _ (.inl rfl) e
  | met f y =>
    have e:h.get? a=some (PySem.W.methodObj (.ref f) (.ref y)):=x
    show h'.get? a=some (PySem.W.methodObj (.ref f) (.ref y))
    exact k a _ (.inl rfl) e
  | ext φ=>obtain ⟨p,⟨o,e⟩,st⟩:=x;exact ⟨st _ _ p fun o q=>k _ _ (.inl rfl) q,⟨o,k _ _ (.inl rfl) e⟩,st⟩
def HOk.lt (x:HOk P w H h) (e:H a=some o):a < h.objs.size:=(x a o e).lt
theorem HOk.fresh (x:HOk P w H h) (e:h.objs.size<=a):H a=none:=by
 cases q:H a with
 | none=>rfl
 | some u=>exact absurd (Ay (x.lt q) e) (Cw _)
theorem HOk.kept (x:HOk P w H h) (k:∀ b u,h.get? b=some u->h'.get? b=some u):HOk P w H h':=fun a o e =>
 (x a o e).stay (fun b u _ q=>k b u q) (fun _ q=>q) fun _ _ q=>q
theorem HOk.laid (x:HOk P w H h) (k:∀ b u,h.get? b=some u->h'.get? b=some u) (U:h.objs.size<=a) (new:ObjOk P w (upd H a o) h' a o):HOk P w (upd H a o) h':=fun b u e=>by
 have hn:=x.fresh U
 by_cases hb:b=a
 ·subst hb;rw [Q9] at e;cases e;exact new
 ·rw [QX hb] at e
  exact (x b u e).stay (fun c v _ q=>k c v q) (fun c q=>by rw [QX (ZC q hn)];exact q) fun c xs q=>by rw [QX (ZC q hn)];exact q
end
def Rd (H:Hp) (a:Addr) (u:HO):Prop:=H a=some u∨∃ o,H a=some (.frz o u)
theorem Rd.ok {w:World} {a:Addr} (r:Rd H a u) (x:HOk P w H h):ObjOk P w H h a u:=by
 rcases r with r | ⟨o,r⟩
 ·exact x a u r
 ·obtain ⟨_,q⟩:=x a _ r
  exact q
def Mut:Option HO->Prop
 | some (.lst _)=>True
 | some (.dK _)=>True
 | some (.dT _)=>True
 | some (.set _ _)=>True
 | some (.ins _ _ _)=>True
 | some (.ext _)=>True
 | _=>False
section
variable {P:Program} {w:World} {H:Hp} {h h':Heap} {x e:Addr} {o':HO}
theorem HOk.write (ok:HOk P w H h) (mu:Mut (H x)) (he:e=x∨H e=some (.own x)) (k:∀ b u,b≠e->h.get? b=some u->h'.get? b=some u) (heo:∃ u,h'.get? e=some u)
  (new:ObjOk P w (upd H x o') h' x o'):HOk P w (upd H x o') h':=fun b u q=>by
 have nown:∀ c y,H c=some (.own y)->c≠x:=fun c y r z=>by subst z;rw [r] at mu;exact mu
 have ntup:∀ c xs,H c=some (.tup xs)->c≠x:=fun c xs r z=>by subst z;rw [r] at mu;exact mu
 by_cases hb:b=x
 ·subst hb;rw [Q9] at q;cases q;exact new
 ·rw [QX hb] at q
  by_cases hbe:b=e
  ·have q':H b=some (.own x):=by
    rcases he with z | z
    ·exact absurd (hbe.trans z) hb
    ·rw [hbe];exact z
   rw [q] at q';cases q'
   obtain ⟨v,hv⟩:=heo
   exact ⟨v,by rw [hbe];exact hv⟩
  ·refine (ok b u q).stay (fun c v hc r=>k c v ?_ r) (fun c r=>by rw [QX (nown c b r)];exact r) fun c xs r=>by rw [QX (ntup c xs r)];exact r
   rcases hc with rfl | hc
   ·exact hbe
   ·rintro rfl
    rcases he with z | z
    ·exact nown c b hc z
    ·rw [hc] at z;cases z;exact hb rfl
end
structure Un (fs ex:Ep) (H H':Hp) (h h':Heap):Prop where
 keep:∀ b o,h.get? b=some o->H b=none->b∉fs->b∉ex->h'.get? b=some o
 slot:∀ b o,h.get? b=some o->H b=none->b∈fs->b∉ex->∃ sl,h'.get? b=some { o with slots:=sl }
 free:∀ b o,h.get? b=some o->H b=none->b∉ex->H' b=none
 there:∀ b o,h.get? b=some o->b∉ex->∃ o',h'.get? b=some o'
 tups:∀ b xs,H b=some (.tup xs)->H' b=some (.tup xs)
 frzs:∀ b o u,H b=some (.frz o u)->H' b=some (.frz o u)
 tbls:∀ b ps,H b=some (.tbl ps)->∃ more,H' b=some (.tbl (ps++more))
section
variable {fs fs' ex ex':Ep} {H H1 H2:Hp} {h h1 h2 h':Heap} {a x e:Addr} {o:HO}
theorem Un.any (u:Un fs ex H H1 h h1) {b:Addr} {ob:Obj} (q:h.get? b=some ob) (n:H b=none) (hx:b∉ex):∃ sl,h1.get? b=some { ob with slots:=sl }:=by
 by_cases hb:b∈fs
 ·exact u.slot b ob q n hb hx
 ·exact ⟨ob.slots,u.keep b ob q n hb hx⟩
theorem Un.kept (k:∀ b u,h.get? b=some u->h'.get? b=some u):Un fs ex H H h h' :=
 ⟨fun b ob q _ _ _=>k b ob q,fun b ob q _ _ _=>⟨ob.slots,k b ob q⟩,fun _ _ _ n _=>n,fun b ob q _=>⟨ob,k b ob q⟩,fun _ _ q=>q,fun _ _ _ q=>q,fun _ ps q=>⟨#[],by rw [q];simp⟩⟩
def Un.refl:Un fs ex H H h h:=Un.kept fun _ _ q=>q
theorem Un.laid (k:∀ b u,h.get? b=some u->h'.get? b=some u) (U:h.objs.size<=a) (hn:H a=none):Un fs ex H (upd H a o) h h' where
 keep:=fun b u q _ _ _=>k b u q
 slot:=fun b u q _ _ _=>⟨u.slots,k b u q⟩
 free:=fun b u q n _=>by rw [QX (Bf (Ay (Ap q) U))];exact n
 there:=fun b u q _=>⟨u,k b u q⟩
 tups:=fun b xs q=>by rw [QX (ZC q hn)];exact q
 frzs:=fun b u xs q=>by rw [QX (ZC q hn)];exact q
 tbls:=fun b ps q=>⟨#[],by rw [QX (ZC q hn),q];simp⟩
theorem Un.write (mu:Mut (H x)) (he:e=x∨H e=some (.own x)) (k:∀ b u,b≠e->h.get? b=some u->h'.get? b=some u) (heo:∃ u,h'.get? e=some u):Un fs ex H (upd H x o) h h':=by
 have hx:∀ b,H b=none->b≠x:=fun b n z=>by subst z;rw [n] at mu;exact mu
 have hb:∀ b,H b=none->b≠e:=fun b n z=>by
  subst z
  rcases he with r | r
  ·exact hx b n r
  ·rw [n] at r;cases r
 have hm:∀ b u,H b=some u->¬ Mut (some u)->b≠x:=fun b u q nm z=>by subst z;rw [q] at mu;exact nm mu
 refine ⟨fun b u q n _ _=>k b u (hb b n) q,fun b u q n _ _=>⟨u.slots,k b u (hb b n) q⟩,fun b u q n _=>by rw [QX (hx b n)];exact n,fun b u q _=>?_,
  fun b xs q=>by rw [QX (hm b _ q fun z=>z)];exact q,fun b u xs q=>by rw [QX (hm b _ q fun z=>z)];exact q,fun b ps q=>⟨#[],by rw [QX (hm b _ q fun z=>z),q];simp⟩⟩
 by_cases hbe:b=e
 ·subst hbe;exact heo
 ·exact ⟨u,k b u hbe q⟩
end
def trk (h:Heap) (H:Hp):List Addr:=(List.range h.objs.size).filter fun a=>(H a).isSome
def Kw (h:Heap) (H:Hp):Heap:=PySem.W.hideAll h (trk h H)
def Qau (h:Heap) (H:Hp):(Kw h H).objs.size=h.objs.size:=PySem.W.hideAll_size _ _
theorem QbK {h:Heap} {H:Hp} {b:Addr} (e:h.get? b=some o) (n:H b=none):(Kw h H).get? b=some o :=
 PySem.W.hideAll_get _ e fun hm=>by
  have q:(H b).isSome=true:=(Bm.mp hm).2
  rw [n] at q;simp at q
theorem QdN {h:Heap} {H:Hp} {b:Addr} (e:(Kw h H).get? b=some o):h.get? b=some o/\H b=none:=by
  have e':h.get? b=some o:=PySem.W.of_hideAll (trk h H) e
  refine ⟨e',?_⟩
  cases q:H b with
  | none=>rfl
  | some x =>
    have hm:b∈trk h H:=Bm.mpr ⟨Ch.mpr (Ap e'),by simp [q]⟩
    have z:(Kw h H).get? b=none:=PySem.W.hideAll_none (trk h H) hm
    rw [z] at e;cases e
def Ka (g h:Heap) (L:Addr):List (Addr×Obj):=(List.range h.objs.size).filterMap fun a=>if a=L∨(g.get? a).isSome=true then none else (h.get? a).map fun o=>(a,o)
theorem Vl {g h:Heap} {L:Addr} {p:Addr×Obj} (U:p∈Ka g h L):p.1≠L/\g.get? p.1=none/\h.get? p.1=some p.2:=by
  obtain ⟨b,_,e⟩:=List.mem_filterMap.mp U
  split at e
  . cases e
  . rename_i hn
    cases q:h.get? b with
    | none=>rw [q] at e;simp at e
    | some u =>
      rw [q] at e
      simp only [Option.map_some,Option.some.injEq] at e
      subst e
      refine ⟨fun z=>hn (.inl z),?_,q⟩
      show g.get? b=none
      cases r:g.get? b with
      | none=>rfl
      | some v=>exact (hn (.inr (by simp [r]))).elim
def rest (g h:Heap) (L d:Addr):List (Addr×Obj):=(Ka g h L).filter fun p=>decide (p.1≠d)
def Qb6 {L:Addr}:News g L h (Ka g h L):=fun p U=>let ⟨a,b,c⟩:=Vl U;⟨c,a,b⟩
structure Mod (K:Aa) (mg:Ej) (O8:Heap):Prop where
 kin:K.In O8
 glob:O8.Ns mainGlobals mg
 blt:∃ mb,O8.Ns builtinsNs mb/\∀ x:Str,x ≠ "__name__" -> mb x=bootBuiltins x
 nolimit:O8.NoLimit
structure Cx where
 prog:Program
 w:World
 K:Aa
 mg:Str->Option Value
 O8:Heap
 A:Around
 N:List Str
 s₀:Shared
 H₀:Hp
 env:Env
 outer:List Env
 stack:List Env
 ex:List Addr
 fn:Str->Bool
 calm:Bool
 pn:List (Addr×Obj)
 xe:Value->Shared->Prop
def frs (l:List Env):List Addr:=l.filterMap (·.frame)
abbrev Cx.fs (X:Cx):List Addr:=frs X.outer
def Vis (sc:Scope) (x:Str):Prop:=sc.names.lookup x=some .local∨sc.names.lookup x=some .cell∨sc.names.lookup x=some .free
def Loc (sc:Scope) (x:Str):Prop:=sc.names.lookup x=some .local∨sc.names.lookup x=some .cell
def QhF (env:Env) (h:Heap) (m:Ej) (x:Str) (u:Value):Prop :=
 (env.kindOf x=some .local/\m x=some u)∨((env.kindOf x=some .cell∨env.kindOf x=some .free)/\∃ c,env.cells.lookup x=some c/\h.IsCell c (some u))
structure Cx.Ok (X:Cx):Prop where
 mod:Mod X.K X.mg X.O8
 kind:X.env.scope.kind=.function
 glob:X.env.globals=mainGlobals
 blt:X.env.builtins=builtinsNs
 above:X.s₀.heap.objs.size<=X.env.locals
 inj:∀ x y c,X.env.cells.lookup x=some c->X.env.cells.lookup y=some c->x=y
 has:∀ x,(X.env.kindOf x=some .cell∨X.env.kindOf x=some .free)->∃ c,X.env.cells.lookup x=some c
 cab:∀ x c,X.fn x=true->X.env.cells.lookup x=some c->X.s₀.heap.objs.size<=c
 hd:X.calm=true->X.A.handled=none
 frames:X.A.frames=some X.stack
 stk:X.stack=X.outer∨(X.stack=X.env::X.outer/\X.env.frame=some X.env.locals)
 exf:∀ b∈X.ex,b≠X.env.locals/\∀ x c,X.env.cells.lookup x=some c->c≠b
 bs:∀ b o,X.O8.get? b=some o->X.s₀.heap.get? b=some o/\X.H₀ b=none
 bsz:X.O8.objs.size<=X.s₀.heap.objs.size
 noex:∀ b o,X.O8.get? b=some o->b∉X.ex
 exfs:∀ b∈X.ex,b∉X.fs
 funs:X.s₀.heap.FunFrames X.O8 X.outer
 frf:∀ b∈X.fs,X.H₀ b=none
structure Inv (X:Cx) (O9:Ei) (σ:List (Option V)) (H:Hp) (s:Shared):Prop where
 ok:X.Ok
 os:s.os=X.s₀.os
 bare:AllBare s.gens
 O8:Un X.fs X.ex X.H₀ H X.s₀.heap s.heap
 loc:∃ m,s.heap.Ns X.env.locals m/\∀ (i:Nat) (x:Str) (v:V),X.N[i]?=some x->σ[i]?=some (some v)->Vis X.env.scope x->∃ u,RelV v u/\QhF X.env s.heap m x u
 cell:∀ x c,X.env.cells.lookup x=some c->∃ v,s.heap.IsCell c v
 free:H X.env.locals=none
 freeC:∀ x c,X.env.cells.lookup x=some c->H c=none
 pin:∀ p∈X.pn++O9,s.heap.get? p.1=some p.2/\H p.1=none/\p.1≠X.env.locals/\p.1∉X.fs/\∀ v,p.2.data≠.cell v
 hok:HOk X.prog X.w H s.heap
 len:σ.length=X.N.length
section
variable {X:Cx} {O9:Ei} {σ:List (Option V)} {H H':Hp} {s:Shared} {h':Heap}
theorem Cx.Ok.nofr (ok:X.Ok) {b:Addr} (e:X.O8.get? b=some o):b∉X.fs:=fun hb=>by
 have:=(ok.funs.mem hb).1
 rw [e] at this;cases this
theorem Inv.bs (I:Inv X O9 σ H s):∀ b o,X.O8.get? b=some o->s.heap.get? b=some o/\H b=none:=fun b o e =>
 ⟨I.O8.keep b o (I.ok.bs b o e).1 (I.ok.bs b o e).2 (I.ok.nofr e) (I.ok.noex b o e),I.O8.free b o (I.ok.bs b o e).1 (I.ok.bs b o e).2 (I.ok.noex b o e)⟩
def Inv.bk (I:Inv X O9 σ H s):∀ b o,X.O8.get? b=some o->s.heap.get? b=some o:=fun b o e=>(I.bs b o e).1
def Inv.mod (I:Inv X O9 σ H s):Mod X.K X.mg X.O8:=I.ok.mod
def Inv.kIn (I:Inv X O9 σ H s):X.K.In s.heap:=I.ok.mod.kin.keeps I.bk
theorem Inv.fr (I:Inv X O9 σ H s):∃ m,Fr X.O8 X.env.locals s.heap m :=
 let ⟨m,hn,_⟩:=I.loc
 ⟨m,hn,I.bk,Bj I.ok.bsz I.ok.above⟩
def Inv.lt (I:Inv X O9 σ H s):X.env.locals < s.heap.objs.size:=let ⟨_,hn,_⟩:=I.loc;hn.lt
def Inv.sz (I:Inv X O9 σ H s):X.s₀.heap.objs.size<=s.heap.objs.size:=Bj I.ok.above (Nat.le_of_lt I.lt)
theorem Inv.nofs (I:Inv X O9 σ H s) {a:Addr} (h:s.heap.objs.size<=a):a∉X.fs:=fun hb=>by
 obtain ⟨_,o,ho,_⟩:=I.ok.funs.mem hb
 exact absurd (Ay (Ap ho) (Bj I.sz h)) (Cw _)
theorem Inv.cne (I:Inv X O9 σ H s):∀ x c,X.env.cells.lookup x=some c->c≠X.env.locals:=fun x c e z=>by
 obtain ⟨v,o,ho,hd⟩:=I.cell x c e
 obtain ⟨m,⟨o',es,ep,ho',hd',_⟩,_⟩:=I.loc
 rw [z,ho'] at ho;cases ho;rw [hd'] at hd;cases hd
theorem Inv.funs (I:Inv X O9 σ H s):s.heap.FunFrames X.O8 X.outer:=by
  have all:∀ (l:List Env),(∀ b∈frs l,b∈X.fs)->X.s₀.heap.FunFrames X.O8 l->s.heap.FunFrames X.O8 l:=by
    intro l
    induction l with
    | nil=>intro _ _;trivial
    | cons env r ih =>
      intro hs hl
      obtain ⟨hk,⟨L,o,hf,hn,ho,hd⟩,hr⟩:=hl
      have hL:L∈X.fs:=hs L (by unfold frs;rw [List.filterMap_cons,hf];exact List.mem_cons_self)
      obtain ⟨sl,e⟩:=I.O8.slot L o ho (I.ok.frf L hL) hL fun z=>I.ok.exfs L z hL
      exact ⟨hk,⟨L,_,hf,hn,e,hd⟩,ih (fun b hb=>hs b (by unfold frs;rw [List.filterMap_cons,hf];exact Ax _ hb)) hr⟩
  exact all X.outer (fun _ hb=>hb) I.ok.funs
theorem Inv.stack (I:Inv X O9 σ H s):s.heap.FunFrames X.O8 X.stack:=by
 rcases I.ok.stk with e | ⟨e,hf⟩
 ·rw [e];exact I.funs
 ·rw [e]
  obtain ⟨m,hn,_⟩:=I.loc
  refine .cons (by rw [I.ok.kind];decide) hf hn ?_ I.funs
  exact Heap.get?_none_of_le (Bj I.ok.bsz I.ok.above)
theorem Inv.stkSub (I:Inv X O9 σ H s):∀ b∈frs X.stack,b∈X.env.locals::X.fs:=fun b hb=>by
 rcases I.ok.stk with e | ⟨e,hf⟩
 ·rw [e] at hb;exact Ax _ hb
 ·rw [e] at hb
  unfold frs at hb
  rw [List.filterMap_cons,hf] at hb
  exact hb
theorem Inv.stkFree (I:Inv X O9 σ H s):∀ b∈frs X.stack,H b=none:=fun b hb=>by
 rcases Bk.mp (I.stkSub b hb) with e | hb
 ·rw [e];exact I.free
 ·obtain ⟨_,o,ho,_⟩:=I.ok.funs.mem hb
  exact I.O8.free b o ho (I.ok.frf b hb) fun z=>I.ok.exfs b z hb
theorem Inv.step {g':Array GenState} {t':Nat} {d':Drawn} {ch:Ep} (I:Inv X O9 σ H s)
  (hch:∀ b∈ch,(b∈X.ex∨X.s₀.heap.objs.size<=b)/\b≠X.env.locals/\(∀ x c,X.env.cells.lookup x=some c->c≠b)/\∀ p∈X.pn++O9,p.1≠b)
  (keep:∀ b o,b≠X.env.locals->b∉X.fs->b∉ch->s.heap.get? b=some o->H b=none->h'.get? b=some o)
  (slot:∀ b o,b≠X.env.locals->b∈X.fs->b∉ch->s.heap.get? b=some o->H b=none->∃ sl,h'.get? b=some { o with slots:=sl }) (free:∀ b o,b∉ch->s.heap.get? b=some o->H b=none->H' b=none)
  (there:∀ b o,b∉ch->s.heap.get? b=some o->∃ o',h'.get? b=some o')
  (tups:∀ b xs,H b=some (.tup xs)->H' b=some (.tup xs)) (frzs:∀ b o u,H b=some (.frz o u)->H' b=some (.frz o u)) (tbls:∀ b ps,H b=some (.tbl ps)->∃ more,H' b=some (.tbl (ps++more)))
  (ns:∀ m,s.heap.Ns X.env.locals m->h'.Ns X.env.locals m) (hok:HOk X.prog X.w H' h') (hg:AllBare g') :
  Inv X O9 σ H' { s with heap:=h',gens:=g',drawn:=d',toks:=t' }:=by
 have neL:∀ b o,X.s₀.heap.get? b=some o->b≠X.env.locals:=fun b o e=>Bf (Ay (Ap e) I.ok.above)
 have neC:∀ b o,X.s₀.heap.get? b=some o->b∉X.ex->b∉ch:=fun b o e hx hb=>by
  rcases (hch b hb).1 with z | z
  ·exact hx z
  ·exact absurd (Ay (Ap e) z) (Cw _)
 have cellK:∀ x c,X.env.cells.lookup x=some c->∀ v,s.heap.IsCell c v->h'.IsCell c v:=fun x c e v ⟨o,ho,hd⟩=>by
  have nch:c∉ch:=fun z=>(hch c z).2.2.1 x c e rfl
  by_cases hc:c∈X.fs
  ·obtain ⟨sl,q⟩:=slot c o (I.cne x c e) hc nch ho (I.freeC x c e)
   exact ⟨_,q,hd⟩
  ·exact ⟨o,keep c o (I.cne x c e) hc nch ho (I.freeC x c e),hd⟩
 refine ⟨I.ok,I.os,hg,⟨fun b o e n hb hx=>?_,fun b o e n hb hx=>?_,fun b o e n hx=>?_,fun b o e hx=>?_,fun b xs e=>tups b xs (I.O8.tups b xs e),fun b o xs e=>frzs b o xs (I.O8.frzs b o xs e),fun b ps e=>?_⟩,?_,fun x c e=>?_,?_,fun x c e=>?_,fun p U=>?_,hok,I.len⟩
 ·exact keep b o (neL b o e) hb (neC b o e hx) (I.O8.keep b o e n hb hx) (I.O8.free b o e n hx)
 ·obtain ⟨sl,e1⟩:=I.O8.slot b o e n hb hx
  obtain ⟨sl',e2⟩:=slot b _ (neL b o e) hb (neC b o e hx) e1 (I.O8.free b o e n hx)
  exact ⟨sl',e2⟩
 ·obtain ⟨o',e1⟩:=I.O8.there b o e hx
  exact free b o' (neC b o e hx) e1 (I.O8.free b o e n hx)
 ·obtain ⟨o',e1⟩:=I.O8.there b o e hx
  exact there b o' (neC b o e hx) e1
 ·obtain ⟨m1,e1⟩:=I.O8.tbls b ps e
  obtain ⟨m2,e2⟩:=tbls b _ e1
  exact ⟨m1++m2,by rw [e2,Array.append_assoc]⟩
 ·obtain ⟨m,hn,hl⟩:=I.loc
  refine ⟨m,ns m hn,fun i x v e1 e2 e3=>?_⟩
  obtain ⟨u,r,l⟩:=hl i x v e1 e2 e3
  refine ⟨u,r,?_⟩
  rcases l with l | ⟨k,c,e,z⟩
  ·exact .inl l
  ·exact .inr ⟨k,c,e,cellK x c e _ z⟩
 ·obtain ⟨v,z⟩:=I.cell x c e
  exact ⟨v,cellK x c e v z⟩
 ·obtain ⟨m,⟨o,_,_,ho,_⟩,_⟩:=I.loc
  exact free _ o (fun z=>(hch _ z).2.1 rfl) ho I.free
 ·obtain ⟨v,o,ho,hd⟩:=I.cell x c e
  exact free c o (fun z=>(hch c z).2.2.1 x c e rfl) ho (I.freeC x c e)
 ·obtain ⟨e,n,ne,nf,d⟩:=I.pin p U
  have nch:p.1∉ch:=fun z=>(hch p.1 z).2.2.2 p U rfl
  exact ⟨keep p.1 p.2 ne nf nch e n,free p.1 p.2 nch e n,ne,nf,d⟩
theorem Inv.un {t':Nat} (I:Inv X O9 σ H s) (u:Un X.fs [] H H' s.heap h') (hok:HOk X.prog X.w H' h'):Inv X O9 σ H' { s with heap:=h',toks:=t' }:=by
 obtain ⟨m,⟨o,es,ep,ho,r⟩,_⟩:=id I.loc
 obtain ⟨sl,hL⟩:=u.any ho I.free (by simp)
 exact I.step (g':=s.gens) (d':=s.drawn) (ch:=[]) (fun _ z=>nomatch z) (fun b o _ hb _ e n=>u.keep b o e n hb (by simp)) (fun b o _ hb _ e n=>u.slot b o e n hb (by simp)) (fun b o _ e n=>u.free b o e n (by simp)) (fun b o _ e=>u.there b o e (by simp)) u.tups u.frzs u.tbls (fun m' hm=>by
  obtain ⟨o',es',ep',ho',r'⟩:=hm
  rw [ho] at ho';cases ho'
  exact ⟨_,es',ep',hL,r'⟩) hok I.bare
theorem Inv.call {g':Array GenState} {t':Nat} {d':Drawn} (I:Inv X O9 σ H s) (u:Un (frs X.stack) ch H H' s.heap h') (hok:HOk X.prog X.w H' h') (hg:AllBare g')
  (hch:∀ b∈ch,(b∈X.ex∨X.s₀.heap.objs.size<=b)/\b≠X.env.locals/\(∀ x c,X.env.cells.lookup x=some c->c≠b)/\∀ p∈X.pn++O9,p.1≠b) :
  Inv X O9 σ H' { s with heap:=h',gens:=g',drawn:=d',toks:=t' }:=by
 obtain ⟨m,⟨o,es,ep,ho,r⟩,_⟩:=id I.loc
 obtain ⟨sl,hL⟩:=u.any ho I.free fun z=>(hch _ z).2.1 rfl
 exact I.step (ch:=ch) hch (fun b o hL hb hc e n=>u.keep b o e n (fun z=>(Bk.mp (I.stkSub b z)).elim hL hb) hc) (fun b o _ _ hc e n=>u.any e n hc) (fun b o hc e n=>u.free b o e n hc) (fun b o hc e=>u.there b o e hc) u.tups u.frzs u.tbls (fun m' hm=>by
  obtain ⟨o',es',ep',ho',r'⟩:=hm
  rw [ho] at ho';cases ho'
  exact ⟨_,es',ep',hL,r'⟩) hok hg
theorem Inv.turned {t':Nat} {it:Addr} (I:Inv X O9 σ H s) (k:∀ b o,b≠it->s.heap.get? b=some o->h'.get? b=some o) (hn:H it=none) (hL:it≠X.env.locals)
  (h1:it∈X.ex∨X.s₀.heap.objs.size<=it) (h2:∀ x c,X.env.cells.lookup x=some c->c≠it) (h3:∀ p∈X.pn++O9,p.1≠it):Inv X O9 σ H { s with heap:=h',toks:=t' }:=by
 have nit:∀ b u,H b=some u->b≠it:=fun b u e z=>by rw [z,hn] at e;cases e
 refine I.step (g':=s.gens) (d':=s.drawn) (ch:=[it]) (fun b hb=>?_) (fun b o _ _ hc e _=>k b o (fun z=>hc (by simp [z])) e) (fun b o _ _ hc e _=>⟨o.slots,k b o (fun z=>hc (by simp [z])) e⟩) (fun _ _ _ _ n=>n)
  (fun b o hc e=>⟨o,k b o (fun z=>hc (by simp [z])) e⟩) (fun _ _ e=>e) (fun _ _ _ e=>e) (fun b ps e=>⟨#[],by rw [e];simp⟩) (fun m hm=>?_) (fun b u e=>?_) I.bare
 ·have e:b=it:=by simpa using hb
  subst e
  exact ⟨h1,hL,h2,h3⟩
 ·obtain ⟨o,es,ep,ho,r⟩:=hm
  exact ⟨o,es,ep,k _ o (Ne.symm hL) ho,r⟩
 ·refine (I.hok b u e).stay (fun c v hc q=>k c v ?_ q) (fun _ q=>q) fun _ _ q=>q
  rcases hc with z | z
  ·rw [z];exact nit b u e
  ·exact nit c _ z
def Inv.tok (I:Inv X O9 σ H s) (t:Nat):Inv X O9 σ H { s with toks:=t }:=I.un (h':=s.heap) (t':=t) Un.refl I.hok
def Inv.kept {t':Nat} (I:Inv X O9 σ H s) (k:∀ b u,s.heap.get? b=some u->h'.get? b=some u):Inv X O9 σ H { s with heap:=h',toks:=t' }:=I.un (Un.kept k) (I.hok.kept k)
theorem Inv.laid {a:Addr} {t':Nat} (I:Inv X O9 σ H s) (k:∀ b u,s.heap.get? b=some u->h'.get? b=some u) (U:s.heap.objs.size<=a) (new:ObjOk X.prog X.w (upd H a o) h' a o):
  Inv X O9 σ (upd H a o) { s with heap:=h',toks:=t' }:=I.un (Un.laid k U (I.hok.fresh U)) (I.hok.laid k U new)
theorem Inv.write {x e:Addr} {o:HO} {t':Nat} (I:Inv X O9 σ H s) (mu:Mut (H x)) (he:e=x∨H e=some (.own x)) (k:∀ b u,b≠e->s.heap.get? b=some u->h'.get? b=some u) (heo:∃ u,h'.get? e=some u)
  (new:ObjOk X.prog X.w (upd H x o) h' x o):Inv X O9 σ (upd H x o) { s with heap:=h',toks:=t' }:=I.un (Un.write mu he k heo) (I.hok.write mu he k heo new)
theorem Inv.pins_of (I:Inv X O9 σ H s) (h:∀ p∈pins',s.heap.get? p.1=some p.2/\H p.1=none/\p.1≠X.env.locals/\p.1∉X.fs/\∀ v,p.2.data≠.cell v):Inv X pins' σ H s :=
 ⟨I.ok,I.os,I.bare,I.O8,I.loc,I.cell,I.free,I.freeC,fun p U=>(Ai.mp U).elim (fun z=>I.pin p (A7 _ z)) (h p),I.hok,I.len⟩
theorem G7 {N:List Str} (hN:N.Nodup) {i j:Nat} {x:Str} (a:N[i]?=some x) (b:N[j]?=some x):i=j:=by
 obtain ⟨h1,e1⟩:=Ac.mp a
 obtain ⟨h2,e2⟩:=Ac.mp b
 exact (List.getElem_inj hN).mp (e1.trans e2.symm)
theorem U2 {M:Model} {A:Around} {E:Eh} {i:Nat} {x:Str} {Q:Unit->Shared->Prop} (I:Inv X O9 σ H s) (hN:X.N.Nodup) (hi:X.N[i]?=some x) (hx:Loc X.env.scope x) (r:RelV v u)
  (h:∀ s',Inv X O9 (σ.set i (some v)) H s'->(∃ a,Heap.SameBut a s.heap s'.heap/\(a=X.env.locals∨X.env.cells.lookup x=some a))->Q () s') (hf:X.fn x=true∨X.env.scope.names.lookup x=some .local:=by first | exact .inl rfl | exact .inr rfl | assumption):wpAny M A (storeName X.env x u) Q E s:=by
 obtain ⟨m,hn,hl⟩:=id I.loc
 have hcls:(X.env.scope.kind==.class||(X.env.scope.kind==.module&&X.env.locals != X.env.globals))=false:=by rw [I.ok.kind];rfl
 have hiσ:i < σ.length:=by rw [I.len];exact (Ac.mp hi).1
 have cne:=I.cne
 have tracked:∀ {a:Addr} {h':Heap},(∃ o,s.heap.get? a=some o/\H a=none)->Heap.SameBut a s.heap h'->HOk X.prog X.w H h':=fun {a h'} ha hs b ob e=>by
  obtain ⟨_,_,hfree⟩:=ha
  refine (I.hok b ob e).stay (fun c w' hc q=>(hs.2 c ?_).trans q) (fun _ q=>q) fun _ _ q=>q
  rintro rfl
  rcases hc with rfl | hc
  ·rw [hfree] at e;cases e
  ·rw [hfree] at hc;cases hc
 rcases hx with hk | hk
 ·refine wpAny_storeName_local hk hn (fun h' hn' hs=>?_) hcls
  obtain ⟨oL,_,_,hoL,_⟩:=id hn
  refine h _ ⟨I.ok,I.os,I.bare,⟨fun b o e n hb hx=>?_,fun b o e n hb hx=>?_,I.O8.free,fun b o e hx=>?_,I.O8.tups,I.O8.frzs,I.O8.tbls⟩,⟨_,hn',fun j y v' e1 e2 e3=>?_⟩,fun y c e=>?_,I.free,I.freeC,fun p U=>?_,tracked ⟨oL,hoL,I.free⟩ hs,by simpa using I.len⟩ ⟨_,hs,.inl rfl⟩
  ·exact (hs.2 b (Bf (Ay (Ap e) I.ok.above))).trans (I.O8.keep b o e n hb hx)
  ·obtain ⟨sl,e1⟩:=I.O8.slot b o e n hb hx
   exact ⟨sl,(hs.2 b (Bf (Ay (Ap e) I.ok.above))).trans e1⟩
  ·obtain ⟨o',e1⟩:=I.O8.there b o e hx
   exact ⟨o',(hs.2 b (Bf (Ay (Ap e) I.ok.above))).trans e1⟩
  ·by_cases hj:j=i
   ·subst hj
    rw [hi] at e1;cases e1
    rw [Au hiσ] at e2
    cases e2
    exact ⟨u,r,.inl ⟨hk,by simp⟩⟩
   ·rw [Am (Ne.symm hj)] at e2
    obtain ⟨u',r',q⟩:=hl j y v' e1 e2 e3
    refine ⟨u',r',?_⟩
    rcases q with ⟨k,e⟩ | ⟨k,c,e,z⟩
    ·refine .inl ⟨k,?_⟩
     have:y≠x:=fun e=>hj (G7 hN e1 (e▸hi))
     simp [this,e]
    ·exact .inr ⟨k,c,e,z.sameBut hs (cne y c e)⟩
  ·obtain ⟨w',z⟩:=I.cell y c e
   exact ⟨w',z.sameBut hs (cne y c e)⟩
  ·obtain ⟨e,n,ne,nf,d⟩:=I.pin p U
   exact ⟨(hs.2 p.1 ne).trans e,n,ne,nf,d⟩
 ·have hfn:X.fn x=true:=by
   rcases hf with z | z
   ·exact z
   ·rw [z] at hk;cases hk
  obtain ⟨c,hc⟩:=I.ok.has x (.inl hk)
  obtain ⟨w',z⟩:=I.cell x c hc
  refine wpAny_storeName_cell I.ok.kind hk hc z (fun h' hc' hs=>?_)
  obtain ⟨oc,hoc,hocd⟩:=id z
  refine h { s with heap:=h' } ⟨I.ok,I.os,I.bare,⟨fun b o e n hb hx=>?_,fun b o e n hb hx=>?_,I.O8.free,fun b o e hx=>?_,I.O8.tups,I.O8.frzs,I.O8.tbls⟩,⟨m,hn.sameBut hs (Ne.symm (cne x c hc)),fun j y v' e1 e2 e3=>?_⟩,fun y c' e=>?_,I.free,I.freeC,fun p U=>?_,tracked ⟨oc,hoc,I.freeC x c hc⟩ hs,by simpa using I.len⟩ ⟨c,hs,.inr hc⟩
  ·exact (hs.2 b (Bf (Ay (Ap e) (I.ok.cab x c hfn hc)))).trans (I.O8.keep b o e n hb hx)
  ·obtain ⟨sl,e1⟩:=I.O8.slot b o e n hb hx
   exact ⟨sl,(hs.2 b (Bf (Ay (Ap e) (I.ok.cab x c hfn hc)))).trans e1⟩
  ·obtain ⟨o',e1⟩:=I.O8.there b o e hx
   exact ⟨o',(hs.2 b (Bf (Ay (Ap e) (I.ok.cab x c hfn hc)))).trans e1⟩
  ·by_cases hj:j=i
   ·subst hj
    rw [hi] at e1;cases e1
    rw [Au hiσ] at e2
    cases e2
    exact ⟨u,r,.inr ⟨.inl hk,c,hc,hc'⟩⟩
   ·rw [Am (Ne.symm hj)] at e2
    obtain ⟨u',r',q⟩:=hl j y v' e1 e2 e3
    refine ⟨u',r',?_⟩
    rcases q with q | ⟨k,c',e,z'⟩
    ·exact .inl q
    ·refine .inr ⟨k,c',e,z'.sameBut hs ?_⟩
     rintro rfl
     exact hj (G7 hN e1 (I.ok.inj _ _ _ e hc▸hi))
  ·by_cases hcc:c'=c
   ·subst hcc;exact ⟨_,hc'⟩
   ·obtain ⟨w2,z2⟩:=I.cell y c' e
    exact ⟨w2,z2.sameBut hs hcc⟩
  ·obtain ⟨e,n,ne,nf,d⟩:=I.pin p U
   refine ⟨(hs.2 p.1 ?_).trans e,n,ne,nf,d⟩
   intro q
   rw [q,hoc] at e
   have q':oc=p.2:=Ak e
   exact d w' (by rw [<- q'];exact hocd)
theorem vA {M:Model} {A:Around} {E:Eh} {i:Nat} {x:Str} {Q:Unit->Shared->Prop} (I:Inv X O9 σ H s) (hN:X.N.Nodup) (hi:X.N[i]?=some x) (hx:Loc X.env.scope x) (r:RelV v u)
  (h:∀ s',Inv X O9 (σ.set i (some v)) H s'->Q () s') (hf:X.fn x=true∨X.env.scope.names.lookup x=some .local:=by first | exact .inl rfl | exact .inr rfl | assumption):wpAny M A (storeName X.env x u) Q E s :=
 U2 I hN hi hx r (fun s' I' _=>h s' I') hf
theorem Inv.call' {s':Shared} (I:Inv X O9 σ H s) (ho:s'.os=s.os) (u:Un (frs X.stack) ch H H' s.heap s'.heap) (hok:HOk X.prog X.w H' s'.heap) (hg:AllBare s'.gens)
  (hch:∀ b∈ch,(b∈X.ex∨X.s₀.heap.objs.size<=b)/\b≠X.env.locals/\(∀ x c,X.env.cells.lookup x=some c->c≠b)/\∀ p∈X.pn++O9,p.1≠b):Inv X O9 σ H' s':=by
 obtain ⟨h',g',d',t',o'⟩:=s'
 have e:o'=s.os:=ho
 subst e
 exact I.call (g':=g') (t':=t') (d':=d') u hok hg hch
end
abbrev XK:=Value->Option Addr->Hp->Prop
abbrev St:=List (Option V)
abbrev VK:=V->Hp->Prop
abbrev TE:=St->Hp->VK->Prop
abbrev TT:=St->Hp->(Bool->Hp->Prop)->Prop
abbrev TA:=St->Hp->(List V->Hp->Prop)->Prop
structure U7 where
 nx:St->Hp->Prop
 rt:VK
 bk:St->Hp->Prop:=fun _ _=>False
 ct:St->Hp->Prop:=fun _ _=>False
abbrev TS:=U7->St->Hp->Prop
def EP (X:Cx) (O9:Ei) (σ:St) (Q:VK) (u:Value) (s':Shared):Prop:=∃ v H',Inv X O9 σ H' s'/\RelV v u/\Q v H'
def TP (X:Cx) (O9:Ei) (σ:St) (Q:Bool->Hp->Prop) (b:Bool) (s':Shared):Prop:=∃ H',Inv X O9 σ H' s'/\Q b H'
def AP (X:Cx) (O9:Ei) (σ:St) (Q:List V->Hp->Prop) (us:List Value) (s':Shared):Prop:=∃ vs H',Inv X O9 σ H' s'/\Vals vs us/\Q vs H'
def SP (X:Cx) (O9:Ei) (D:U7) (f:Flow) (s':Shared):Prop :=
 match f with
 | .next=>∃ σ' H',Inv X O9 σ' H' s'/\D.nx σ' H'
 | .brk=>∃ σ' H',Inv X O9 σ' H' s'/\D.bk σ' H'
 | .cont=>∃ σ' H',Inv X O9 σ' H' s'/\D.ct σ' H'
 | .ret u=>∃ v σ' H',Inv X O9 σ' H' s'/\RelV v u/\D.rt v H'
def PE (X:Cx) (e:Expr) (t:TE):Prop :=
 ∀ (O9:Ei) (s:Shared) (σ:St) (H:Hp) (Q:VK),Inv X O9 σ H s->t σ H Q->wpAny (model X.prog X.w) X.A (eval e X.env) (EP X O9 σ Q) X.xe s
def PT (X:Cx) (e:Expr) (t:TT):Prop :=
 ∀ (O9:Ei) (s:Shared) (σ:St) (H:Hp) (Q:Bool->Hp->Prop),Inv X O9 σ H s->t σ H Q->wpAny (model X.prog X.w) X.A (isTrue e X.env (eval e X.env)) (TP X O9 σ Q) X.xe s
def PW (X:Cx) (e:Expr) (t:TT):Prop :=
 ∀ (whole:Sem Value) (O9:Ei) (s:Shared) (σ:St) (H:Hp) (Q:Bool->Hp->Prop),Inv X O9 σ H s->t σ H Q->wpAny (model X.prog X.w) X.A (isTrue e X.env whole) (TP X O9 σ Q) X.xe s
def PA (X:Cx) (es:List Expr) (t:TA):Prop :=
 ∀ (pos:Pos) (O9:Ei) (s:Shared) (σ:St) (H:Hp) (Q:List V->Hp->Prop),Inv X O9 σ H s->t σ H Q->wpAny (model X.prog X.w) X.A (spliced (backTo pos (starEach es X.env))) (AP X O9 σ Q) X.xe s
def PS (X:Cx) (st:Stmt) (t:TS):Prop :=
 ∀ (O9:Ei) (s:Shared) (σ:St) (H:Hp) (D:U7),Inv X O9 σ H s->t D σ H->wpAny (model X.prog X.w) X.A (exec st X.env) (SP X O9 D) X.xe s
def PSs (X:Cx) (st:List Stmt) (t:TS):Prop :=
 ∀ (O9:Ei) (s:Shared) (σ:St) (H:Hp) (D:U7),Inv X O9 σ H s->t D σ H->wpAny (model X.prog X.w) X.A (execs st X.env) (SP X O9 D) X.xe s
def thn {α:Type} {t:Sem α} {Q Q':α->Shared->Prop} (h:wpAny M A t Q E s) (hQ:∀ a s,Q a s->Q' a s):wpAny M A t Q' E s:=wpAny_mono h hQ fun _ _ x=>x
section
variable {X:Cx}
theorem bin {ta tb:TE} (ha:PE X a ta) (hb:PE X b tb) {R:V->V->Hp->Prop} (I:Inv X O9 σ H s) (h:ta σ H fun x H1=>tb σ H1 fun y H2=>R x y H2)
  {α:Type} {Q:α->Shared->Prop} {f:Value->Value->Sem α}
  (hf:∀ v u s2 x y H2,Inv X O9 σ H2 s2->RelV x v->RelV y u->R x y H2->wpAny (model X.prog X.w) X.A (f v u) Q X.xe s2) :
  wpAny (model X.prog X.w) X.A (eval a X.env) (fun v s₁=>wpAny (model X.prog X.w) X.A (eval b X.env) (fun u s₂=>wpAny (model X.prog X.w) X.A (f v u) Q X.xe s₂) X.xe s₁) X.xe s:=by
 refine thn (ha O9 s σ H _ I h) fun v s1 ⟨x,H1,I1,r1,q1⟩=>?_
 refine thn (hb O9 s1 σ H1 _ I1 q1) fun u s2 ⟨y,H2,I2,r2,q2⟩=>?_
 exact hf v u s2 x y H2 I2 r1 r2 q2
def Qh8 (i:Nat):TE:=fun σ H Q=>∃ v,σ[i]?=some (some v)/\Q v H
def tC (v:V):TE:=fun _ H Q=>Q v H
theorem QfY {i:Nat} {x:Str} {pos:Pos} (hN:X.N[i]?=some x) (hv:Vis X.env.scope x) (hd:(x==("__debug__" : Str))=false:=by decide) (hcd:(x==("__classdict__" : Str))=false:=by decide):PE X (.Name x pos) (Qh8 i):=by
 intro O9 s σ H Q I h
 obtain ⟨v,e,h⟩:=h
 obtain ⟨m,hn,hl⟩:=I.loc
 obtain ⟨u,r,l⟩:=hl i x v hN e hv
 have fin:EP X O9 σ Q u s:=⟨v,H,I,r,h⟩
 rcases l with ⟨hk,hm⟩ | ⟨hk,c,hc,hcell⟩
 ·exact wpAny_Name (wpAny_loadName_local I.ok.kind hk hn hm fin) hd
 ·rcases hk with hk | hk
  ·exact wpAny_Name (wpAny_loadName_cell I.ok.kind hk hc hcell fin) hd
  ·exact wpAny_Name (wpAny_loadName_free I.ok.kind hk hc hcell fin hcd) hd
def QfT {i j pos}:PE X (.Constant (.int i) j pos) (tC (.int i)):=fun _ _ _ H _ I h=>wpAny_Constant_int ⟨.int i,H,I.tok _,⟨_,rfl⟩,h⟩
def Qhe {b j pos}:PE X (.Constant (.bool b) j pos) (tC (.bl b)):=fun _ _ _ H _ I h=>Constant_bool ⟨.bl b,H,I,rfl,h⟩
def QfU {j pos}:PE X (.Constant .none j pos) (tC .non):=fun _ _ _ H _ I h=>Constant_none ⟨.non,H,I,rfl,h⟩
def QfW {x j pos}:PE X (.Constant (.str x) j pos) (tC (.str x)):=fun _ _ _ H _ I h=>Calls.Constant_str ⟨.str x,H,I.tok _,⟨_,rfl⟩,h⟩
def Gl (X:Cx) (x:Str):Prop:=X.env.kindOf x=some .globalImplicit
theorem KG {E:Eh} {x:Str} {pos:Pos} {Q:Eh} (I:Inv X O9 σ H s) (hg:Gl X x) (hm:X.mg x=some u) (h:Q u s)
  (hd:(x==("__debug__" : Str))=false:=by decide):wpAny (model X.prog X.w) X.A (eval (.Name x pos) X.env) Q E s :=
 Calls.Name_function_global I.ok.kind hg (Calls.loadGlobal_global (by rw [I.ok.glob];exact I.mod.glob.keeps I.bk) hm h) hd
theorem Vb {E:Eh} {x:Str} {pos:Pos} {Q:Eh} (I:Inv X O9 σ H s) (hg:Gl X x) (hm:X.mg x=none) (hv:bootBuiltins x=some u) (h:Q u s)
  (hn:x ≠ "__name__" := by decide) (hd:(x==("__debug__" : Str))=false:=by decide):wpAny (model X.prog X.w) X.A (eval (.Name x pos) X.env) Q E s:=by
 obtain ⟨mb,h1,h2⟩:=I.mod.blt
 exact Calls.Name_function_global I.ok.kind hg (Calls.loadGlobal_builtin (by rw [I.ok.glob];exact I.mod.glob.keeps I.bk) hm (by rw [I.ok.blt];exact h1.keeps I.bk) ((h2 x hn).trans hv) h) hd
theorem kA {x:Str} {pos:Pos} (hg:Gl X x) (hm:X.mg x=some u) (r:RelV v u) (hd:(x==("__debug__" : Str))=false:=by decide):PE X (.Name x pos) (tC v) :=
 fun _ _ _ H _ I h=>KG I hg hm ⟨v,H,I,r,h⟩ hd
theorem kz {x:Str} {pos:Pos} (hg:Gl X x) (hm:X.mg x=none) (hv:bootBuiltins x=some u) (r:RelV v u) (hn:x ≠ "__name__" := by decide) (hd:(x==("__debug__" : Str))=false:=by decide):PE X (.Name x pos) (tC v) :=
 fun _ _ _ H _ I h=>Vb I hg hm hv ⟨v,H,I,r,h⟩ hn hd
variable {a b:Expr} {ta tb:TE} {pos:Pos}
def PC (X:Cx) (op:CmpOp) (a b:Expr) (t:TE):Prop :=
  ∀ (O9 : List (Addr × Obj)) (s : Shared) (σ : St) (H : Hp) (Q : VK), Inv X O9 σ H s -> t σ H Q ->
    wpAny (model X.prog X.w) X.A (eval a X.env) (fun v s₁=>wpAny (model X.prog X.w) X.A (eval b X.env) (fun u s₂=>wpAny (model X.prog X.w) X.A (compareOp op v u) (EP X O9 σ Q) X.xe s₂) X.xe s₁) X.xe s
theorem Qb7 (b:Expr) {op:CmpOp} (h:op≠.In) (h2:op≠.NotIn):behindInMarks op b=false:=by
 have e1:(op==CmpOp.In)=false:=by cases op<;>first | rfl | exact absurd rfl h
 have e2:(op==CmpOp.NotIn)=false:=by cases op<;>first | rfl | exact absurd rfl h2
 cases b<;>simp [behindInMarks,e1,e2]
def tB (t:TE):TT:=fun σ H Q=>t σ H fun x H1=>∃ c,x=.bl c/\Q c H1
theorem QhQ {op:CmpOp} (h:PC X op a b t) (h1:behindInMarks op b=false:=by first | exact Qb7 _ (by decide) (by decide) | rfl):PT X (.Compare a [op] [b] pos) (tB t):=by
 intro O9 s σ H Q I hw
 refine wpAny_isTrue_Compare1 (thn (h O9 s σ H _ I hw) fun v s1 h1=>thn h1 fun u s2 h2=>thn h2 fun c s3 ⟨x,H1,I1,r1,q1⟩=>?_) h1
 obtain ⟨d,rfl,q⟩:=q1
 cases r1
 exact wpAny_truthy_bool ⟨H1,I1,q⟩
theorem Qgd {e:Expr} (h:PE X e t) (he:∀ whole,isTrue e X.env whole=(do let v <- whole;standAt e.pos;holding [v] (truthy v)):=by intro _;rfl):PT X e (tB t):=by
 intro O9 s σ H Q I hw
 refine isTrue_plain (thn (h O9 s σ H _ I hw) fun v s1 ⟨x,H1,I1,r1,q1⟩=>?_) (he _)
 obtain ⟨d,rfl,q⟩:=q1
 cases r1
 exact wpAny_truthy_bool ⟨H1,I1,q⟩
variable {tA tB':TT} {rest:List Expr}
def QhZ (t u:TT):TT:=fun σ H Q=>t σ H fun c H1=>if c=true then u σ H1 Q else Q false H1
def tOr (t u:TT):TT:=fun σ H Q=>t σ H fun c H1=>if c=true then Q true H1 else u σ H1 Q
def Qh5 (t:TT):TT:=fun σ H Q=>t σ H fun c H1=>Q (!c) H1
theorem Qec (ha:PT X a tA):PW X (.BoolOp .And [a] pos) tA:=by
 intro wh O9 s σ H Q I h
 refine isTrue_and (thn (ha O9 s σ H Q I h) fun c s1 e=>?_)
 cases c with
 | true=>exact isTrue_and_nil e
 | false=>exact e
theorem Qgg (ha:PT X a tA):PW X (.BoolOp .Or [a] pos) tA:=by
 intro wh O9 s σ H Q I h
 refine isTrue_or (thn (ha O9 s σ H Q I h) fun c s1 e=>?_)
 cases c with
 | false=>exact isTrue_or_nil e
 | true=>exact e
theorem Qgf (ha:PT X a tA) (hb:PW X (.BoolOp .And (b::rest) pos) tB'):PW X (.BoolOp .And (a::b::rest) pos) (QhZ tA tB'):=by
 intro wh O9 s σ H Q I h
 refine isTrue_and (thn (ha O9 s σ H _ I h) fun c s1 ⟨H1,I1,q1⟩=>?_)
 cases c with
 | true=>exact hb wh O9 s1 σ H1 Q I1 q1
 | false=>exact ⟨H1,I1,q1⟩
theorem Qhj (ha:PT X a tA) (hb:PW X (.BoolOp .Or (b::rest) pos) tB'):PW X (.BoolOp .Or (a::b::rest) pos) (tOr tA tB'):=by
 intro wh O9 s σ H Q I h
 refine isTrue_or (thn (ha O9 s σ H _ I h) fun c s1 ⟨H1,I1,q1⟩=>?_)
 cases c with
 | true=>exact ⟨H1,I1,q1⟩
 | false=>exact hb wh O9 s1 σ H1 Q I1 q1
theorem Qgc (ha:PT X a tA):PT X (.UnaryOp .Not a pos) (Qh5 tA):=by
 intro O9 s σ H Q I h
 exact isTrue_not (ha O9 s σ H (fun c H1=>Q (!c) H1) I h)
def Qhu (ta tb:TE):TE:=fun σ H Q=>ta σ H fun x H1=>∃ c,x=.bl c/\if c=true then tb σ H1 Q else Q (.bl false) H1
def QfV {op} (h:PE X a t):PE X (.BoolOp op [a] pos) t:=fun O9 s σ H Q I hw=>BoolOp_one (h O9 s σ H Q I hw)
theorem QfQ (ha:PE X a ta) (hb:PE X (.BoolOp .And (b::rest) pos) tb):PE X (.BoolOp .And (a::b::rest) pos) (Qhu ta tb):=by
 intro O9 s σ H Q I h
 refine BoolOp_and (thn (ha O9 s σ H _ I h) fun v s1 ⟨x,H1,I1,r1,q1⟩=>?_)
 obtain ⟨c,rfl,q1⟩:=q1
 cases r1
 refine wpAny_truthy_bool ?_
 cases c with
 | true=>exact hb O9 s1 σ H1 Q I1 q1
 | false=>exact ⟨.bl false,H1,I1,rfl,q1⟩
def tIf (t:TT) (ta tb:TE):TE:=fun σ H Q=>t σ H fun c H1=>if c=true then ta σ H1 Q else tb σ H1 Q
theorem Qch (hc:PT X c tA) (ha:PE X a ta) (hb:PE X b tb):PE X (.IfExp c a b pos) (tIf tA ta tb):=by
 intro O9 s σ H Q I h
 refine wpAny_IfExp (thn (hc O9 s σ H _ I h) fun d s1 ⟨H1,I1,q1⟩=>?_)
 cases d with
 | true=>exact ha O9 s1 σ H1 Q I1 q1
 | false=>exact hb O9 s1 σ H1 Q I1 q1
end
def SqL (K:Aa) (H:Hp) (a:Addr) (xs:List V):Prop :=
 Rd H a (.lst xs) ∨
  ∃ (o:Obj) (its:Array Value) (n:Nat),K.lookup a=some o/\o.cls=.type "list" /\ o.dict=none/\o.data=.seq its n/\its.size<=sizeLine/\Vals xs its.toList
def SqT (K:Aa) (H:Hp) (a:Addr) (xs:List V):Prop :=
 Rd H a (.tup xs) ∨
  ∃ (o:Obj) (its:Array Value) (n:Nat),K.lookup a=some o/\o.cls=.type "tuple" /\ o.data=.seq its n/\its.size<=sizeLine/\Vals xs its.toList
def QhG:Value->Option V
 | .none=>some .non
 | .bool b=>some (.bl b)
 | .int i _=>some (.int i)
 | .str x _=>some (.str x)
 | .bytes b _=>some (.byt b)
 | .float b _=>some (.flt b)
 | .ref a=>some (.ref a)
 | .type n=>some (.ty n)
 | _=>none
theorem RelV.abs (r:RelV x u):QhG u=some x:=by
 cases x with
 | non=>cases r;rfl
 | bl _=>cases r;rfl
 | int _=>obtain ⟨t,rfl⟩:=r;rfl
 | str _=>obtain ⟨t,rfl⟩:=r;rfl
 | byt _=>obtain ⟨t,rfl⟩:=r;rfl
 | flt _=>obtain ⟨t,rfl⟩:=r;rfl
 | ref _=>cases r;rfl
 | ty _=>cases r;rfl
def RelV.inj {x y:V} (r:RelV x u) (q:RelV y u):x=y:=Ak (r.abs.symm.trans q.abs)
theorem Vals.inj:∀ {xs ys:List V} {us:List Value},Vals xs us->Vals ys us->xs=ys
 | _,_,_,.nil,.nil=>rfl
 | _,_,_,.cons r t,.cons r' t'=>by rw [r.inj r',Vals.inj t t']
section
variable {X:Cx} {O9:Ei} {σ:St} {H:Hp} {s:Shared} {a:Addr} {xs ys:List V}
def SqL.of {K:Aa} (h:H a=some (.lst xs)):SqL K H a xs:=.inl (.inl h)
def SqT.of {K:Aa} (h:H a=some (.tup xs)):SqT K H a xs:=.inl (.inl h)
theorem Inv.list (I:Inv X O9 σ H s) (h:SqL X.K H a xs):∃ its:List Value,Vals xs its/\PlainL s.heap a its.toArray/\xs.length<=sizeLine:=by
 rcases h with h | ⟨o,its,n,hk,hc,hd,hs,hz,r⟩
 ·obtain ⟨z,its,n,r,e⟩:=h.ok I.hok
  exact ⟨its,r,⟨_,n,e,rfl,rfl,rfl⟩,z⟩
 ·refine ⟨its.toList,r,⟨o,n,I.kIn a o hk,hc,hd,by simpa using hs⟩,?_⟩
  have e:=r.length
  simp only [Cj] at e
  lia
theorem Inv.tuple (I:Inv X O9 σ H s) (h:SqT X.K H a xs):∃ its:List Value,Vals xs its/\IsTup s.heap a its.toArray/\xs.length<=sizeLine:=by
 rcases h with h | ⟨o,its,n,hk,hc,hs,hz,r⟩
 ·obtain ⟨z,its,r,p⟩:=h.ok I.hok
  exact ⟨its,r,p,z⟩
 ·refine ⟨its.toList,r,⟨o,I.kIn a o hk,hc,n,by simpa using hs⟩,?_⟩
  have e:=r.length
  simp only [Cj] at e
  lia
theorem Inv.list_inj (I:Inv X O9 σ H s) (h:SqL X.K H a xs) (h':SqL X.K H a ys):xs=ys:=by
 obtain ⟨its,r,⟨o,n,e,_,_,d⟩,_⟩:=I.list h
 obtain ⟨its',r',⟨o',n',e',_,_,d'⟩,_⟩:=I.list h'
 rw [e] at e';cases e'
 rw [d] at d'
 injection d' with d1 _
 have:its=its':=by simpa using congrArg Array.toList d1
 subst this
 exact r.inj r'
theorem Inv.tuple_inj (I:Inv X O9 σ H s) (h:SqT X.K H a xs) (h':SqT X.K H a ys):xs=ys:=by
 obtain ⟨its,r,⟨o,e,_,n,d⟩,_⟩:=I.tuple h
 obtain ⟨its',r',⟨o',e',_,n',d'⟩,_⟩:=I.tuple h'
 rw [e] at e';cases e'
 rw [d] at d'
 injection d' with d1 _
 have:its=its':=by simpa using congrArg Array.toList d1
 subst this
 exact r.inj r'
end
abbrev Cx.wish (X:Cx) (E:Eh):Cx:={ X with xe:=E }
abbrev Cx.nox (X:Cx):Cx:=X.wish fun _ _=>False
theorem Cx.Ok.wish {X:Cx} (ok:X.Ok) (E:Eh):(X.wish E).Ok :=
 ⟨ok.mod,ok.kind,ok.glob,ok.blt,ok.above,ok.inj,ok.has,ok.cab,ok.hd,ok.frames,ok.stk,ok.exf,ok.bs,ok.bsz,ok.noex,ok.exfs,ok.funs,ok.frf⟩
theorem Cx.Ok.unwish {X:Cx} (ok:(X.wish E).Ok):X.Ok :=
 ⟨ok.mod,ok.kind,ok.glob,ok.blt,ok.above,ok.inj,ok.has,ok.cab,ok.hd,ok.frames,ok.stk,ok.exf,ok.bs,ok.bsz,ok.noex,ok.exfs,ok.funs,ok.frf⟩
section
variable {X:Cx} {O9:Ei} {σ:St} {H:Hp} {s:Shared} {E:Eh}
def Inv.wish (I:Inv X O9 σ H s) (E:Eh):Inv (X.wish E) O9 σ H s:=⟨I.ok.wish E,I.os,I.bare,I.O8,I.loc,I.cell,I.free,I.freeC,I.pin,I.hok,I.len⟩
def Inv.unwish (I:Inv (X.wish E) O9 σ H s):Inv X O9 σ H s:=⟨I.ok.unwish,I.os,I.bare,I.O8,I.loc,I.cell,I.free,I.freeC,I.pin,I.hok,I.len⟩
theorem SP.unwish {D:U7} {f:Flow} (h:SP (X.wish E) O9 D f s'):SP X O9 D f s':=by
 cases f with
 | next=>obtain ⟨σ',H',I,q⟩:=h;exact ⟨σ',H',I.unwish,q⟩
 | brk=>obtain ⟨σ',H',I,q⟩:=h;exact ⟨σ',H',I.unwish,q⟩
 | cont=>obtain ⟨σ',H',I,q⟩:=h;exact ⟨σ',H',I.unwish,q⟩
 | ret u=>obtain ⟨v,σ',H',I,r,q⟩:=h;exact ⟨v,σ',H',I.unwish,r,q⟩
theorem PSs.nox {st:List Stmt} (h:PSs X.nox st t):PSs X st t:=fun O9 s σ H D I hw =>
 wpAny_mono (h O9 s σ H D (I.wish _) hw) (fun _ _ q=>q.unwish) fun _ _ z=>False.elim z
end
section
variable {X:Cx} {st:Stmt} {rest:List Stmt} {t u:TS} {e:Expr} {te:TE} {pos:Pos}
def Qhy:TS:=fun D σ H=>D.nx σ H
def QhB (t u:TS):TS:=fun D σ H=>t { D with nx:=u D } σ H
def pss_nil:PSs X [] Qhy:=fun _ _ σ H _ I h=>wpAny_execs_nil ⟨σ,H,I,h⟩
theorem Qct (h1:PS X st t) (h2:PSs X rest u):PSs X (st::rest) (QhB t u):=by
  intro O9 s σ H D I h
  refine wpAny_execs_cons (thn (h1 O9 s σ H { D with nx:=u D } I h) fun f s1 q=>?_)
  cases f with
  | next =>
    obtain ⟨σ',H',I',q⟩:=q
    exact h2 O9 s1 σ' H' D I' q
  | ret v=>exact q
  | brk=>exact q
  | cont=>exact q
theorem Qd8 (h1:PS X st t):PSs X [st] t:=by
 intro O9 s σ H D I h
 refine wpAny_execs_cons (thn (h1 O9 s σ H D I h) fun f s1 q=>?_)
 cases f with
 | next=>exact wpAny_execs_nil q
 | ret v=>exact q
 | brk=>exact q
 | cont=>exact q
theorem Inv.quiet (I:Inv X O9 σ H s):interactive X.env=false:=by simp [interactive,I.ok.kind]
def Qhx (te:TE):TS:=fun D σ H=>te σ H fun _ H1=>D.nx σ H1
theorem Qd7 (he:PE X e te) (hs:swapsWith e none pos.line X.env=pure false:=by rfl):PS X (.Expr e pos) (Qhx te):=by
 intro O9 s σ H D I h
 exact wpAny_Expr_any (thn (he O9 s σ H _ I h) fun v s1 ⟨x,H1,I1,r1,q1⟩=>⟨σ,H1,I1,q1⟩) I.quiet hs
def Qh6 (te:TE):TS:=fun D σ H=>te σ H D.rt
theorem Qga (he:PE X e te):PS X (.Return (some e) pos) (Qh6 te):=by
 intro O9 s σ H D I h
 exact wpAny_Return_some (thn (he O9 s σ H _ I h) fun v s1 ⟨x,H1,I1,r1,q1⟩=>⟨x,σ,H1,I1,r1,q1⟩)
def Qh3 (c:TT) (t u:TS):TS:=fun D σ H=>c σ H fun b H1=>if b=true then t D σ H1 else u D σ H1
theorem Qhi {a b:List Stmt} {tc:TT} (hc:PT X c tc) (ha:PSs X a t) (hb:PSs X b u):PS X (.If c a b pos) (Qh3 tc t u):=by
 intro O9 s σ H D I h
 refine wpAny_If (thn (hc O9 s σ H _ I h) fun d s1 ⟨H1,I1,q1⟩=>?_)
 cases d with
 | true=>exact ha O9 s1 σ H1 D I1 q1
 | false=>exact hb O9 s1 σ H1 D I1 q1
def Qgn:TS:=fun _ _ _=>False
def Qcs:PS X st Qgn:=fun _ _ _ _ _ _ h=>h.elim
end
abbrev TG:=V->St->Hp->(St->Hp->Prop)->Prop
def PG (X:Cx) (target:Expr) (t:TG):Prop :=
  ∀ (O9 : List (Addr × Obj)) (s : Shared) (σ : St) (H : Hp) (v : V) (u : Value) (Q : St -> Hp -> Prop), Inv X O9 σ H s -> RelV v u -> t v σ H Q ->
    wpAny (model X.prog X.w) X.A (assign target X.env u) (fun _ s'=>∃ σ' H',Inv X O9 σ' H' s'/\Q σ' H') X.xe s
abbrev Qc9:=V->V->V->Hp->(Hp->Prop)->Prop
def Qc8 (X:Cx) (t:Qc9):Prop :=
  ∀ (O9 : List (Addr × Obj)) (s : Shared) (σ : St) (H : Hp) (o i v : V) (ov iv u : Value) (Q : Hp -> Prop), Inv X O9 σ H s -> RelV o ov -> RelV i iv -> RelV v u -> t o i v H Q ->
    wpAny (model X.prog X.w) X.A (setItem ov iv u) (fun _ s'=>∃ H',Inv X O9 σ H' s'/\Q H') X.xe s
section
variable {X:Cx} {pos:Pos}
def gT (i:Nat):TG:=fun v σ H Q=>Q (σ.set i (some v)) H
theorem kB {i:Nat} {x:Str} (hN:X.N.Nodup) (hi:X.N[i]?=some x) (hx:Loc X.env.scope x) (hf:X.fn x=true∨X.env.scope.names.lookup x=some .local:=by first | exact .inl rfl | exact .inr rfl | assumption):PG X (.Name x pos) (gT i):=by
 intro O9 s σ H v u Q I r h
 exact wpAny_assign_Name (vA I hN hi hx r (fun s' I'=>⟨_,H,I',h⟩) hf)
def QhJ (to ti:TE) (t:Qc9):TG:=fun v σ H Q=>to σ H fun o H1=>ti σ H1 fun i H2=>t o i v H2 fun H3=>Q σ H3
theorem Qf3 {t:Qc9} (ho:PE X o to) (hi:PE X i ti) (hs:Qc8 X t)
  (ha:∀ v,assign (.Subscript o i pos) X.env v=(do
   let ov <- holding [v] (eval o X.env)
   let iv <- holding [v,ov] (eval i X.env)
   standAt pos
   holding [v,ov,iv] (setItem ov iv v)
   release [v,ov,iv] []):=by intro _;rfl):PG X (.Subscript o i pos) (QhJ to ti t):=by
 intro O9 s σ H v u Q I r h
 rw [ha]
 refine C7 (wpAny_holding (thn (ho O9 s σ H _ I h) fun ov s1 ⟨x,H1,I1,r1,q1⟩=>?_))
 refine C7 (wpAny_holding (thn (hi O9 s1 σ H1 _ I1 q1) fun iv s2 ⟨y,H2,I2,r2,q2⟩=>?_))
 refine C7 (wpAny_standAt (C7 (wpAny_holding (thn (hs O9 s2 σ H2 x y v ov iv u _ I2 r1 r2 r q2) fun _ s3 ⟨H3,I3,q3⟩=>?_))))
 exact wpAny_release ⟨σ,H3,I3,q3⟩
def Qeu (te:TE) (g:TG):TS:=fun D σ H=>te σ H fun x H1=>g x σ H1 D.nx
theorem Qf8 (he:PE X e te) (hg:PG X tg g) (hs:swapsWithSole [tg] e pos.line X.env=pure false:=by rfl) (hw:swappedStores [tg] e X.env=pure none:=by rfl)
  (h1:(assignEach [tg] X.env).map (·.2)=[assign tg X.env]:=by rfl):PS X (.Assign [tg] e pos) (Qeu te g):=by
 intro O9 s σ H D I h
 refine wpAny_Assign_stores (thn (he O9 s σ H _ I h) fun v s1 ⟨x,H1,I1,r1,q1⟩=>?_) hs hw
 rw [h1]
 exact thn (hg O9 s1 σ H1 x v _ I1 r1 q1) fun _ s2 q=>q
theorem Qgb {i:Nat} {x:Str} (hN:X.N.Nodup) (hi:X.N[i]?=some x) (hx:Loc X.env.scope x) (he:PE X e te) (hs:swapsWith e (some (.Name x pos')) pos.line X.env=pure false:=by rfl) (hf:X.fn x=true∨X.env.scope.names.lookup x=some .local:=by first | exact .inl rfl | exact .inr rfl | assumption):
  PS X (.Assign [.Name x pos'] e pos) (Qeu te (gT i)):=by
 intro O9 s σ H D I h
 refine wpAny_Assign_Name (thn (he O9 s σ H _ I h) fun v s1 ⟨y,H1,I1,r1,q1⟩=>?_) hs
 exact vA I1 hN hi hx r1 (fun s2 I2=>⟨_,H1,I2,q1⟩) hf
end
section
variable {X:Cx} {pos:Pos}
end
structure It where
 go:Nat->Hp->Prop
 yld:Nat->Hp->V->Hp->Prop
 stop:Nat->Hp->Prop
def U8 (X:Cx) (O9:Ei) (H:Hp) (b:Addr):Prop :=
 H b=none/\b≠X.env.locals/\b∉X.fs/\(b∈X.ex∨X.s₀.heap.objs.size<=b)/\(∀ x c,X.env.cells.lookup x=some c->c≠b)/\∀ p∈X.pn++O9,p.1≠b
theorem Inv.fpOk {H H':Hp} {s:Shared} {b:Addr} (I:Inv X O9 σ H s) (hb:s.heap.objs.size<=b) (hn:H' b=none):U8 X O9 H' b:=by
 refine ⟨hn,C5 (Ay I.lt hb),I.nofs hb,.inr (Bj I.sz hb),fun x c e z=>?_,fun p U z=>?_⟩
 ·obtain ⟨v,q⟩:=I.cell x c e
  exact absurd (Ay q.lt (by rw [z];exact hb)) (Cw _)
 ·exact absurd (Ay (Ap (I.pin p U).1) (by rw [z];exact hb)) (Cw _)
structure Qbd (P:Program) (w:World) (K:Aa) (tg:Expr) (J:It) (fp:Ep) (it:Addr) (tn:Nat->Heap->Prop):Prop where
 mem:it∈fp
 obj:∀ i h,tn i h->∀ b∈fp,∃ o,h.get? b=some o/\∀ v,o.data≠.cell v
 keep:∀ i h h',tn i h->(∀ b∈fp,∀ o,h.get? b=some o->h'.get? b=some o)->tn i h'
 item:∀ (X:Cx),X.prog=P->X.w=w->X.K=K->X.calm=true->∀ (i:Nat) (O9:Ei) (s:Shared) (σ:St) (H:Hp) (E:Eh),Inv X O9 σ H s->(∀ b∈fp,U8 X O9 H b)->tn i s.heap->J.go i H ->
  wpAny (model P w) X.A (pyNext (.ref it)) (fun r s1=>∃ u,r=some u /\
   wpAny (model P w) X.A (letOwnedTupleGo tg (.ref it) u) (fun _ s2=>∃ x H',Inv X O9 σ H' s2/\RelV x u/\J.yld i H x H'/\tn (i+1) s2.heap/\∀ b∈fp,H' b=none) E s1) E s
 done:∀ (X:Cx),X.prog=P->X.w=w->X.K=K->X.calm=true->∀ (i:Nat) (O9:Ei) (s:Shared) (σ:St) (H:Hp) (E:Eh),Inv X O9 σ H s->(∀ b∈fp,U8 X O9 H b)->tn i s.heap->J.stop i H ->
  wpAny (model P w) X.A (pyNext (.ref it)) (fun r s1=>r=none/\Inv X O9 σ H s1) E s
 self:∀ (A:Around) (i:Nat) (s:Shared) (Q:Eh) (E:Eh),tn i s.heap->Q (.ref it) s->wpAny (model P w) A (pyIter (.ref it)) Q E s
abbrev TI:=St->Hp->(It->Hp->Prop)->Prop
def PIE (X:Cx) (O9:Ei) (σ:St) (tg:Expr) (R:It->Hp->Prop) (itv:Value) (s2:Shared):Prop :=
 ∃ (it:Addr) (fp:Ep) (tn:Nat->Heap->Prop) (J:It) (H':Hp),itv=.ref it/\Inv X O9 σ H' s2/\Qbd X.prog X.w X.K tg J fp it tn/\tn 0 s2.heap/\(∀ b∈fp,U8 X O9 H' b)/\R J H'
def PI (X:Cx) (tg iter:Expr) (wi:TI):Prop :=
  ∀ (O9 : List (Addr × Obj)) (s : Shared) (σ : St) (H : Hp) (R : It -> Hp -> Prop), Inv X O9 σ H s -> wi σ H R ->
    wpAny (model X.prog X.w) X.A (eval iter X.env) (fun v s1=>wpAny (model X.prog X.w) X.A (pyIter v) (PIE X O9 σ tg R) X.xe s1) X.xe s
theorem QbJ {M:Model} {A:Around} {E:Eh} {s:Shared} {tg:Expr} {it:Addr} {u:Value} {o:Obj} {n:String} {vs:Array Value} {Q:Unit->Shared->Prop} (ho:s.heap.get? it=some o) (hc:o.cls=.type n) (hd:o.data=.fields vs)
    (hn:["enumerate", "zip", "dict_itemiterator", "dict_reverseitemiterator", "odict_iterator", "itertools.zip_longest", "itertools.pairwise"].contains n=false) (hQ:Q () s):wpAny M A (letOwnedTupleGo tg (.ref it) u) Q E s:=by
  unfold letOwnedTupleGo
  cases tg<;>first
    | exact Ea hQ
    | (cases u<;>first
        | exact Ea hQ
        | (refine C7 (wpAny_load ho ?_)
           rw [hc,hd]
           show wpAny M A (if (["enumerate", "zip", "dict_itemiterator", "dict_reverseitemiterator", "odict_iterator", "itertools.zip_longest", "itertools.pairwise"].contains n&&vs[0]?==some (rawInt _))=true then _ else _) Q E s
           rw [C8 (by intro h;rw [hn,Bool.false_and] at h;cases h)]
           exact Ea hQ))
def Itl (K:Aa) (a:Addr):It :=
 ⟨fun i H=>∃ xs x,SqL K H a xs/\xs[i]?=some x,fun i H x H'=>H'=H/\∀ xs,SqL K H a xs->xs[i]?=some x,fun i H=>∃ xs,SqL K H a xs/\xs.length<=i⟩
def Itt (K:Aa) (a:Addr):It :=
 ⟨fun i H=>∃ xs x,SqT K H a xs/\xs[i]?=some x,fun i H x H'=>H'=H/\∀ xs,SqT K H a xs->xs[i]?=some x,fun i H=>∃ xs,SqT K H a xs/\xs.length<=i⟩
def Itr (lo:Int) (n:Nat):It:=⟨fun i _=>i < n,fun i H x H'=>H'=H/\x=.int (lo+i),fun i _=>n<=i⟩
theorem Qa6 {w:World} {K:Aa} (a it:Addr):Qbd P w K tg (Itl K a) [it] it (fun i h=>h.IsListIter it a i) where
 mem:=by simp
 obj:=fun i h st b hb=>by
  have e:b=it:=by simpa using hb
  subst e
  obtain ⟨o,e,c,d⟩:=st
  exact ⟨o,e,fun v z=>by rw [d] at z;cases z⟩
 keep:=fun i h h' st k=>st.at fun o e=>k it (by simp) o e
 item:=by
  intro X hP hw hK hc i O9 s σ H E I hf st hg
  subst hP hw hK
  obtain ⟨xs,x,hq,hx⟩:=hg
  obtain ⟨its,rv,p,hz⟩:=I.list hq
  obtain ⟨u,hu,ru⟩:=rv.get hx
  obtain ⟨f0,f1,f2,f3,f4,f5⟩:=hf it (by simp)
  refine wpAny_pyNext_list_item st p.isList (x:=u) (by simpa using hu) fun h' st' sb=>?_
  have I1:Inv X O9 σ H { s with heap:=h' }:=I.turned (t':=s.toks) (fun b o hb e=>(sb.2 b hb).trans e) f0 f1 f3 f4 f5
  obtain ⟨o,e,c,d⟩:=id st'
  exact ⟨u,rfl,QbJ (s:={ s with heap:=h' }) e c d (by decide) ⟨x,H,I1,ru,⟨rfl,fun ys hy=>by rw [I.list_inj hy hq];exact hx⟩,st',fun b hb=>(hf b hb).1⟩⟩
 done:=by
  intro X hP hw hK hc i O9 s σ H E I hf st hg
  subst hP hw hK
  obtain ⟨xs,hq,hx⟩:=hg
  obtain ⟨its,rv,p,hz⟩:=I.list hq
  obtain ⟨f0,f1,f2,f3,f4,f5⟩:=hf it (by simp)
  have hl:=rv.length
  exact wpAny_pyNext_list_end (I.ok.hd hc) st p.isList (by simp;lia) fun h' eb=>⟨rfl,I.turned (t':=s.toks) (fun b o hb e=>eb b o hb e) f0 f1 f3 f4 f5⟩
 self:=fun _ _ _ _ _ st h=>wpAny_pyIter_listiter st h
theorem gg {w:World} {K:Aa} (a it:Addr):Qbd P w K tg (Itt K a) [it] it (fun i h=>h.IsTupleIter it a i) where
 mem:=by simp
 obj:=fun i h st b hb=>by
  have e:b=it:=by simpa using hb
  subst e
  obtain ⟨o,e,c,d⟩:=st
  exact ⟨o,e,fun v z=>by rw [d] at z;cases z⟩
 keep:=fun i h h' st k=>st.at fun o e=>k it (by simp) o e
 item:=by
  intro X hP hw hK hc i O9 s σ H E I hf st hg
  subst hP hw hK
  obtain ⟨xs,x,hq,hx⟩:=hg
  obtain ⟨its,rv,p,hz⟩:=I.tuple hq
  obtain ⟨u,hu,ru⟩:=rv.get hx
  obtain ⟨f0,f1,f2,f3,f4,f5⟩:=hf it (by simp)
  refine wpAny_pyNext_tuple_item st (show s.heap.IsTuple a its.toArray from p) (x:=u) (by simpa using hu) fun h' st' sb=>?_
  have I1:Inv X O9 σ H { s with heap:=h' }:=I.turned (t':=s.toks) (fun b o hb e=>(sb.2 b hb).trans e) f0 f1 f3 f4 f5
  obtain ⟨o,e,c,d⟩:=id st'
  exact ⟨u,rfl,QbJ (s:={ s with heap:=h' }) e c d (by decide) ⟨x,H,I1,ru,⟨rfl,fun ys hy=>by rw [I.tuple_inj hy hq];exact hx⟩,st',fun b hb=>(hf b hb).1⟩⟩
 done:=by
  intro X hP hw hK hc i O9 s σ H E I hf st hg
  subst hP hw hK
  obtain ⟨xs,hq,hx⟩:=hg
  obtain ⟨its,rv,p,hz⟩:=I.tuple hq
  obtain ⟨f0,f1,f2,f3,f4,f5⟩:=hf it (by simp)
  have hl:=rv.length
  exact wpAny_pyNext_tuple_end (I.ok.hd hc) st (show s.heap.IsTuple a its.toArray from p) (by simp;lia) fun h' eb=>⟨rfl,I.turned (t':=s.toks) (fun b o hb e=>eb b o hb e) f0 f1 f3 f4 f5⟩
 self:=fun _ _ _ _ _ st h=>wpAny_pyIter_tupleiter st h
theorem gf {w:World} {K:Aa} (it:Addr) (lo:Int) (n:Nat):Qbd P w K tg (Itr lo n) [it] it (fun i h=>IsRangeIter h it (lo+(i:Nat) * 1) ((n:Int) - (i:Nat)) 1) where
 mem:=by simp
 obj:=fun i h st b hb=>by
  have e:b=it:=by simpa using hb
  subst e
  exact ⟨_,st,fun v z=>by
   have z':Data.fields _=Data.cell v:=z
   cases z'⟩
 keep:=fun i h h' st k=>k it (by simp) _ st
 item:=by
  intro X hP hw hK hc i O9 s σ H E I hf st hg
  subst hP hw hK
  obtain ⟨f0,f1,f2,f3,f4,f5⟩:=hf it (by simp)
  have W:=Walks.range (prog:=X.prog) (w:=X.w) (I.ok.hd hc) it lo 1 n
  refine W.item i s _ _ hg st fun v h' tk hv st' kk=>?_
  obtain ⟨t,rfl⟩:=hv
  have I1:Inv X O9 σ H { s with heap:=h',toks:=tk }:=I.turned (fun b o hb e=>kk b o (by simpa using hb) e) f0 f1 f3 f4 f5
  refine ⟨_,rfl,QbJ (s:={ s with heap:=h',toks:=tk }) (n := "range_iterator") st' rfl rfl (by decide) ⟨.int (lo+i),H,I1,⟨t,?_⟩,⟨rfl,rfl⟩,st',fun b hb=>(hf b hb).1⟩⟩
  rw [Int.mul_one]
 done:=by
  intro X hP hw hK hc i O9 s σ H E I hf st hg
  subst hP hw hK
  obtain ⟨f0,f1,f2,f3,f4,f5⟩:=hf it (by simp)
  exact wpAny_pyNext_range_end (I.ok.hd hc) st (by have:n<=i:=hg;lia) fun h' eb=>⟨rfl,I.turned (t':=s.toks) (fun b o hb e=>eb b o hb e) f0 f1 f3 f4 f5⟩
 self:=fun _ _ _ _ _ st h=>wpAny_pyIter_rangeiter st h
section
variable {X:Cx} {tg:Expr}
def QgP (K:Aa) (tl:TE):TI:=fun σ H R=>tl σ H fun x H1=>∃ a,x=.ref a/\(∃ xs,SqL K H1 a xs)/\R (Itl K a) H1
def QhK (K:Aa) (tl:TE):TI:=fun σ H R=>tl σ H fun x H1=>∃ a,x=.ref a/\(∃ xs,SqT K H1 a xs)/\R (Itt K a) H1
theorem Qd0 (hl:PE X l tl):PI X tg l (QgP X.K tl):=by
 intro O9 s σ H R I h
 refine thn (hl O9 s σ H _ I h) fun v s1 ⟨x,H1,I1,r1,q1⟩=>?_
 obtain ⟨a,e,⟨xs,hq⟩,q⟩:=q1
 subst e
 cases r1
 obtain ⟨its,rv,p,hz⟩:=I1.list hq
 refine wpAny_pyIter_list p.isList ?_
 refine ⟨s1.heap.objs.size,[s1.heap.objs.size],_,_,H1,rfl,I1.kept (t':=s1.toks) fun b o e=>Ad _ e,Qa6 a _,⟨_,Av _ rfl,rfl,rfl⟩,fun b hb=>?_,q⟩
 have e:b=s1.heap.objs.size:=by simpa using hb
 subst e
 exact I1.fpOk (Ae _) (I1.hok.fresh (Ae _))
theorem Qf4 (hl:PE X l tl):PI X tg l (QhK X.K tl):=by
 intro O9 s σ H R I h
 refine thn (hl O9 s σ H _ I h) fun v s1 ⟨x,H1,I1,r1,q1⟩=>?_
 obtain ⟨a,e,⟨xs,hq⟩,q⟩:=q1
 subst e
 cases r1
 obtain ⟨its,rv,p,hz⟩:=I1.tuple hq
 refine wpAny_pyIter_tuple (show s1.heap.IsTuple a its.toArray from p) ?_
 refine ⟨s1.heap.objs.size,[s1.heap.objs.size],_,_,H1,rfl,I1.kept (t':=s1.toks) fun b o e=>Ad _ e,gg a _,⟨_,Av _ rfl,rfl,rfl⟩,fun b hb=>?_,q⟩
 have e:b=s1.heap.objs.size:=by simpa using hb
 subst e
 exact I1.fpOk (Ae _) (I1.hok.fresh (Ae _))
theorem Qcx {R:It->Hp->Prop} {E:Eh} {lo hi:Int} {t u v:Tok} {tk:Nat} (I:Inv X O9 σ H s) (h1:-(2 ^ 62)<=lo) (h2:lo < 2 ^ 62) (h3:-(2 ^ 62)<=hi) (h4:hi < 2 ^ 62)
  (q:R (Itr lo (hi - lo).toNat) H):wpAny (model X.prog X.w) X.A (pyIter (.ref s.heap.objs.size)) (PIE X O9 σ tg R) E { s with heap:=s.heap.push { cls:=.type "range", data:=.fields #[.int lo t,.int hi u,.int 1 v] },toks:=tk }:=by
 refine wpAny_pyIter_range (IsRange.new ..) (small_one h1 h2 h3 h4) ?_
 have I1:Inv X O9 σ H { s with heap:=s.heap.push { cls:=.type "range", data:=.fields #[.int lo t,.int hi u,.int 1 v] },toks:=tk }:=I.kept fun b o e=>Ad _ e
 refine ⟨(s.heap.push { cls:=.type "range", data:=.fields #[.int lo t,.int hi u,.int 1 v] }).objs.size,[(s.heap.push { cls:=.type "range", data:=.fields #[.int lo t,.int hi u,.int 1 v] }).objs.size],_,_,H,rfl,
  I1.kept (t':=tk) fun b o e=>Ad _ e,gf _ lo (hi - lo).toNat,?_,fun b hb=>?_,q⟩
 ·have e1:lo+((0:Nat):Int) * 1=lo:=by simp
  have e2:(((hi - lo).toNat:Nat):Int) - ((0:Nat):Int)=Builtin.Range.rangeSize lo hi 1:=by rw [rangeSize_one];split<;>lia
  show IsRangeIter _ _ (lo+((0:Nat):Int) * 1) ((((hi - lo).toNat:Nat):Int) - ((0:Nat):Int)) 1
  rw [e1,e2]
  exact Av _ rfl
 ·have e:b=(s.heap.push { cls:=.type "range", data:=.fields #[.int lo t,.int hi u,.int 1 v] }).objs.size:=by simpa using hb
  subst e
  exact I1.fpOk (Ae _) (I1.hok.fresh (Ae _))
def QgQ (ta:TA):TI:=fun σ H R=>ta σ H fun vs H1=>∃ j:Int,vs=[.int j] /\ -(2 ^ 62)<=j/\j < 2 ^ 62/\R (Itr 0 j.toNat) H1
theorem QaO {p pos:Pos} (hg:Gl X "range") (hm:X.mg "range" = none) (ha:PA X [a] ta) (hs:starEach [a] X.env=[(false,eval a X.env)]:=by rfl):PI X tg (.Call (.Name "range" p) [a] [] pos) (QgQ ta):=by
  intro O9 s σ H R I h
  refine Call_ (Vb I hg hm boot_range (PyProof.Rows.callWith_type1 (thn (ha pos O9 s σ H _ I h) fun us s1 ⟨vs,H1,I1,r1,q1⟩=>?_) hs rfl))
  obtain ⟨j,e,q1,q2,q⟩:=q1
  subst e
  cases r1 with
  | cons r rr =>
    cases rr
    obtain ⟨t,rfl⟩:=r
    exact call_range_1 (Qcx I1 (by lia) (by lia) q1 q2 (by simpa using q))
def Qh2 (wi:TI) (g:TG) (tb:TS):TS:=fun D σ H=>wi σ H fun J H1=>∃ W:Nat->Nat->St->Hp->Prop,(∃ m,W 0 m σ H1)/\∀ i m σ H,W i m σ H ->
 (J.stop i H/\D.nx σ H)∨(J.go i H/\∃ N:St->Hp->Prop,(∀ σ' H',N σ' H'->∃ m',m' < m/\W (i+1) m' σ' H')/\∀ x H',J.yld i H x H'->g x σ H' fun σ2 H2=>tb { D with nx:=N,ct:=N,bk:=D.nx } σ2 H2)
def Vp (fp:Ep) (h:Heap):List (Addr×Obj):=fp.filterMap fun b=>(h.get? b).map fun o=>(b,o)
theorem Y1 {h:Heap} {b:Addr} (hb:b∈fp) (e:h.get? b=some o):(b,o)∈Vp fp h:=List.mem_filterMap.mpr ⟨b,hb,by rw [e];rfl⟩
theorem QaH {fp:Ep} {h:Heap} {p:Addr×Obj} (U:p∈Vp fp h):p.1∈fp/\h.get? p.1=some p.2:=by
  obtain ⟨b,hb,e⟩:=List.mem_filterMap.mp U
  cases q:h.get? b with
  | none=>rw [q] at e;cases e
  | some o =>
    rw [q] at e
    have e':(b,o)=p:=Ak e
    subst e'
    exact ⟨hb,q⟩
theorem Inv.pinned {O9:Ei} {s:Shared} (I:Inv X O9 σ H s) (hf:∀ b∈fp,U8 X O9 H b) (ho:∀ b∈fp,∃ o,s.heap.get? b=some o/\∀ v,o.data≠.cell v):Inv X (O9++Vp fp s.heap) σ H s :=
 I.pins_of fun p U=>(Ai.mp U).elim (fun z=>I.pin p (Aj _ z)) fun z=>by
  obtain ⟨hb,e⟩:=QaH z
  obtain ⟨f0,f1,f2,_⟩:=hf p.1 hb
  obtain ⟨o,e',d⟩:=ho p.1 hb
  rw [e] at e';cases e'
  exact ⟨e,f0,f1,f2,d⟩
def Inv.unpinned {O9 pl:Ei} (I:Inv X (O9++pl) σ H s):Inv X O9 σ H s:=I.pins_of fun p U=>I.pin p (Aj _ (A7 _ U))
theorem Qcr {body:List Stmt} {pos:Pos} (U:PassesOwn (model X.prog X.w) X.A X.env X.xe) (hc:X.calm=true) (hi:PI X tg iter wi) (hg:PG X tg g) (hb:PSs X body tb)
  (hs:∀ x,foldedSetIterable iter X.env x=pure x:=by intro _;rfl):PS X (.For tg iter body [] pos) (Qh2 wi g tb):=by
 intro O9 s σ H D I h
 refine wpAny_For (thn (hi O9 s σ H _ I h) fun v s1 h1=>thn h1 fun itv s2 h2=>?_) hs
 obtain ⟨it,fp,tn,J,H2,e,I2,T,st2,f2,W,⟨m0,w0⟩,turn⟩:=h2
 subst e
 have stat:∀ {H':Hp},(∀ b∈fp,H' b=none)->∀ b∈fp,U8 X O9 H' b:=fun hn b hb=>⟨hn b hb,(f2 b hb).2⟩
 refine codeAny_forLoop_any (fun n s'=>∃ i σ' H',Inv X O9 σ' H' s'/\tn i s'.heap/\(∀ b∈fp,H' b=none)/\W i n σ' H') ?_ m0 ⟨0,σ,H2,I2,st2,fun b hb=>(f2 b hb).1,w0⟩
 rintro n s3 ⟨i,σ3,H3,I3,st3,fr3,w3⟩
 rcases turn i n σ3 H3 w3 with ⟨stop,qn⟩ | ⟨go,N,hN,step⟩
 ·refine wpAny_passesOwn U (thn (T.done X rfl rfl rfl hc i O9 s3 σ3 H3 X.xe I3 (stat fr3) st3 stop) fun r s4 ⟨hr,I4⟩=>?_)
  subst hr
  exact wpAny_execs_nil ⟨σ3,H3,I4,qn⟩
 ·refine wpAny_passesOwn U (thn (T.item X rfl rfl rfl hc i O9 s3 σ3 H3 X.xe I3 (stat fr3) st3 go) fun r s4 ⟨u,hr,h4⟩=>?_)
  subst hr
  refine wpAny_passesOwn U (thn h4 fun _ s5 ⟨x,H5,I5,r5,y5,st5,fr5⟩=>?_)
  have I5':=I5.pinned (stat fr5) (T.obj _ _ st5)
  refine wpAny_passesOwn U (thn (hg _ s5 σ3 H5 x u _ I5' r5 (step x H5 y5)) fun _ s6 ⟨σ6,H6,I6,q6⟩=>?_)
  refine wpAny_passesOwn U (thn (hb _ s6 σ6 H6 _ I6 q6) fun f s7 q7=>?_)
  have again:∀ {σ7:St} {H7:Hp},Inv X (O9++Vp fp s5.heap) σ7 H7 s7->N σ7 H7->∃ m,m < n/\∃ i σ' H',Inv X O9 σ' H' s7/\tn i s7.heap/\(∀ b∈fp,H' b=none)/\W i m σ' H':=fun {σ7 H7} I7 n7=>by
   obtain ⟨m',hm,w7⟩:=hN σ7 H7 n7
   refine ⟨m',hm,i+1,σ7,H7,I7.unpinned,T.keep _ _ _ st5 fun b hb o e=>(I7.pin (b,o) (Aj _ (Aj _ (Y1 hb e)))).1,fun b hb=>?_,w7⟩
   obtain ⟨o,e,d⟩:=T.obj _ _ st5 b hb
   exact (I7.pin (b,o) (Aj _ (Aj _ (Y1 hb e)))).2.1
  cases f with
  | next=>obtain ⟨σ7,H7,I7,n7⟩:=q7;exact again I7 n7
  | cont=>obtain ⟨σ7,H7,I7,n7⟩:=q7;exact again I7 n7
  | brk=>obtain ⟨σ7,H7,I7,q7⟩:=q7;exact ⟨σ7,H7,I7.unpinned,q7⟩
  | ret v=>obtain ⟨x7,σ7,H7,I7,r7,q7⟩:=q7;exact ⟨x7,σ7,H7,I7.unpinned,r7,q7⟩
end
abbrev R2:=V->V->Hp->VK->Prop
def OpR (X:Cx) (f:Value->Value->Sem Value) (r:R2):Prop :=
  ∀ (O9 : List (Addr × Obj)) (s : Shared) (σ : St) (H : Hp) (x y : V) (v u : Value) (Q : VK), Inv X O9 σ H s -> RelV x v -> RelV y u -> r x y H Q ->
    wpAny (model X.prog X.w) X.A (f v u) (EP X O9 σ Q) X.xe s
def CallR (X:Cx) (f:Value) (r:List V->Hp->VK->Prop):Prop :=
  ∀ (O9 : List (Addr × Obj)) (s : Shared) (σ : St) (H : Hp) (xs : List V) (us : List Value) (Q : VK), Inv X O9 σ H s -> Vals xs us -> r xs H Q ->
    wpAny (model X.prog X.w) X.A (call f us) (EP X O9 σ Q) X.xe s
def tOp (r:R2) (ta tb:TE):TE:=fun σ H Q=>ta σ H fun x H1=>tb σ H1 fun y H2=>r x y H2 Q
def rI (C:Int->Int->Prop) (g:Int->Int->V):R2:=fun x y H Q=>∃ i j,x=.int i/\y=.int j/\C i j/\Q (g i j) H
def rI0 (g:Int->Int->V):R2:=fun x y H Q=>∃ i j,x=.int i/\y=.int j/\Q (g i j) H
section
variable {X:Cx} {a b c:Expr} {ta tb tc:TE} {pos:Pos}
theorem Qe4 (ha:PE X a ta) (hb:PE X b tb) {R:V->V->Hp->Prop} (I:Inv X O9 σ H s)
  (h:ta σ H fun x H1=>tb σ H1 fun y H2=>R x y H2) {Q:Eh} {f:Value->Value->Sem Value}
  (hf:∀ v u s2 x y H2,Inv X O9 σ H2 s2->RelV x v->RelV y u->R x y H2->wpAny (model X.prog X.w) X.A (f v u) Q X.xe s2) :
  wpAny (model X.prog X.w) X.A (eval a X.env) (fun v s₁=>wpAny (model X.prog X.w) X.A (eval b X.env) (fun u s₂=>wpAny (model X.prog X.w) X.A (f v u) Q X.xe s₂) X.xe s₁) X.xe s:=by
 refine thn (ha O9 s σ H _ I h) fun v s1 ⟨x,H1,I1,r1,q1⟩=>?_
 refine thn (hb O9 s1 σ H1 _ I1 q1) fun u s2 ⟨y,H2,I2,r2,q2⟩=>?_
 exact hf v u s2 x y H2 I2 r1 r2 q2
theorem Qhg {op:Operator} {r:R2} (ho:OpR X (binaryOp op) r) (ha:PE X a ta) (hb:PE X b tb):PE X (.BinOp a op b pos) (tOp r ta tb):=by
 intro O9 s σ H Q I h
 exact wpAny_BinOp (Qe4 ha hb I h fun v u s2 x y H2 I2 rx ry q=>ho O9 s2 σ H2 x y v u Q I2 rx ry q)
theorem opI {f:Value->Value->Sem Value} {C:Int->Int->Prop} {g:Int->Int->Int}
  (rule:∀ (i j:Int) (t u:Tok) (s:Shared) (Q:Eh) (E:Eh),C i j->Q (.int (g i j) s.toks) { s with toks:=s.toks+1 }->wpAny (model X.prog X.w) X.A (f (.int i t) (.int j u)) Q E s) :
  OpR X f (rI C fun i j=>.int (g i j)):=by
 intro O9 s σ H x y v u Q I rx ry h
 obtain ⟨i,j,rfl,rfl,hc,q⟩:=h
 obtain ⟨t,rfl⟩:=rx
 obtain ⟨t',rfl⟩:=ry
 exact rule i j t t' s _ _ hc ⟨.int (g i j),H,I.tok _,⟨_,rfl⟩,q⟩
theorem Qg4 {f:Value->Value->Sem Value} {g:Int->Int->Int}
  (rule:∀ (i j:Int) (t u:Tok) (s:Shared) (Q:Eh) (E:Eh),Q (.int (g i j) s.toks) { s with toks:=s.toks+1 }->wpAny (model X.prog X.w) X.A (f (.int i t) (.int j u)) Q E s) :
  OpR X f (rI0 fun i j=>.int (g i j)):=by
 intro O9 s σ H x y v u Q I rx ry h
 obtain ⟨i,j,rfl,rfl,q⟩:=h
 obtain ⟨t,rfl⟩:=rx
 obtain ⟨t',rfl⟩:=ry
 exact rule i j t t' s _ _ ⟨.int (g i j),H,I.tok _,⟨_,rfl⟩,q⟩
theorem QdO {f:Value->Value->Sem Value} {g:Int->Int->Bool}
  (rule:∀ (i j:Int) (t u:Tok) (s:Shared) (Q:Eh) (E:Eh),Q (.bool (g i j)) s->wpAny (model X.prog X.w) X.A (f (.int i t) (.int j u)) Q E s) :
  OpR X f (rI0 fun i j=>.bl (g i j)):=by
 intro O9 s σ H x y v u Q I rx ry h
 obtain ⟨i,j,rfl,rfl,q⟩:=h
 obtain ⟨t,rfl⟩:=rx
 obtain ⟨t',rfl⟩:=ry
 exact rule i j t t' s _ _ ⟨.bl (g i j),H,I,rfl,q⟩
def QhC (i j:Int):Prop:=0 < j/\j < 1073741824
def QhD (i j:Int):Prop:=0<=j/\j<=1000000/\i.natAbs < 2 ^ 64
def CMul (i j:Int):Prop:=(-(2 ^ 64) < i/\i < 2 ^ 64)∨(-(2 ^ 64) < j/\j < 2 ^ 64)
theorem CMul.ok {i j:Int} (h:CMul i j):IntMulOk i j:=by
 rcases h with ⟨h1,h2⟩ | ⟨h1,h2⟩
 ·exact .of_left (intBits_le_64 h1 h2)
 ·exact .of_right (intBits_le_64 h1 h2)
def QfI:OpR X (binaryOp .Add) (rI0 fun i j=>.int (i+j)):=Qg4 fun _ _ _ _ _ _ _ q=>add_int q
def QfN:OpR X (binaryOp .Sub) (rI0 fun i j=>.int (i - j)):=Qg4 fun _ _ _ _ _ _ _ q=>sub_int q
def QfL:OpR X (binaryOp .Mult) (rI CMul fun i j=>.int (i * j)):=opI fun _ _ _ _ _ _ _ hc q=>mul_int q hc.ok
theorem QdQ:OpR X (binaryOp .FloorDiv) (rI QhC fun i j=>.int (i / j)):=opI fun i j _ _ _ _ _ hc q=>by
 have h1:(0:Int) < j:=hc.1
 have h2:j < 1073741824:=hc.2
 exact floordiv_int (by lia) (by rw [Int.fdiv_eq_ediv_of_nonneg i (by lia)];exact q) (.inl (PyProof.noPylong_small (by lia)))
theorem QfK:OpR X (binaryOp .Mod) (rI (fun _ j=>0 < j) fun i j=>.int (i % j)):=opI fun i j _ _ _ _ _ hc q=>by
 have h1:(0:Int) < j:=hc
 exact mod_int' (by lia) (by rw [Int.fmod_eq_emod_of_nonneg i (by lia)];exact q)
def QfM:OpR X (binaryOp .Pow) (rI QhD fun i j=>.int (i ^ j.toNat)):=opI fun _ _ _ _ _ _ _ hc q=>pow_int_small hc.1 hc.2.1 hc.2.2 q
end
section
variable {X:Cx} {a b c:Expr} {ta tb tc:TE} {pos:Pos}
theorem QbE {Q:VK} {k k':Bool} (I:Inv X O9 σ H s) (q:Q (.bl k) H) (e:k=k'):EP X O9 σ Q (.bool k') s:=by
 subst e
 exact ⟨.bl k,H,I,rfl,q⟩
def Qg8:OpR X (compareOp .Lt) (rI0 fun i j=>.bl (decide (i < j))):=QdO fun _ _ _ _ _ _ _ q=>lt_int q
def Qg7:OpR X (compareOp .LtE) (rI0 fun i j=>.bl (decide (i<=j))):=QdO fun _ _ _ _ _ _ _ q=>le_int q
def Qg6:OpR X (compareOp .Gt) (rI0 fun i j=>.bl (decide (j < i))):=QdO fun _ _ _ _ _ _ _ q=>gt_int q
def Qg5:OpR X (compareOp .GtE) (rI0 fun i j=>.bl (decide (j<=i))):=QdO fun _ _ _ _ _ _ _ q=>ge_int q
theorem QfJ:OpR X (compareOp .Is) (fun x y H Q=>y=.non/\Q (.bl (decide (x=.non))) H):=by
 intro O9 s σ H x y v u Q I rx ry h
 obtain ⟨rfl,q⟩:=h
 cases ry
 refine is_none_gen (QbE I q ?_)
 cases x<;>first
  | (cases rx;rfl)
  | (obtain ⟨t,rfl⟩:=rx;rfl)
theorem QdR:OpR X (compareOp .IsNot) (fun x y H Q=>y=.non/\Q (.bl (!decide (x=.non))) H):=by
 intro O9 s σ H x y v u Q I rx ry h
 obtain ⟨rfl,q⟩:=h
 cases ry
 refine isnot_none_gen (QbE I q ?_)
 cases x<;>first
  | (cases rx;rfl)
  | (obtain ⟨t,rfl⟩:=rx;rfl)
theorem QW (b:Expr) {op:CmpOp} (h:op≠.In:=by decide) (h2:op≠.NotIn:=by decide):behindInMarks op b=false:=by
 have e1:(op==CmpOp.In)=false:=by cases op<;>first | rfl | exact absurd rfl h
 have e2:(op==CmpOp.NotIn)=false:=by cases op<;>first | rfl | exact absurd rfl h2
 cases b<;>simp [behindInMarks,e1,e2]
theorem QdV {op:CmpOp} {r:R2} (ho:OpR X (compareOp op) r) (ha:PE X a ta) (hb:PE X b tb) (hm:behindInMarks op b=false):PE X (.Compare a [op] [b] pos) (tOp r ta tb):=by
 intro O9 s σ H Q I h
 exact wpAny_Compare1 (Qe4 ha hb I h fun v u s2 x y H2 I2 rx ry q=>ho O9 s2 σ H2 x y v u Q I2 rx ry q) hm
def QeY (t:TE):TT:=fun σ H Q=>t σ H fun x H'=>∃ k,x=.bl k/\Q k H'
theorem Qd9 {op:CmpOp} {r:R2} (ho:OpR X (compareOp op) r) (ha:PE X a ta) (hb:PE X b tb) (hm:behindInMarks op b=false):PT X (.Compare a [op] [b] pos) (QeY (tOp r ta tb)):=by
 intro O9 s σ H Q I h
 refine wpAny_isTrue_Compare1 (thn (ha O9 s σ H _ I h) fun v s1 ⟨x,H1,I1,r1,q1⟩=>thn (hb O9 s1 σ H1 _ I1 q1) fun u s2 ⟨y,H2,I2,r2,q2⟩ =>
  thn (ho O9 s2 σ H2 x y v u _ I2 r1 r2 q2) fun c s3 ⟨z,H3,I3,r3,k,e,q3⟩=>?_) hm
 subst e
 cases r3
 exact wpAny_truthy_bool ⟨H3,I3,q3⟩
def QcW (r r':R2) (ta tb tc:TE):TE:=fun σ H Q=>ta σ H fun x H1=>tb σ H1 fun y H2=>r x y H2 fun z H3=>∃ k,z=.bl k /\
 (if k=true then tc σ H3 fun w' H4=>r' y w' H4 Q else Q (.bl false) H3)
theorem Qcu {op op':CmpOp} {r r':R2} (ho:OpR X (compareOp op) r) (ho':OpR X (compareOp op') r') (ha:PE X a ta) (hb:PE X b tb) (hc:PE X c tc)
    (hm:lastMarks [op,op'] [b,c]=false:=by with_unfolding_all rfl):PT X (.Compare a [op,op'] [b,c] pos) (QeY (QcW r r' ta tb tc)):=by
  intro O9 s σ H Q I h
  refine isTrue_chain (thn (ha O9 s σ H _ I h) fun v s1 ⟨x,H1,I1,r1,q1⟩=>test_link (thn (hb O9 s1 σ H1 _ I1 q1) fun u s2 ⟨y,H2,I2,r2,q2⟩ =>
    thn (ho O9 s2 σ H2 x y v u _ I2 r1 r2 q2) fun d s3 ⟨z,H3,I3,r3,k,e,q3⟩=>?_)) hm
  subst e
  cases r3
  refine wpAny_truthy_bool ?_
  cases k with
  | false =>
    obtain ⟨k',e',q'⟩:=q3
    cases e'
    exact ite_ff ⟨H3,I3,q'⟩
  | true =>
    refine ite_tt (test_last (thn (hc O9 s3 σ H3 _ I3 q3) fun w' s4 ⟨z',H4,I4,r4,q4⟩=>thn (ho' O9 s4 σ H4 y z' u w' _ I4 r2 r4 q4) fun d' s5 ⟨z2,H5,I5,r5,k2,e2,q5⟩=>?_))
    subst e2
    cases r5
    exact wpAny_truthy_bool ⟨H5,I5,q5⟩
theorem KI:(sizeLine:Nat) < 2 ^ 63:=by rw [sizeLine_eq];decide
theorem VU {us:List Value} (r:Vals [x] us):∃ u,us=[u]/\RelV x u:=by
 cases r with
 | cons r1 r2=>cases r2;exact ⟨_,rfl,r1⟩
theorem vG {us:List Value} (r:Vals [x,y] us):∃ u w',us=[u,w']/\RelV x u/\RelV y w':=by
  cases r with
  | cons r1 r2 =>
    cases r2 with
    | cons r3 r4=>cases r4;exact ⟨_,_,rfl,r1,r3⟩
theorem Qah (hc:X.calm=true):CallR X (.builtin "min") (fun xs H Q=>∃ i j,xs=[.int i,.int j]/\Q (.int (if j < i then j else i)) H):=by
 intro O9 s σ H xs us Q I r h
 obtain ⟨i,j,rfl,q⟩:=h
 obtain ⟨u,w',rfl,⟨t,rfl⟩,⟨t',rfl⟩⟩:=vG r
 refine min_two_ints (I.ok.hd hc) fun h' tk k=>⟨_,H,I.kept k,?_,q⟩
 by_cases hj:j < i
 ·rw [C9 hj,C9 hj];exact ⟨_,rfl⟩
 ·rw [C8 hj,C8 hj];exact ⟨_,rfl⟩
end
structure ObjM (h:Heap) (x dx C:Addr) (mA:Ej):Prop where
 obj:h.get? x=some (PySem.W.instObj C dx)
 ns:h.Ns1 dx mA
 ne:dx≠x
theorem QaD {h:Heap} {dx:Addr} {mA:Ej} (n:h.Ns1 dx mA):∃ od,h.get? dx=some od/\∀ name,PySem.W.lookIn name od=some (mA name):=by
 obtain ⟨o,es,ep,ho,hd,hk,_,hm⟩:=n
 refine ⟨o,ho,fun name=>?_⟩
 have e:=hm name
 unfold nsFind findBy at e
 rw [<- Array.find?_toList] at e
 unfold PySem.W.lookIn
 rw [hd]
 dsimp only
 split
 ·rename_i y q
  rw [q] at e
  exact congrArg some e
 ·rename_i q
  rw [q] at e
  have a:es.toList.any (·.refKey)=false:=by
   rw [List.any_eq_false]
   intro y hy
   obtain ⟨z,t,hkey⟩:=hk y (Array.mem_toList_iff.mp hy)
   simp [DictEntry.refKey,hkey]
  have a':¬ es.toList.any (·.refKey)=true:=by rw [a];exact Bz
  rw [C8 a']
  exact congrArg some e
theorem ObjM.look {x dx C:Addr} {mA:Ej} (I:ObjM h x dx C mA):∃ od,PySem.W.InstAt h x (PySem.W.instObj C dx) C (some od)/\∀ name,PySem.W.lookIn name od=some (mA name) :=
 let ⟨od,ho,hl⟩:=QaD I.ns
 ⟨od,⟨I.obj,rfl,rfl,ho⟩,hl⟩
section
variable {prog:Program} {w:World} {A:Around} {E:Eh} {s:Shared} {K:Aa} {x dx C f:Addr} {mA:Ej} {name:Str} {v:Value}
theorem Qdx {expr:Bool} {Q:Eh} (X:K.In s.heap) (I:ObjM s.heap x dx C mA) (hg:PySem.W.plainGet K C name=true) (hh:PySem.W.hasDictIn K C=true)
  (ha:PySem.W.findIn K (.ref C) name=some none) (hv:mA name=some v) (hv':PySem.W.handedIn v=true) (h:Q v { s with toks:=s.toks+1 }) :
  wpAny (model prog w) A (getAttr (.ref x) name expr) Q E s:=by
 obtain ⟨od,J,hl⟩:=I.look
 exact PySem.W.get_value X J (PySem.W.plainGet_of hg).1 (PySem.W.findObj_own hh ha rfl (by rw [hl,hv])) hv' h
theorem QbI {pl:Sem Bool} {Q:Value×List Value->Shared->Prop} (X:K.In s.heap) (I:ObjM s.heap x dx C mA) (hg:PySem.W.plainGet K C name=true)
  (hf:PySem.W.findIn K (.ref C) name=some (some (.ref f))) (ht:PySem.W.isFn K (.ref f)=true) (hv:mA name=none) (h:Q (.ref f,[.ref x]) s) :
  wpAny (model prog w) A (getMethod (.ref x) name pl) Q E s:=by
 obtain ⟨od,J,hl⟩:=I.look
 exact PySem.W.method_fn X J (PySem.W.plainGet_of hg).1 (PySem.W.plainGet_of hg).2 hf (beq_iff_eq.mp ht) (by show (PySem.W.lookIn name od).map (·.isSome)=some false;rw [hl,hv];rfl) h
theorem Qep {ns:List Str} {Q:Unit->Shared->Prop} (X:K.In s.heap) (I:ObjM s.heap x dx C mA)
  (hs:PySem.W.findIn K (.ref C) "__setattr__" = some (some (.builtin "object.__setattr__"))) (U:PySem.W.plainOver K C=true) (ht:PySem.W.takerIn K C name=some none) (hh:PySem.W.hasDictIn K C=true)
  (hw:PySem.Within mA ns) (hsz:ns.length<=sizeLine)
  (h:∀ h',ObjM h' x dx C (fun y=>if y=name then some v else mA y)->Heap.SameBut dx s.heap h'->Q () { s with heap:=h',toks:=s.toks+2 }) :
  wpAny (model prog w) A (setAttr (.ref x) name v) Q E s:=by
 obtain ⟨od,J,hl⟩:=I.look
 refine PySem.W.set_plain X J hs (PySem.W.osa_open (s:={ s with toks:=s.toks+1 }) (r:=none) X J U ht fun b=>?_)
 obtain ⟨cd,hc,hd'⟩:=PySem.W.any_some hh
 have hx:s.heap.get? x=some ⟨.ref C,some dx,.plain,#[]⟩:=I.obj
 refine C7 (Ea (C7 (C7 (wpAny_loadPart hx (C7 (PySem.W.Looks.here (s:={ s with toks:=s.toks+1 }) (PySem.W.looks_clsIn X hc) ?_))))))
 rw [hd']
 refine Ea (a:=some dx) (C7 (Ea (C7 ?_)))
 refine wpAny_nsSet1 (s:={ s with toks:=s.toks+1 }) I.ns fun h' hn2 hs2=>?_
 obtain ⟨oD,esD,epD,hoD,hdD,hcD⟩:=hn2.count (PySem.Within.cons name v hw)
 refine C7 (wpAny_lookBehind hoD (by rw [hdD];exact pastItsLine_dict (Bj hcD (by rw [Ba];lia))) ?_)
 exact Ea (h _ ⟨(hs2.2 _ (Ne.symm I.ne)).trans I.obj,hn2,I.ne⟩ hs2)
theorem Qb0 {R:Result->Shared->Prop} {vs:List Value} {kw:List (Str×Value)} (X:K.In s.heap) (hm:PySem.W.makesIn K C=true)
  (hi:PySem.W.findIn K (.ref C) "__init__" = some (some (.ref f))) (hf:PySem.W.typeIn K (.ref f)=some (.type "function"))
  (h:codeAny (model prog w) (A.under (.builtin "type.__call__" ⟨.ref C::vs,kw⟩)) (.call (.ref f) ⟨.ref (s.heap.objs.size+1)::vs,kw⟩) (PySem.W.InitBack (s.heap.objs.size+1) R)
   { s with heap:=(s.heap.push PySem.W.emptyDict).push (PySem.W.instObj C s.heap.objs.size) }) :
  codeAny (model prog w) A (.call (.ref C) ⟨vs,kw⟩) R s:=by
 obtain ⟨hh,g,d,t,os⟩:=s
 exact PySem.W.make_core (PySem.W.makes_of X hm) (PySem.W.looks_findIn X hi) (fun self=>PySem.W.bind_fn X self hf) (.inl rfl) h
end
def Yx (f:Str) (v:V):List (Str×V)->List (Str×V)
 | []=>[(f,v)]
 | (g,x)::r=>if g=f then (g,v)::r else (g,x)::Yx f v r
theorem xO (f g:Str) (v:V):∀ fs:List (Str×V),(Yx f v fs).lookup g=if g=f then some v else fs.lookup g
  | []=>by
    show List.lookup g [(f,v)]=_
    by_cases h:g=f
    . have hb:(g==f)=true:=beq_iff_eq.mpr h
      simp only [List.lookup,hb,C9 h]
    . have hb:(g==f)=false:=beq_eq_false_iff_ne.mpr h
      simp only [List.lookup,hb,C8 h]
  | (k,x)::r=>by
    have ih:=xO f g v r
    rw [show Yx f v ((k,x)::r)=(if k=f then (k,v)::r else (k,x)::Yx f v r) from rfl]
    by_cases hk:k=f
    . rw [C9 hk]
      by_cases h:g=k
      . have hb:(g==k)=true:=beq_iff_eq.mpr h
        simp only [List.lookup,hb,C9 (h.trans hk)]
      . have hb:(g==k)=false:=beq_eq_false_iff_ne.mpr h
        simp only [List.lookup,hb,C8 (fun e:g=f=>h (e.trans hk.symm))]
    . rw [C8 hk]
      by_cases h:g=k
      . have hb:(g==k)=true:=beq_iff_eq.mpr h
        simp only [List.lookup,hb,C8 (fun e:g=f=>hk (h.symm.trans e))]
      . have hb:(g==k)=false:=beq_eq_false_iff_ne.mpr h
        simp only [List.lookup,hb]
        exact ih
theorem xm (f:Str) (v:V):∀ fs:List (Str×V),f∈(Yx f v fs).map (·.1)/\∀ g,g∈fs.map (·.1)->g∈(Yx f v fs).map (·.1)
  | []=>⟨by simp [Yx],fun g h=>by simp at h⟩
  | (k,x)::r=>by
    obtain ⟨i1,i2⟩:=xm f v r
    rw [show Yx f v ((k,x)::r)=(if k=f then (k,v)::r else (k,x)::Yx f v r) from rfl]
    by_cases hk:k=f
    . rw [C9 hk]
      subst hk
      exact ⟨by simp,fun g h=>by simpa using h⟩
    . rw [C8 hk]
      refine ⟨?_,fun g h=>?_⟩
      . rw [Bb]
        exact Ax _ i1
      . rw [Bb] at h ⊢
        rcases Bk.mp h with e | e
        . exact Bk.mpr (.inl e)
        . exact Ax _ (i2 g e)
theorem xN (f:Str) (v:V):∀ fs:List (Str×V),(Yx f v fs).length<=fs.length+1
  | []=>by simp [Yx]
  | (k,x)::r=>by
    have ih:=xN f v r
    rw [show Yx f v ((k,x)::r)=(if k=f then (k,v)::r else (k,x)::Yx f v r) from rfl]
    by_cases hk:k=f
    . rw [C9 hk,Ba,Ba];lia
    . rw [C8 hk,Ba,Ba];lia
theorem RelO.some_of {o:Option Value} (r:RelO (some v) o):∃ u,o=some u/\RelV v u:=by
 cases o with
 | none=>exact (show False from r).elim
 | some u=>exact ⟨u,rfl,r⟩
theorem RelO.none_of {o:Option Value} (r:RelO none o):o=none:=by
 cases o with
 | none=>rfl
 | some u=>exact (show False from r).elim
theorem Qat (r:RelV v u):PySem.W.handedIn u=true:=by
 cases v with
 | non=>cases (show u=Value.none from r);rfl
 | bl b=>cases (show u=Value.bool b from r);rfl
 | int i=>obtain ⟨t,e⟩:=(show ∃ t,u=Value.int i t from r);cases e;rfl
 | str x=>obtain ⟨t,e⟩:=(show ∃ t,u=Value.str x t from r);cases e;rfl
 | byt b=>obtain ⟨t,e⟩:=(show ∃ t,u=Value.bytes b t from r);cases e;rfl
 | flt b=>obtain ⟨t,e⟩:=(show ∃ t,u=Value.float b t from r);cases e;rfl
 | ref a=>cases (show u=Value.ref a from r);rfl
 | ty n=>cases (show u=Value.type n from r);rfl
section
variable {P:Program} {w:World} {H H':Hp} {h h':Heap} {a C dx:Addr} {fs fs':List (Str×V)}
theorem Ky (hok:HOk P w H h) (e:H a=some (.ins C dx fs)):∃ mA,ObjM h a dx C mA/\(∀ f,RelO (fs.lookup f) (mA f))/\PySem.Within mA (fs.map (·.1))/\fs.length<=1000/\H dx=some (.own a):=by
 obtain ⟨d,z,ne,ob,mA,n,r,q⟩:=(show ObjOk P w H h a (.ins C dx fs) from hok a _ e)
 exact ⟨mA,⟨ob,n,ne⟩,r,q,z,d⟩
end
structure Cls (K:Aa) (C:Addr):Prop where
 pg:PySem.W.plainGet K C Str.empty=true
 hd:PySem.W.hasDictIn K C=true
 po:PySem.W.plainOver K C=true
 sa:PySem.W.findIn K (.ref C) "__setattr__" = some (some (.builtin "object.__setattr__"))
def Cls.get {K:Aa} {C:Addr} (c:Cls K C) (f:Str):PySem.W.plainGet K C f=true:=c.pg
def NoAttr (K:Aa) (C:Addr) (f:Str):Prop:=PySem.W.findIn K (.ref C) f=some none
theorem NoAttr.taker {K:Aa} {C:Addr} {f:Str} (n:NoAttr K C f):PySem.W.takerIn K C f=some none:=by
 unfold PySem.W.takerIn
 rw [show PySem.W.findIn K (.ref C) f=some none from n]
 rfl
structure vP (K:Aa) (C:Addr) (m:Str) (f:Addr):Prop where
 at_:PySem.W.findIn K (.ref C) m=some (some (.ref f))
 fn:PySem.W.isFn K (.ref f)=true
 kp:PySem.W.keepIn K (.ref f)=true
section
variable {X:Cx} {O9:Ei} {σ:St} {H:Hp} {s:Shared} {a C dx:Addr} {fs:List (Str×V)} {f:Str} {v:V} {A:Around} {E:Eh}
theorem yT {b:Bool} {Q:Eh} (I:Inv X O9 σ H s) (e:H a=some (.ins C dx fs)) (c:Cls X.K C) (n:NoAttr X.K C f) (l:fs.lookup f=some v)
  (h:∀ u s',Inv X O9 σ H s'->RelV v u->Q u s'):wpAny (model X.prog X.w) A (getAttr (.ref a) f b) Q E s:=by
 obtain ⟨mA,O,r,_,_,_⟩:=Ky I.hok e
 obtain ⟨u,hu,ru⟩:=RelO.some_of (v:=v) (o:=mA f) (by rw [<- l];exact r f)
 exact Qdx I.kIn O (c.get f) c.hd n hu (Qat ru) (h u _ (I.tok _) ru)
theorem zN {m:Str} {g:Addr} {pl:Sem Bool} {Q:Value×List Value->Shared->Prop} (I:Inv X O9 σ H s) (e:H a=some (.ins C dx fs)) (c:Cls X.K C) (k:vP X.K C m g) (l:fs.lookup m=none)
  (h:Q (.ref g,[.ref a]) s):wpAny (model X.prog X.w) A (getMethod (.ref a) m pl) Q E s:=by
 obtain ⟨mA,O,r,_,_,_⟩:=Ky I.hok e
 have hn:mA m=none:=RelO.none_of (by rw [<- l];exact r m)
 exact QbI I.kIn O (c.get m) k.at_ k.fn hn h
theorem VF {Q:Unit->Shared->Prop} (I:Inv X O9 σ H s) (e:H a=some (.ins C dx fs)) (c:Cls X.K C) (n:NoAttr X.K C f) (hl:fs.length < 1000) (ry:RelV y u)
  (h:∀ s',Inv X O9 σ (upd H a (.ins C dx (Yx f y fs))) s'->Q () s'):wpAny (model X.prog X.w) A (setAttr (.ref a) f u) Q E s:=by
 obtain ⟨mA,O,r,wi,_,ho⟩:=Ky I.hok e
 have hz:(fs.map (·.1)).length<=sizeLine:=by rw [Br,sizeLine_eq];lia
 refine Qep I.kIn O c.sa c.po n.taker c.hd wi hz fun h' O' sb=>h _ ?_
 have hd:∃ o,h'.get? dx=some o:=let ⟨o,_,_,e',_⟩:=O'.ns;⟨o,e'⟩
 refine I.write (x:=a) (e:=dx) (by rw [e];exact True.intro) (.inr ho) (fun b q hb z=>(sb.2 b hb).trans z) hd ?_
 refine ⟨by rw [QX O.ne];exact ho,?_,O.ne,O'.obj,_,O'.ns,fun g=>?_,fun g hg=>?_⟩
 ·have:=xN f y fs;lia
 ·show RelO ((Yx f y fs).lookup g) (if g=f then some u else mA g)
  rw [xO]
  by_cases q:g=f
  ·rw [C9 q,C9 q];exact ry
  ·rw [C8 q,C8 q];exact r g
 ·by_cases q:g=f
  ·rw [q];exact (xm f y fs).1
  ·refine (xm f y fs).2 g (wi g fun z=>hg ?_)
   show (if g=f then some u else mA g)=none
   rw [C8 q];exact z
theorem Inv.made (I:Inv X O9 σ H s):Inv X O9 σ (upd (upd H s.heap.objs.size (.own (s.heap.objs.size+1))) (s.heap.objs.size+1) (.ins C s.heap.objs.size []))
  { s with heap:=(s.heap.push PySem.W.emptyDict).push (PySem.W.instObj C s.heap.objs.size) }:=by
 have e1:(s.heap.push PySem.W.emptyDict).get? s.heap.objs.size=some PySem.W.emptyDict:=Av s.heap rfl
 have e2:((s.heap.push PySem.W.emptyDict).push (PySem.W.instObj C s.heap.objs.size)).get? (s.heap.objs.size+1)=some (PySem.W.instObj C s.heap.objs.size):=by
  have:=Av (s.heap.push PySem.W.emptyDict) (o:=PySem.W.instObj C s.heap.objs.size) rfl
  rwa [Co] at this
 have e3:(s.heap.push PySem.W.emptyDict).Ns s.heap.objs.size (fun _=>none):=⟨PySem.W.emptyDict,#[],_,e1,rfl,(fun e he=>absurd he (by simp)),fun _=>rfl⟩
 have I1:=I.laid (a:=s.heap.objs.size) (o:=.own (s.heap.objs.size+1)) (h':=s.heap.push PySem.W.emptyDict) (t':=s.toks) (fun b u q=>Ad _ q) (Ae _) ⟨_,e1⟩
 refine I1.laid (a:=s.heap.objs.size+1) (o:=.ins C s.heap.objs.size []) (t':=s.toks) (fun b u q=>Ad _ q) (Nat.le_of_eq (Co _ _)) ?_
 have ne:s.heap.objs.size≠s.heap.objs.size+1:=Bf (Nat.lt_succ_self _)
 refine ⟨by rw [QX ne,Q9],Be _,ne,e2,fun _=>none,(Heap.Ns1.of_empty e3).at fun o q=>Ad _ q,fun _=>True.intro,fun y hy=>absurd rfl hy⟩
theorem Qdb {prog:Program} {w:World} {f:Str} {pos:Pos} {s:Shared} {Q:Eh} (hb:attributeBase e f env (eval e env)=eval e env)
  (h:wpAny (model prog w) A (eval e env) (fun o s₁=>wpAny (model prog w) A (getAttr o f true) Q E s₁) E s):wpAny (model prog w) A (eval (.Attribute e f pos) env) Q E s :=
 Attribute_any_ h (by rw [arm_eval_Attribute,hb])
end
def Qh1 (K:Aa) (ta:TE) (f:Str):TE:=fun σ H Q=>ta σ H fun x H1=>∃ a C dx fs v,x=.ref a/\H1 a=some (.ins C dx fs)/\Cls K C/\NoAttr K C f/\fs.lookup f=some v/\Q v H1
def QhY (K:Aa) (ta tv:TE) (f:Str):TS:=fun D σ H=>tv σ H fun y H1=>ta σ H1 fun x H2=>∃ a C dx fs,x=.ref a/\H2 a=some (.ins C dx fs)/\Cls K C/\NoAttr K C f/\fs.length < 1000 /\
 D.nx σ (upd H2 a (.ins C dx (Yx f y fs)))
def QgA (X:Cx) (op:Operator) (rd:V->V->Hp->VK->Prop):Prop :=
 ∀ (O9:Ei) (s:Shared) (σ:St) (H:Hp) (x y:V) (u v:Value) (Q:VK),Inv X O9 σ H s->RelV x u->RelV y v->rd x y H Q->wpAny (model X.prog X.w) X.A (inplaceOp op u v) (EP X O9 σ Q) X.xe s
def Qek (K:Aa) (ta tv:TE) (rd:V->V->Hp->VK->Prop) (f:Str):TS:=fun D σ H=>ta σ H fun x H1=>∃ a C dx fs v,x=.ref a/\H1 a=some (.ins C dx fs)/\Cls K C/\NoAttr K C f/\fs.lookup f=some v /\
 tv σ H1 fun y H2=>rd v y H2 fun z H3=>∃ dx' fs',H3 a=some (.ins C dx' fs')/\fs'.length < 1000/\D.nx σ (upd H3 a (.ins C dx' (Yx f z fs')))
section
variable {X:Cx} {o e value:Expr} {f:Str} {pos pos' tpos:Pos} {ta tv:TE}
theorem QfS (he:PE X e ta) (hb:attributeBase e f X.env (eval e X.env)=eval e X.env):PE X (.Attribute e f pos) (Qh1 X.K ta f):=by
 intro O9 s σ H Q I h
 refine Qdb hb (thn (he O9 s σ H _ I h) fun u s1 zz1=>?_)
 obtain ⟨x,H1,I1,rx,a,C,dx,fs,v,ex,ea,c,n,l,q⟩:=zz1
 subst ex
 obtain rfl:u=Value.ref a:=rx
 exact yT I1 ea c n l fun u' s2 I2 ru=>⟨v,H1,I2,ru,q⟩
theorem Qf9 (ha:PE X o ta) (hv:PE X value tv) (hs:swapsWith value (some (.Attribute o f pos')) pos.line X.env=pure false):PS X (.Assign [.Attribute o f pos'] value pos) (QhY X.K ta tv f):=by
 intro O9 s σ H D I h
 refine plainObj_wpAny_Assign_Attribute (thn (hv O9 s σ H _ I h) fun u s1 ⟨y,H1,I1,ry,q⟩=>thn (ha O9 s1 σ H1 _ I1 q) fun ov s2 zz1=>?_) hs
 obtain ⟨x,H2,I2,rx,a,C,dx,fs,ex,ea,c,n,l,q2⟩:=zz1
 subst ex
 obtain rfl:ov=Value.ref a:=rx
 exact VF I2 ea c n l ry fun s3 I3=>⟨σ,_,I3,q2⟩
theorem QaQ {op:Operator} {rd:V->V->Hp->VK->Prop} (ha:PE X o ta) (hv:PE X value tv) (hop:QgA X op rd):PS X (.AugAssign (.Attribute o f tpos) op value pos) (Qek X.K ta tv rd f):=by
 intro O9 s σ H D I h
 refine wpAny_AugAssign_AttributeAny (thn (ha O9 s σ H _ I h) fun ov s1 zz1=>?_)
 obtain ⟨x,H1,I1,rx,a,C,dx,fs,v,ex,ea,c,n,l,q⟩:=zz1
 subst ex
 obtain rfl:ov=Value.ref a:=rx
 refine yT I1 ea c n l fun u s2 I2 ru=>thn (hv O9 s2 σ H1 _ I2 q) fun w3 s3 ⟨y,H2,I3,ry,q3⟩=>thn (hop O9 s3 σ H2 v y u w3 _ I3 ru ry q3) fun w4 s4 zz1=>?_
 obtain ⟨z,H3,I4,rz,dx',fs',ea',l',q4⟩:=zz1
 exact VF I4 ea' c n l' rz fun s5 I5=>⟨σ,_,I5,q4⟩
def QhR:V->V->Hp->VK->Prop:=fun x y H Q=>∃ i j,x=.int i/\y=.int j/\Q (.int (i+j)) H
theorem Qfl:QgA X .Add QhR:=by
 rintro O9 s σ H x y u v Q I rx ry ⟨i,j,rfl,rfl,q⟩
 obtain ⟨t,rfl⟩:=(show ∃ t,u=Value.int i t from rx)
 obtain ⟨t',rfl⟩:=(show ∃ t',v=Value.int j t' from ry)
 exact PyProof.Rows.iadd_int ⟨.int (i+j),H,I.tok _,⟨_,rfl⟩,q⟩
theorem QeQ {pl:Sem Bool} {m:Str} {apos:Pos} {args:List Expr} {Q:Eh} (he:PE X e te) (I:Inv X O9 σ H s)
  (h:te σ H fun x H1=>∃ a C dx fs g,x=.ref a/\H1 a=some (.ins C dx fs)/\Cls X.K C/\vP X.K C m g/\fs.lookup m=none /\
   ∀ s1,Inv X O9 σ H1 s1->wpAny (model X.prog X.w) X.A (callWith pos (.ref g) [.ref a] (backTo pos (starEach args X.env)) (backToKw pos (keywordEach [] X.env))) Q X.xe s1)
  (ht:eval (.Call (.Attribute e m apos) args [] pos) X.env=(do
   let ov <- eval e X.env
   standAt apos.atName
   let (f,first) <- holding [ov] (getMethod ov m pl)
   callWith pos f first (backTo pos (starEach args X.env)) (backToKw pos (keywordEach [] X.env)))) :
  wpAny (model X.prog X.w) X.A (eval (.Call (.Attribute e m apos) args [] pos) X.env) Q X.xe s:=by
 refine PySem.W.methodCall_KW (pl:=pl) (thn (he O9 s σ H _ I h) fun u s1 zz1=>?_) ht
 obtain ⟨x,H1,I1,rx,a,C,dx,fs,g,ex,ea,c,k,l,q⟩:=zz1
 subst ex
 obtain rfl:u=Value.ref a:=rx
 exact zN I1 ea c k l (q s1 I1)
end
section
variable {X:Cx} {O9:Ei} {σ:St} {H:Hp} {s:Shared} {A:Around} {E:Eh} {Q:Eh} {c:Value} {b:Bool}
end
structure Room (k:Nat) (A:Around):Prop where
 hd:A.handled=none
 dp:A.depth+3 * k+5 < recursionLimit
 un:A.units+16 * k+200 < cLine
theorem Room.mono {j k:Nat} (r:Room k A) (h:j<=k):Room j A:=⟨r.hd,by have:=r.dp;lia,by have:=r.un;lia⟩
theorem Room.deeper {k:Nat} {A:Around} (r:Room (k+1) A) (env:Env):Room k (A.deeper env) :=
 ⟨r.hd,by have:=r.dp;show A.depth+1+3 * k+5 < _;lia,by have:=r.un;show A.units+3+16 * k+200 < _;lia⟩
theorem ux {A:Around} {C:Addr} {kw:List (Str×Value)}:(A.under (.builtin "type.__call__" ⟨.ref C::us,kw⟩)).depth=A.depth+1:=by
 first | rfl | simp [Around.under,Code.weight,Code.isCreation,Code.isGuard,Code.isCaller,Code.frames,Code.isFrame,guardIds]
theorem uy {A:Around} {C:Addr} {kw:List (Str×Value)}:(A.under (.builtin "type.__call__" ⟨.ref C::us,kw⟩)).units=A.units+1:=by
 first | rfl | simp [Around.under,Code.cUnits,Code.frames,Code.isFrame]
theorem Room.make {k:Nat} {A:Around} (r:Room (k+1) A) (C:Addr) (us:List Value) (kw:List (Str×Value)):Room k (A.under (.builtin "type.__call__" ⟨.ref C::us,kw⟩)) :=
 ⟨r.hd,by have:=r.dp;rw [ux];lia,by have:=r.un;rw [uy];lia⟩
theorem Room.depth {k:Nat} {A:Around} (r:Room k A):A.depth < recursionLimit:=by have:=r.dp;lia
theorem Room.units {k:Nat} {A:Around} (r:Room k A):A.units+64 < cLine:=by have:=r.un;lia
def Qhz:TA:=fun _ H Q=>Q [] H
def Qhw (ta:TE) (tr:TA):TA:=fun σ H Q=>ta σ H fun x H1=>tr σ H1 fun xs H2=>Q (x::xs) H2
section
variable {X:Cx} {e:Expr} {es:List Expr} {te:TE} {t:TA} {pos:Pos}
def pa_nil:PA X [] Qhz:=fun _ _ _ _ H Q I h=>Calls.spliced_nil ⟨[],H,I,.nil,h⟩
theorem Y3 (ha:PE X e te) (hr:PA X es t) (hs:starEach (e::es) X.env=(false,eval e X.env)::starEach es X.env:=by rfl):PA X (e::es) (Qhw te t):=by
 intro pos O9 s σ H Q I h
 rw [hs]
 show wpAny _ _ (spliced ((false,eval e X.env)::backTo pos (starEach es X.env))) _ _ s
 refine Calls.spliced_cons (thn (ha O9 s σ H _ I h) fun u s1 ⟨x,H1,I1,r1,q1⟩=>?_)
 exact thn (hr pos O9 s1 σ H1 _ I1 q1) fun us s2 ⟨xs,H2,I2,r2,q2⟩=>⟨x::xs,H2,I2,.cons r1 r2,q2⟩
def Qh7 (t:TA):TE:=fun σ H Q=>t σ H fun xs H1=>xs.length<=sizeLine/\∀ p,H1 p=none->Q (.ref p) (upd H1 p (.tup xs))
def Qh4 (t:TA):TE:=fun σ H Q=>t σ H fun xs H1=>xs.length<=sizeLine/\∀ p,H1 p=none->Q (.ref p) (upd H1 p (.lst xs))
theorem QfX {x1} (h:PA X es t):PE X (.Tuple es x1 pos) (Qh7 t):=by
 intro O9 s σ H Q I hq
 refine wpAny_Tuple_spliced (thn (h pos O9 s σ H _ I hq) fun us s1 ⟨xs,H1,I1,r,z,q⟩=>⟨by rw [<- r.length];exact z,?_⟩)
 have hf:H1 s1.heap.objs.size=none:=I1.hok.fresh (Ae _)
 refine ⟨.ref s1.heap.objs.size,upd H1 s1.heap.objs.size (.tup xs),I1.laid (t':=s1.toks) (fun b u e=>Ad _ e) (Ae _) ?_,rfl,q _ hf⟩
 exact ⟨z,us,r,⟨_,Av _ rfl,rfl,_,rfl⟩⟩
theorem Qci (h:PA X es t):PE X (.List es pos) (Qh4 t):=by
 intro O9 s σ H Q I hq
 refine wpAny_List_spliced (thn (h pos O9 s σ H _ I hq) fun us s1 ⟨xs,H1,I1,r,z,q⟩=>⟨by rw [<- r.length];exact z,?_⟩)
 have hf:H1 s1.heap.objs.size=none:=I1.hok.fresh (Ae _)
 refine ⟨.ref s1.heap.objs.size,upd H1 s1.heap.objs.size (.lst xs),I1.laid (t':=s1.toks) (fun b u e=>Ad _ e) (Ae _) ?_,rfl,q _ hf⟩
 exact ⟨z,us,0,r,Av _ rfl⟩
end
abbrev Sp:=List V->Hp->VK->XK->Prop
abbrev CXT:=List Env->Hp->Shared->XK->Value->Shared->Prop
structure Env0 (P:Program) (w:World) (K:Aa) (mg:Ej) (O8:Heap) (A:Around) (outer:List Env) (s:Shared) (H:Hp):Prop where
 frames:A.frames=some outer
 mod:Mod K mg O8
 bs:∀ b o,O8.get? b=some o->s.heap.get? b=some o/\H b=none
 bsz:O8.objs.size<=s.heap.objs.size
 funs:s.heap.FunFrames O8 outer
 frf:∀ b∈frs outer,H b=none
 hok:HOk P w H s.heap
 bare:AllBare s.gens
def CE (outer:List Env) (P:Program) (w:World) (H:Hp) (s:Shared) (Q:VK) (u:Value) (s':Shared):Prop :=
 ∃ v H',s'.os=s.os/\AllBare s'.gens/\Un (frs outer) [] H H' s.heap s'.heap/\HOk P w H' s'.heap/\RelV v u/\Q v H'
def CR (CX:CXT) (outer:List Env) (P:Program) (w:World) (H:Hp) (s:Shared) (Q:VK) (E:XK) (r:Result) (s':Shared):Prop :=
 match r with
 | .ok (.ret u)=>CE outer P w H s Q u s'
 | .ok _=>False
 | .error e=>CX outer H s E e s'
structure qy (P:Program) (w:World) (K:Aa) (mg:Ej) (O8:Heap) (CX:CXT) (k:Nat) (f:Addr) (fd:FuncData) (ps:List Str) (sp:Sp):Prop where
 len:∀ vs H Q E,sp vs H Q E->vs.length=ps.length
 run:∀ (A:Around) (outer:List Env) (s:Shared) (H:Hp) (args:Args) (us:List Value) (vs:List V) (Q:VK) (E:XK),Room k A->Env0 P w K mg O8 A outer s H->BindsTo s fd args (ps.zip us)->Vals vs us->sp vs H Q E ->
  codeAny (model P w) A (.call (.ref f) args) (CR CX outer P w H s Q E) s
theorem Env0.make {w:World} {K:Aa} (e:Env0 P w K mg O8 A outer s H) (C:Addr) (us:List Value) (kw:List (Str×Value)):
  Env0 P w K mg O8 (A.under (.builtin "type.__call__" ⟨.ref C::us,kw⟩)) outer s H:=⟨by first | exact e.frames | (simpa [Around.under,Code.envs,Code.isFrame,pushEnvs] using e.frames),e.mod,e.bs,e.bsz,e.funs,e.frf,e.hok,e.bare⟩
section
variable {X:Cx} {O9:Ei} {σ:St} {H:Hp} {s s':Shared}
theorem Inv.env0 (I:Inv X O9 σ H s):Env0 X.prog X.w X.K X.mg X.O8 X.A X.stack s H :=
 ⟨I.ok.frames,I.ok.mod,I.bs,Bj I.ok.bsz I.sz,I.stack,I.stkFree,I.hok,I.bare⟩
theorem Inv.after (I:Inv X O9 σ H s) (h:CE X.stack X.prog X.w H s Q u s'):EP X O9 σ Q u s':=by
 obtain ⟨v,H',os,bare,un,hok,r,q⟩:=h
 obtain ⟨hh,g,d,t,os'⟩:=s'
 obtain rfl:os'=s.os:=os
 exact ⟨v,H',I.call (h':=hh) (g':=g) (d':=d) (t':=t) (ch:=[]) un hok bare (fun b z=>absurd z (by simp)),r,q⟩
end
def Qhv (sp:Sp) (dvs:List V) (E:XK) (t:TA):TE:=fun σ H Q=>t σ H fun vs H1=>sp (vs++dvs) H1 Q E
def QcX (C:Addr) (m:Str) (sp:Sp) (dvs:List V) (E:XK) (ta:TE) (t:TA):TE:=fun σ H Q=>ta σ H fun x H1=>∃ a dx fs,x=.ref a/\H1 a=some (.ins C dx fs)/\fs.lookup m=none /\
 t σ H1 fun vs H2=>sp (x::(vs++dvs)) H2 Q E
def Binds (K:Aa) (fd:FuncData) (ps:List Str) (ds:List Value):Prop :=
 ∀ (s:Shared) (us:List Value),K.In s.heap->(us++ds).length=ps.length->BindsTo s fd ⟨us,[]⟩ (ps.zip (us++ds))
theorem Binds.all {K:Aa} {ps:List Str} (h:∀ us:List Value,us.length=ps.length->bindArgs fd ⟨us,[]⟩=pure (ps.zip us)):Binds K fd ps []:=fun s us _ hl=>by
 rw [Bt] at hl ⊢
 exact .of_eq (h us hl)
def Ys (CX:CXT) (X:Cx) (E:XK):Prop:=∀ (O9:Ei) (σ:St) (H:Hp) (s:Shared) (e:Value) (s':Shared),Inv X O9 σ H s->CX X.stack H s E e s'->X.xe e s'
section
variable {X:Cx} {CX:CXT} {k:Nat} {f C:Addr} {fd:FuncData} {ps:List Str} {sp:Sp} {dvs:List V} {ds:List Value} {E:XK} {x m:Str} {p pos apos:Pos} {e o:Expr} {es:List Expr} {ta:TE} {t:TA}
theorem uN {O9:Ei} {σ:St} {H:Hp} {s:Shared} {Q:VK} {us:List Value} {vs:List V} (F:qy X.prog X.w X.K X.mg X.O8 CX k f fd ps sp) (hr:Room k X.A) (hb:Binds X.K fd ps ds) (hd:Vals dvs ds) (hx:Ys CX X E)
    (I:Inv X O9 σ H s) (r:Vals vs us) (h:sp (vs++dvs) H Q E):wpAny (model X.prog X.w) X.A (call (.ref f) us) (EP X O9 σ Q) X.xe s:=by
  have r2:Vals (vs++dvs) (us++ds):=r.append hd
  have hl:(us++ds).length=ps.length:=by rw [<- r2.length];exact F.len _ _ _ _ h
  refine wpAny_call (codeAny_mono (F.run X.A X.stack s H ⟨us,[]⟩ (us++ds) (vs++dvs) Q E hr I.env0 (hb s us I.kIn hl) r2 h) fun r s' hq=>?_)
  cases r with
  | error e=>exact hx O9 σ H s e s' I hq
  | ok fl =>
    cases fl with
    | ret u=>exact I.after hq
    | next=>exact False.elim hq
    | brk=>exact False.elim hq
    | cont=>exact False.elim hq
theorem QdU (F:qy X.prog X.w X.K X.mg X.O8 CX k f fd ps sp) (hr:Room k X.A) (hg:Gl X x) (hm:X.mg x=some (.ref f)) (hk:PySem.W.keepIn X.K (.ref f)=true) (hb:Binds X.K fd ps ds) (hd:Vals dvs ds) (hx:Ys CX X E)
  (ha:PA X (e::es) t) (hdb:(x==("__debug__" : Str))=false:=by decide) (he:starEach (e::es) X.env=(false,eval e X.env)::starEach es X.env:=by rfl) (hpl:(backTo pos (starEach es X.env)).any (·.1)=false:=by rfl) :
  PE X (.Call (.Name x p) (e::es) [] pos) (Qhv sp dvs E t):=by
 intro O9 s σ H Q I h
 refine wpAny_Call_Name_kw (KG I hg hm ?_ hdb)
 refine PySem.W.callWith_K (h₀:=X.O8) I.ok.mod.kin hk (thn (ha pos O9 s σ H _ I h) fun us s1 ⟨vs,H1,I1,r,q⟩=>⟨I1.kIn,?_⟩) he hpl
 exact uN F hr hb hd hx I1 r q
theorem QdX {pl:Sem Bool} (he:PE X o ta) (c:Cls X.K C) (hm:vP X.K C m f) (F:qy X.prog X.w X.K X.mg X.O8 CX k f fd ps sp) (hr:Room k X.A) (hb:Binds X.K fd ps ds) (hd:Vals dvs ds) (hx:Ys CX X E) (ha:PA X (e::es) t)
  (hst:starEach (e::es) X.env=(false,eval e X.env)::starEach es X.env:=by rfl) (hpl:(backTo pos (starEach es X.env)).any (·.1)=false:=by rfl)
  (ht:eval (.Call (.Attribute o m apos) (e::es) [] pos) X.env=(do
   let ov <- eval o X.env
   standAt apos.atName
   let (f,first) <- holding [ov] (getMethod ov m pl)
   callWith pos f first (backTo pos (starEach (e::es) X.env)) (backToKw pos (keywordEach [] X.env))):=by rfl) :
  PE X (.Call (.Attribute o m apos) (e::es) [] pos) (QcX C m sp dvs E ta t):=by
 intro O9 s σ H Q I h
 refine PySem.W.methodCall_KW (pl:=pl) (thn (he O9 s σ H _ I h) fun u s1 zz1=>?_) ht
 obtain ⟨x,H1,I1,rx,a,dx,fs,ex,ea,l,q⟩:=zz1
 subst ex
 obtain rfl:u=Value.ref a:=rx
 refine zN I1 ea c hm l ?_
 refine PySem.W.callWith_K (first:=[.ref a]) (h₀:=X.O8) I.ok.mod.kin hm.kp (thn (ha pos O9 s1 σ H1 _ I1 q) fun us s2 ⟨vs,H2,I2,r,q2⟩=>⟨I2.kIn,?_⟩) hst hpl
 exact uN (us:=.ref a::us) (vs:=.ref a::vs) F hr hb hd hx I2 (.cons rfl r) q2
theorem Qcj {pl:Sem Bool} (he:PE X o ta) (c:Cls X.K C) (hm:vP X.K C m f) (F:qy X.prog X.w X.K X.mg X.O8 CX k f fd ps sp) (hr:Room k X.A) (hb:Binds X.K fd ps ds) (hd:Vals dvs ds) (hx:Ys CX X E)
  (ht:eval (.Call (.Attribute o m apos) [] [] pos) X.env=(do
   let ov <- eval o X.env
   standAt apos.atName
   let (f,first) <- holding [ov] (getMethod ov m pl)
   callWith pos f first (backTo pos (starEach [] X.env)) (backToKw pos (keywordEach [] X.env))):=by rfl) :
  PE X (.Call (.Attribute o m apos) [] [] pos) (QcX C m sp dvs E ta Qhz):=by
 intro O9 s σ H Q I h
 refine PySem.W.methodCall_KW (pl:=pl) (thn (he O9 s σ H _ I h) fun u s1 zz1=>?_) ht
 obtain ⟨x,H1,I1,rx,a,dx,fs,ex,ea,l,q⟩:=zz1
 subst ex
 obtain rfl:u=Value.ref a:=rx
 refine zN I1 ea c hm l ?_
 exact PySem.W.callWith_K0 (first:=[.ref a]) I1.kIn hm.kp (uN (us:=[.ref a]) (vs:=[.ref a]) F hr hb hd hx I1 (.cons rfl .nil) q)
structure Mk (K:Aa) (C f:Addr):Prop where
 makes:PySem.W.makesIn K C=true
 init:PySem.W.findIn K (.ref C) "__init__" = some (some (.ref f))
 fn:PySem.W.isFn K (.ref f)=true
 kp:PySem.W.keepIn K (.ref C)=true
end
section
variable {X:Cx} {CX:CXT} {k:Nat} {f C:Addr} {fd:FuncData} {ps ks:List Str} {sp:Sp} {E:XK} {x m:Str} {p pos apos kpos:Pos} {e o:Expr} {es:List Expr} {kws:List Keyword} {te ta:TE} {t tk:TA} {nm:Option Str}
variable {g:List Value->List Value->List Value} {gV:List V->List V->List V}
end
structure Qv (N P:List Str) (sc:Scope):Prop where
 kind:sc.kind=.function
 co:sc.isCoroutine=false
 gen:sc.isGenerator=false
 nd:N.Nodup
 pre:N.take P.length=P
 par:∀ x∈P,sc.names.lookup x=some .local∨sc.names.lookup x=some .cell
 nofree:∀ y∈sc.names,y.2≠.free
theorem Uv {kindOf:Str->Option NameKind} {x:Str}:∀ {binds:List (Str×Value)} {m:Ej},(∀ v,(x,v)∉binds)->bindL kindOf binds m x=m x
  | [],_,_=>rfl
  | (n,v)::r,m,h=>by
    unfold bindL
    rw [Uv fun w hw=>h w (Ax _ hw)]
    split
    . have:x≠n:=by rintro rfl;exact h v List.mem_cons_self
      simp [this]
    . rfl
theorem Ut {kindOf:Str->Option NameKind} {x:Str}:∀ {binds:List (Str×Value)} {m:Ej},(∀ v,(x,v)∉binds)->bindC kindOf binds m x=m x
  | [],_,_=>rfl
  | (n,v)::r,m,h=>by
    unfold bindC
    rw [Ut fun w hw=>h w (Ax _ hw)]
    split
    . rfl
    . have:x≠n:=by rintro rfl;exact h v List.mem_cons_self
      simp [this]
theorem Uu {kindOf:Str->Option NameKind} {x:Str}:∀ {P:List Str} {vs:List Value} {i:Nat} {m:Ej},P.Nodup->P[i]?=some x->vs[i]?=some v->kindOf x=some .local ->
    bindL kindOf (P.zip vs) m x=some v
  | [],_,_,_,_,h,_,_=>by simp at h
  | _::_,[],_,_,_,_,h,_=>by simp at h
  | p::P,w::vs,0,m,nd,h1,h2,hk=>by
    simp at h1 h2;subst h1;subst h2
    show bindL kindOf ((p,w)::P.zip vs) m p=_
    unfold bindL
    rw [Uv fun v hv=>(Cv.mp nd).1 (List.of_mem_zip hv).1,C9 hk]
    simp
  | p::P,w::vs,i+1,m,nd,h1,h2,hk=>by
    show bindL kindOf ((p,w)::P.zip vs) m x=_
    unfold bindL
    exact Uu (i:=i) (Cv.mp nd).2 (by simpa using h1) (by simpa using h2) hk
theorem Us {kindOf:Str->Option NameKind} {x:Str}:∀ {P:List Str} {vs:List Value} {i:Nat} {m:Ej},P.Nodup->P[i]?=some x->vs[i]?=some v->kindOf x≠some .local ->
    bindC kindOf (P.zip vs) m x=some v
  | [],_,_,_,_,h,_,_=>by simp at h
  | _::_,[],_,_,_,_,h,_=>by simp at h
  | p::P,w::vs,0,m,nd,h1,h2,hk=>by
    simp at h1 h2;subst h1;subst h2
    show bindC kindOf ((p,w)::P.zip vs) m p=_
    unfold bindC
    rw [Ut fun v hv=>(Cv.mp nd).1 (List.of_mem_zip hv).1,C8 hk]
    simp
  | p::P,w::vs,i+1,m,nd,h1,h2,hk=>by
    show bindC kindOf ((p,w)::P.zip vs) m x=_
    unfold bindC
    exact Us (i:=i) (Cv.mp nd).2 (by simpa using h1) (by simpa using h2) hk
def start (N:List Str) (vs:List V):St:=vs.map some++List.replicate (N.length - vs.length) none
def yh (CX:CXT) (P:Program) (w:World) (K:Aa) (mg:Ej) (O8:Heap) (N:List Str) (qual:Str) (scope:Scope) (f:Addr) (cd:Value) (A:Around) (outer:List Env) (s:Shared) (H:Hp) (E:XK):Cx where
 prog:=P
 w:=w
 K:=K
 mg:=mg
 O8:=O8
 A:=A.deeper (envOfC qual scope s.heap.objs.size f cd)
 N:=N
 s₀:=s
 H₀:=H
 env:=envOfC qual scope s.heap.objs.size f cd
 outer:=outer
 stack:=envOfC qual scope s.heap.objs.size f cd::outer
 ex:=[]
 calm:=true
 fn:=fun _=>true
 pn:=[]
 xe:=fun e s'=>wpAny (model P w) (A.deeper (envOfC qual scope s.heap.objs.size f cd)) (leaving (envOfC qual scope s.heap.objs.size f cd) e) (fun _ s''=>CX outer H s E e s'') (fun e' s''=>CX outer H s E e' s'') s'
theorem Gy {sc:Scope} {n:Nat} {x:Str} (h:sc.names.lookup x=some .cell):∃ c,(cellsFrom n sc.names []).lookup x=some c:=by
 have q:=PySem.W.cellsFrom_some sc.names n [] (.inl h)
 exact Option.isSome_iff_exists.mp q
theorem Qaw {CX:CXT} {P:Program} {w:World} {K:Aa} {mg:Ej} {O8:Heap} {N ps:List Str} {qual:Str} {scope:Scope} {f:Addr} {cd:Value} {A:Around} {outer:List Env} {s s1:Shared} {H:Hp} {E:XK} {us:List Value} {vs:List V}
  (S:Qv N ps scope) (hd:A.handled=none) (e0:Env0 P w K mg O8 A outer s H) (hl:vs.length=ps.length) (r:Vals vs us)
  (x:InCallC s s.heap.objs.size (bindL (envOfC qual scope s.heap.objs.size f cd).kindOf (ps.zip us) fun _=>none) (cellsFrom (s.heap.objs.size+1) scope.names []) (bindC (envOfC qual scope s.heap.objs.size f cd).kindOf (ps.zip us) fun _=>none) s1) :
  Inv (yh CX P w K mg O8 N qual scope f cd A outer s H E) [] (start N vs) H s1:=by
 have hpl:ps.length<=N.length:=by have:=congrArg List.length S.pre;rw [A9] at this;lia
 obtain ⟨h1,tk,rfl,hk⟩:=x.done
 have noA:∀ b:Addr,b∉(yh CX P w K mg O8 N qual scope f cd A outer s H E).ex:=fun b z=>absurd (show b∈([]:Ep) from z) (by simp)
 refine ⟨⟨e0.mod,S.kind,rfl,rfl,Ae _,fun y z c h1 h2=>?_,fun y hy=>?_,fun y c _ h=>?_,fun _=>hd,Around.frames_deeper e0.frames,.inr ⟨rfl,rfl⟩,fun b z=>absurd z (noA b),e0.bs,e0.bsz,fun b _ _=>noA b,fun b z=>absurd z (noA b),e0.funs,e0.frf⟩,
  rfl,e0.bare,Un.kept hk,⟨_,x.toInCall.ns,fun i y v h1 h2 h3=>?_⟩,fun y c h=>⟨_,x.cell y c h⟩,e0.hok.fresh (Ae _),fun y c h=>?_,fun p U=>absurd (show p∈([]:Ei) from U) (by simp),e0.hok.kept hk,?_⟩
 ·exact name_of_addr x.apart (PySem.mem_of_lookup h1) (PySem.mem_of_lookup h2)
 ·have hy:scope.names.lookup y=some .cell∨scope.names.lookup y=some .free:=hy
  rcases hy with hy | hy
  ·exact Gy hy
  ·exact absurd rfl (S.nofree _ (PySem.mem_of_lookup hy))
 ·exact Nat.le_of_lt (x.above y c (PySem.mem_of_lookup h))
 ·have hi:i < vs.length:=by
   unfold start at h2
   by_cases hi:i < vs.length
   ·exact hi
   ·rw [Aq (by simpa using hi)] at h2
    rw [List.getElem?_replicate] at h2
    split at h2<;>cases h2
  have ha:vs[i]?=some v:=by
   unfold start at h2
   rw [Ah (by simpa using hi),Bu] at h2
   cases e:vs[i]? with
   | none=>rw [e] at h2;cases h2
   | some a=>rw [e] at h2;cases h2;rfl
  obtain ⟨u,hu,rv⟩:=r.get ha
  have U:ps[i]?=some y:=by
   rw [<- S.pre,Ca (by lia)];exact h1
  have ndP:ps.Nodup:=by rw [<- S.pre];exact S.nd.sublist (List.take_sublist _ _)
  refine ⟨u,rv,?_⟩
  rcases S.par y (Aw U) with k | k
  ·exact .inl ⟨k,Uu ndP U hu k⟩
  ·obtain ⟨c,e⟩:=Gy (n:=s.heap.objs.size+1) k
   refine .inr ⟨.inl k,c,e,?_⟩
   have q:=x.cell y c e
   rw [Us ndP U hu (by show scope.names.lookup y≠_;rw [k];decide)] at q
   exact q
 ·exact e0.hok.fresh (Nat.le_of_lt (x.above y c (PySem.mem_of_lookup h)))
 ·unfold start
  show _=N.length
  rw [An,Br,List.length_replicate]
  lia
theorem QgL {CX:CXT} {P:Program} {w:World} {K:Aa} {mg:Ej} {O8:Heap} {k:Nat} {f:Addr} {name qual:Str} {params:Arguments} {body:List Stmt} {scope:Scope} {dV kV doc pm cdv ct oc:Value} {an od:Option Addr}
    {osl:Array (Option Value)} {N ps:List Str} {sp:Sp} (lk:K.lookup f=some ⟨oc,od,.func (PySem.W.fnOf name qual params body scope dV kV doc pm an cdv ct),osl⟩) (hcd:PySem.W.codeIn K cdv qual=true) (S:Qv N ps scope)
    (len:∀ vs H Q E,sp vs H Q E->vs.length=ps.length)
    (hbody:∀ (A:Around) (outer:List Env) (s:Shared) (H:Hp) (vs:List V) (Q:VK) (E:XK),Room k (A.deeper (envOfC qual scope s.heap.objs.size f cdv))->sp vs H Q E ->
      ∃ t,PSs (yh CX P w K mg O8 N qual scope f cdv A outer s H E) body t/\t { nx:=fun _ H'=>Q .non H',rt:=Q } (start N vs) H) :
    qy P w K mg O8 CX (k+1) f (PySem.W.fnOf name qual params body scope dV kV doc pm an cdv ct) ps sp:=by
  refine ⟨len,fun A outer s H args us vs Q E hr e0 hb r hsp=>?_⟩
  have hl:=len _ _ _ _ hsp
  have KX:K.In s.heap:=e0.mod.kin.keeps fun b o e=>(e0.bs b o e).1
  have lim:s.heap.NoLimit:=e0.mod.nolimit.keeps fun b o e=>(e0.bs b o e).1
  have hkind:∀ y∈ps.zip us,scope.names.lookup y.1=some .local∨(scope.names.lookup y.1=some .cell/\((cellsFrom (s.heap.objs.size+1) scope.names []).lookup y.1).isSome=true):=fun ⟨n,v⟩ hy=>by
    rcases S.par n (List.of_mem_zip hy).1 with q | q
    . exact .inl q
    . exact .inr ⟨q,PySem.W.cellsFrom_some _ _ _ (.inl q)⟩
  refine codeAny_call_function hr.depth (KX _ _ lk) rfl S.co S.gen rfl (PySem.W.codeRec_of KX hcd) (hb _ _ _ _ ?_)
  refine wpAny_newFunctionEnv_cells S.kind hkind fun env he s1 x=>?_
  subst he
  refine ⟨lim.keeps x.toInCall.keep,codeAny_func ?_⟩
  obtain ⟨t,ht,hq⟩:=hbody A outer s H vs Q E (hr.deeper _) hsp
  have I:Inv (yh CX P w K mg O8 N qual scope f cdv A outer s H E) [] (start N vs) H s1:=Qaw S hr.hd e0 hl r x
  refine wpAny_mono (ht [] s1 (start N vs) H _ I hq) (fun fl s' hs=>?_) fun e s' hs=>hs
  have fin:∀ {σ':St} {H':Hp} {v:V} {u:Value},Inv (yh CX P w K mg O8 N qual scope f cdv A outer s H E) [] σ' H' s'->RelV v u->Q v H'->CE outer P w H s Q u s' :=
    fun {σ' H' v u} J rv q=>⟨v,H',J.os,J.bare,J.O8,J.hok,rv,q⟩
  cases fl with
  | ret u =>
    obtain ⟨v,σ',H',J,rv,q⟩:=hs
    exact fin J rv q
  | next =>
    obtain ⟨σ',H',J,q⟩:=hs
    exact fin (v:=V.non) (u:=Value.none) J rfl q
  | brk =>
    obtain ⟨_,_,_,q⟩:=hs
    exact False.elim q
  | cont =>
    obtain ⟨_,_,_,q⟩:=hs
    exact False.elim q
section
variable {X:Cx} {x:Str} {p pos:Pos} {e:Expr} {es:List Expr} {t:TA} {id T:String} {r:List V->Hp->VK->Prop}
def tCB (r:List V->Hp->VK->Prop) (t:TA):TE:=fun σ H Q=>t σ H fun vs H1=>r vs H1 Q
theorem Vo (hc:CallR X (.builtin id) r) (hg:Gl X x) (hm:X.mg x=none) (hv:bootBuiltins x=some (.builtin id)) (ha:PA X (e::es) t) (hn:x ≠ "__name__" := by decide) (hdb:(x==("__debug__" : Str))=false:=by decide)
  (he:starEach (e::es) X.env=(false,eval e X.env)::starEach es X.env:=by rfl) (hpl:(backTo pos (starEach es X.env)).any (·.1)=false:=by rfl):PE X (.Call (.Name x p) (e::es) [] pos) (tCB r t):=by
 intro O9 s σ H Q I h
 refine wpAny_Call_Name_kw (Vb I hg hm hv ?_ hn hdb)
 exact PyProof.Rows.callWith_builtin1 (thn (ha pos O9 s σ H _ I h) fun us s1 ⟨vs,H1,I1,r1,q1⟩=>hc O9 s1 σ H1 vs us Q I1 r1 q1) he hpl
theorem QaK (hc:CallR X (.type T) r) (hg:Gl X x) (hm:X.mg x=none) (hv:bootBuiltins x=some (.type T)) (ha:PA X (e::es) t) (hn:x ≠ "__name__" := by decide) (hdb:(x==("__debug__" : Str))=false:=by decide)
  (he:starEach (e::es) X.env=(false,eval e X.env)::starEach es X.env:=by rfl) (hpl:(backTo pos (starEach es X.env)).any (·.1)=false:=by rfl):PE X (.Call (.Name x p) (e::es) [] pos) (tCB r t):=by
 intro O9 s σ H Q I h
 refine wpAny_Call_Name_kw (Vb I hg hm hv ?_ hn hdb)
 exact PyProof.Rows.callWith_type1 (thn (ha pos O9 s σ H _ I h) fun us s1 ⟨vs,H1,I1,r1,q1⟩=>hc O9 s1 σ H1 vs us Q I1 r1 q1) he hpl
end
end L2
namespace HT
open PySem PyProof.Rows
section
open PySem.SeqAt
open PySem.AutoSeq1 (wpAny_loadPart')
open PySem.MeetsSeq PySem.MeetsSeq2 PySem.MeetsSeq3
end
section
variable {prog:Program} {w:World} {A:Around} {E:Eh} {s:Shared}
theorem cat_tup {t b:Addr} {vs ws:List Value} {Q:Eh} (ht:IsTup s.heap t vs.toArray) (hb:IsTup s.heap b ws.toArray) (hv:vs≠[])
  (h1:ws=[]->Q (.ref t) s) (h2:ws≠[]->Q (.ref s.heap.objs.size) { s with heap:=s.heap.push { cls:=.type "tuple", data:=.seq (vs++ws).toArray } })
  (hsz:vs.length+ws.length<=sizeLine):wpAny (model prog w) A (binaryOp .Add (.ref t) (.ref b)) Q E s:=by
 obtain ⟨⟨cls,dd,data,sl⟩,ho,hc,n,hd⟩:=id ht
 obtain ⟨⟨cls2,dd2,data2,sl2⟩,ho2,hc2,n2,hd2⟩:=id hb
 simp only at hc hd hc2 hd2
 subst hc hd hc2 hd2
 have e:vs.toArray++ws.toArray=(vs++ws).toArray:=by simp
 by_cases hw:ws=[]
 ·exact concat_meets ⟨_,ho,rfl⟩ ⟨_,ho2,rfl⟩ noFill_tuple_add seq_tuple_add PySem.F.slot_tuple_add PySem.F.entry_tuple_add (PySem.F.args_tuple_add_2 _ _)
   (tuple_addW1 t b vs.toArray ws.toArray n n2 dd dd2 sl sl2 (by simpa using hv) (by simp [hw])) ⟨ho,ho2,h1 hw⟩
 ·refine concat_meets ⟨_,ho,rfl⟩ ⟨_,ho2,rfl⟩ noFill_tuple_add seq_tuple_add PySem.F.slot_tuple_add PySem.F.entry_tuple_add (PySem.F.args_tuple_add_2 _ _)
   (tuple_addW2 t b vs.toArray ws.toArray n n2 dd dd2 sl sl2 (by simpa using hv) (by simpa using hw) (by rw [Ao,Ao];exact hsz)) ⟨ho,ho2,?_⟩
  rw [e]
  exact h2 hw
def sIx (n d:Nat):Option Int->Nat
 | none=>d
 | some v=>if v < 0 then (v+(n:Int)).toNat else min v.toNat n
theorem sIx_nat (n d k:Nat):sIx n d (some (k:Int))=min k n:=by
 show (if (k:Int) < 0 then ((k:Int)+(n:Int)).toNat else min (k:Int).toNat n)=min k n
 rw [C8 (by lia),B7]
theorem Qgi (n d:Nat) (hd:d<=n) (o:Option Int):sIx n d o<=n:=by
  cases o with
  | none=>exact hd
  | some v =>
    show (if v < 0 then (v+(n:Int)).toNat else min v.toNat n)<=n
    by_cases hv:v < 0
    . rw [C9 hv];lia
    . rw [C8 hv];exact Nat.min_le_right _ _
theorem gz (v:Int) (n d:Nat):(if v < 0 then max (v+(n:Int)) 0 else min v (n:Int))=((sIx n d (some v):Nat):Int):=by
 show (if v < 0 then max (v+(n:Int)) 0 else min v (n:Int))=(((if v < 0 then (v+(n:Int)).toNat else min v.toNat n):Nat):Int)
 by_cases hv:v < 0
 ·simp only [C9 hv];lia
 ·simp only [C8 hv];lia
theorem vQ (lo hi:Option Int) (n:Nat):Builtin.Slice.sliceAdjust lo hi 1 (n:Int)=(((sIx n 0 lo:Nat):Int),((sIx n n hi:Nat):Int)):=by
 have h1:¬ ((1:Int) < 0):=by lia
 unfold Builtin.Slice.sliceAdjust
 simp only [h1,if_false]
 refine Prod.ext ?_ ?_
 ·cases lo with
  | none=>rfl
  | some v=>exact gz v n 0
 ·cases hi with
  | none=>rfl
  | some v=>exact gz v n n
theorem uJ (i j:Nat):Builtin.Slice.slicePlaces (i:Int) (j:Int) 1=j - i:=by
 unfold Builtin.Slice.slicePlaces
 have h1:(1:Int) > 0:=by lia
 simp only [h1,if_true,Int.ediv_one]
 split<;>lia
theorem VI {o:Option Int} {Q:Option Int->Shared->Prop} (p:IsPart v o) (h:Q o s):wpAny (model prog w) A (Builtin.Slice.slicePartIndex v) Q E s:=by
 cases p with
 | none=>exact slicePart_none h
 | int i t=>exact slicePart_int h
theorem sliceApplied_gen {sl:Addr} {lo hi:Option Int} {n:Nat} {Q:Int×Int×Nat->Shared->Prop} (hs:s.heap.IsSliceOf sl vl vu .none) (pl:IsPart vl lo) (pu:IsPart vu hi)
  (h:Q (((sIx n 0 lo:Nat):Int),1,sIx n n hi - sIx n 0 lo) s):wpAny (model prog w) A (Builtin.Slice.sliceApplied (.ref sl) (pure (n:Int))) Q E s:=by
 obtain ⟨os,hos,hcs,hds⟩:=id hs
 unfold Builtin.Slice.sliceApplied Builtin.Slice.sliceFields
 refine C7 (C7 (wpAny_field hos hds (x:=vl) rfl (C7 (wpAny_field hos hds (x:=vu) rfl (C7 (wpAny_field hos hds (x:=.none) rfl (Ea ?_)))))))
 refine C7 (slicePart_none ?_)
 show wpAny _ _ (if ((1:Int)==0)=true then _ else _) _ _ s
 rw [C8 (by decide)]
 refine C7 (VI pl (C7 (VI pu (C7 (Ea ?_)))))
 show wpAny _ _ (match Builtin.Slice.sliceAdjust lo hi 1 (n:Int) with | (lo,hi)=>pure (lo,(1:Int),Builtin.Slice.slicePlaces lo hi 1)) _ _ s
 rw [vQ lo hi n]
 show wpAny _ _ (pure (((sIx n 0 lo:Nat):Int),(1:Int),Builtin.Slice.slicePlaces ((sIx n 0 lo:Nat):Int) ((sIx n n hi:Nat):Int) 1)) _ _ s
 rw [uJ]
 exact Ea h
theorem Qco (xs:Array Value) (i k:Nat):((List.range k).filterMap fun (m:Nat)=>xs[((i:Int)+(m:Int) * 1).toNat]?).toArray=((xs.toList.drop i).take k).toArray:=by
 have e:(fun (m:Nat)=>xs[((i:Int)+(m:Int) * 1).toNat]?)=fun m=>xs[i+m]?:=by
  funext m
  have:((i:Int)+(m:Int) * 1).toNat=i+m:=by lia
  rw [this]
 rw [e]
 have:=pick_run xs i k
 rw [List.filterMap_map] at this
 have e2:((fun x=>xs[x]?)∘fun x=>i+x)=fun m=>xs[i+m]?:=rfl
 rw [e2] at this
 rw [this]
theorem getItem_tuple_cut {t sl:Addr} {items:Array Value} {lo hi:Option Int} {Q:Eh} (ht:IsTup s.heap t items) (hs:s.heap.IsSliceOf sl vl vu .none) (pl:IsPart vl lo) (pu:IsPart vu hi)
  (hw:¬ (sIx items.size 0 lo=0/\sIx items.size items.size hi=items.size))
  (h:Q (.ref s.heap.objs.size) { s with heap:=s.heap.push { cls:=.type "tuple", data:=.seq ((items.toList.drop (sIx items.size 0 lo)).take (sIx items.size items.size hi - sIx items.size 0 lo)).toArray } })
  (hsz:items.size<=sizeLine):wpAny (model prog w) A (getItem (.ref t) (.ref sl)) Q E s:=by
 have htake:sizeOk (.seq ((items.toList.drop (sIx items.size 0 lo)).take (sIx items.size items.size hi - sIx items.size 0 lo)).toArray):=by
  show ((items.toList.drop (sIx items.size 0 lo)).take (sIx items.size items.size hi - sIx items.size 0 lo)).toArray.size<=sizeLine
  rw [Ao,A9,Bq,Cj]
  lia
 have hj:sIx items.size items.size hi<=items.size:=Qgi _ _ (Ae _) hi
 obtain ⟨os,hos,hcs,hds⟩:=id hs
 have hTs:s.TypeIs (.ref sl) "slice" := ⟨os,hos,hcs⟩
 unfold getItem
 try with_reducible refine wpAny_holding ?_
 first | refine C7 (Ea ?_) | skip
 refine C7 (wpAny_sequenceKey ht.typeIs (by decide) ?_)
 refine C7 (wpAny_callSpecial?_slot (name:=Str.ofString "__getitem__") ht.typeIs PyProof.Rows.slot_tuple_getitem
  (wpAny_call_entry PyProof.Rows.slot_tuple_getitem ht.typeIs entry_tuple_getitem ?_ (args_tuple_getitem _ _)))
 show wpAny _ _ (Builtin.Tuple.tupleItemsOf (.ref t) >>= _) _ _ s
 refine C7 (tupleItemsOf_ ht ?_)
 refine C7 (wpAny_typeOf hTs ?_)
 rw [C9 (by decide)]
 refine C7 (sliceApplied_gen hs pl pu ?_)
 have hno:¬ ((((sIx items.size 0 lo:Nat):Int)==0&&(1:Int)==1&&(sIx items.size items.size hi - sIx items.size 0 lo)==items.size)=true):=by
  intro q
  rw [Bc,Bc] at q
  have q1:((sIx items.size 0 lo:Nat):Int)=0:=eq_of_beq q.1.1
  have q2:sIx items.size items.size hi - sIx items.size 0 lo=items.size:=eq_of_beq q.2
  exact hw ⟨by lia,by lia⟩
 show wpAny _ _ (if (((sIx items.size 0 lo:Nat):Int)==0&&(1:Int)==1&&(sIx items.size items.size hi - sIx items.size 0 lo)==items.size)=true then _ else _) _ _ s
 rw [C8 hno,Qco]
 first
  | exact C7 (m:=Builtin.Tuple.tupleExact _) (wpAny_newObj_type (Ea ⟨_,rfl,Ea h⟩) htake)
  | exact C7 (m:=Builtin.Tuple.tupleExact _) (wpAny_newObj_type (C7 (Ea (Ea ⟨_,rfl,Ea h⟩))) htake)
  | exact C7 (C7 (m:=Builtin.Tuple.tupleExact _) (wpAny_newObj_type (Ea (Ea ⟨_,rfl,Ea h⟩)) htake))
  | exact C7 (C7 (m:=Builtin.Tuple.tupleExact _) (wpAny_newObj_type (Ea ⟨_,rfl,Ea h⟩) htake))
end
end HT
namespace L2
open PySem PySem.Spec PyProof.Rows
abbrev TO:=St->Hp->(Option Int->Hp->Prop)->Prop
def PO (X:Cx) (e:Option Expr) (t:TO):Prop :=
  ∀ (O9 : List (Addr × Obj)) (s : Shared) (σ : St) (H : Hp) (Q : Option Int -> Hp -> Prop), Inv X O9 σ H s -> t σ H Q ->
    wpAny (model X.prog X.w) X.A (evalPart e X.env) (fun u s'=>∃ o H',Inv X O9 σ H' s'/\IsPart u o/\Q o H') X.xe s
def Qev:TO:=fun _ H Q=>Q none H
def QhA (t:TE):TO:=fun σ H Q=>t σ H fun x H1=>∃ i,x=.int i/\Q (some i) H1
section
variable {X:Cx} {e:Expr} {te:TE} {lo hi:Option Expr} {tl th:TO} {pos p2:Pos}
theorem Qd2:PO X none Qev:=by
 intro O9 s σ H Q I h
 rw [evalPart_none]
 exact Ea ⟨none,H,I,.none,h⟩
theorem Qd3 (h:PE X e te):PO X (some e) (QhA te):=by
 intro O9 s σ H Q I hw
 rw [evalPart_some]
 refine thn (h O9 s σ H _ I hw) fun u s1 ⟨x,H1,I1,r1,q1⟩=>?_
 obtain ⟨i,rfl,q⟩:=q1
 obtain ⟨t,rfl⟩:=r1
 exact ⟨some i,H1,I1,.int i t,q⟩
def SlR (X:Cx) (r:V->Option Int->Option Int->Hp->VK->Prop):Prop :=
  ∀ (O9 : List (Addr × Obj)) (s : Shared) (σ : St) (H : Hp) (x : V) (v vl vu : Value) (lo hi : Option Int) (sl : Addr) (Q : VK), Inv X O9 σ H s -> RelV x v -> s.heap.IsSliceOf sl vl vu .none -> IsPart vl lo -> IsPart vu hi -> r x lo hi H Q ->
    ∃ T id,typeLookup (.type T) "__getitem__" = pure (some (.builtin id))/\s.TypeIs v T/\wpAny (model X.prog X.w) X.A (getItem v (.ref sl)) (EP X O9 σ Q) X.xe s
def tSl (r:V->Option Int->Option Int->Hp->VK->Prop) (te:TE) (tl th:TO):TE:=fun σ H Q=>te σ H fun x H1=>tl σ H1 fun l H2=>th σ H2 fun u H3=>r x l u H3 Q
theorem Qck {r:V->Option Int->Option Int->Hp->VK->Prop} (hr:SlR X r) (he:PE X e te) (hl:PO X lo tl) (hu:PO X hi th):PE X (.Subscript e (.Slice lo hi none p2) pos) (tSl r te tl th):=by
 intro O9 s σ H Q I h
 refine Subscript_ (thn (he O9 s σ H _ I h) fun v s1 ⟨x,H1,I1,r1,q1⟩=>?_)
 refine wpAny_Slice (thn (hl O9 s1 σ H1 _ I1 q1) fun vl s2 ⟨l,H2,I2,pl,q2⟩=>thn (hu O9 s2 σ H2 _ I2 q2) fun vu s3 ⟨u,H3,I3,pu,q3⟩=>?_)
 rw [evalPart_none]
 refine Ea ?_
 have I4:Inv X O9 σ H3 { s3 with heap:=s3.heap.push { cls:=.type "slice", data:=.fields #[vl,vu,.none] } }:=I3.kept (t':=s3.toks) fun b ob q=>Ad _ q
 obtain ⟨T,id,hT,ht,hg⟩:=hr O9 { s3 with heap:=s3.heap.push { cls:=.type "slice", data:=.fields #[vl,vu,.none] } } σ H3 x v vl vu l u s3.heap.objs.size Q I4 r1 (Heap.IsSliceOf.new ..) pl pu q3
 show wpAny (model X.prog X.w) X.A (subscriptTail e (.Slice lo hi none p2) v (.ref s3.heap.objs.size)) (EP X O9 σ Q) X.xe { s3 with heap:=s3.heap.push { cls:=.type "slice", data:=.fields #[vl,vu,.none] } }
 exact tail_any (ops:=[.ref s3.heap.objs.size,v]) ht hT hg (by with_unfolding_all rfl)
def GC (xs:List V) (lo hi:Option Int):List V:=(xs.drop (HT.sIx xs.length 0 lo)).take (HT.sIx xs.length xs.length hi - HT.sIx xs.length 0 lo)
theorem xK (xs:List V) (lo hi:Option Int):(GC xs lo hi).length<=xs.length:=by
 unfold GC
 rw [A9,Bq]
 lia
def QhX (K:Aa):V->Option Int->Option Int->Hp->VK->Prop:=fun x lo hi H Q=>∃ a xs,x=.ref a/\SqT K H a xs /\
 ¬ (HT.sIx xs.length 0 lo=0/\HT.sIx xs.length xs.length hi=xs.length)/\∀ p,H p=none->Q (.ref p) (upd H p (.tup (GC xs lo hi)))
theorem Qgj:SlR X (QhX X.K):=by
 intro O9 s σ H x v vl vu lo hi sl Q I rx hs pl pu h
 obtain ⟨a,xs,rfl,hx,hw,q⟩:=h
 cases rx
 obtain ⟨its,r,ht,hz⟩:=I.tuple hx
 have hlen:its.toArray.size=xs.length:=by rw [Ao];exact r.length.symm
 refine ⟨"tuple", _,PyProof.Rows.slot_tuple_getitem.lookup,ht.typeIs,?_⟩
 refine HT.getItem_tuple_cut ht hs pl pu (by rw [hlen];exact hw) ?_ (by rw [hlen];exact hz)
 rw [hlen]
 refine ⟨.ref s.heap.objs.size,_,I.laid (t':=s.toks) (o:=.tup (GC xs lo hi)) (fun b ob q=>Ad _ q) (Ae _) ?_,rfl,q _ (I.hok.fresh (Ae _))⟩
 exact ⟨Bj (xK xs lo hi) hz,_,(r.drop (HT.sIx xs.length 0 lo)).take (HT.sIx xs.length xs.length hi - HT.sIx xs.length 0 lo),IsTup.new _ _⟩
def Qhk (K:Aa):R2:=fun x y H Q=>∃ a b xs ys,x=.ref a/\y=.ref b/\SqT K H a xs/\SqT K H b ys/\xs≠[]/\xs.length+ys.length<=sizeLine /\
 (ys=[]->Q (.ref a) H)/\(ys≠[]->∀ p,H p=none->Q (.ref p) (upd H p (.tup (xs++ys))))
theorem Vals.nil_iff {xs:List V} {us:List Value} (r:Vals xs us):us=[]↔xs=[]:=by
 cases r with
 | nil=>simp
 | cons _ _=>simp
theorem QdP:OpR X (binaryOp .Add) (Qhk X.K):=by
 intro O9 s σ H x y v u Q I rx ry h
 obtain ⟨a,b,xs,ys,rfl,rfl,ha,hb,hx,hz,q1,q2⟩:=h
 cases rx
 cases ry
 obtain ⟨its,r1,p1,_⟩:=I.tuple ha
 obtain ⟨its2,r2,p2,_⟩:=I.tuple hb
 refine HT.cat_tup p1 p2 (fun z=>hx (r1.nil_iff.mp z)) (fun z=>⟨.ref a,H,I,rfl,q1 (r2.nil_iff.mp z)⟩) (fun z=>?_) (by rw [<- r1.length,<- r2.length];exact hz)
 refine ⟨.ref s.heap.objs.size,_,I.laid (t':=s.toks) (o:=.tup (xs++ys)) (fun b ob q=>Ad _ q) (Ae _) ?_,rfl,q2 (fun w=>z (r2.nil_iff.mpr w)) _ (I.hok.fresh (Ae _))⟩
 exact ⟨by rw [An];exact hz,_,r1.append r2,IsTup.new _ _⟩
end
def ixN (n:Nat) (i:Int):Option Nat:=if 0<=i then (if i < n then some i.toNat else none) else if -(n:Int)<=i then some (i+n).toNat else none
def atI {α:Type} (xs:List α) (i:Int):Option α:=(ixN xs.length i).bind fun j=>xs[j]?
theorem g9 {n:Nat} {i:Int} {j:Nat} (h:ixN n i=some j):seqIndex? i n=some j/\j < n /\ -(n:Int)<=i/\i < n:=by
 unfold ixN at h
 by_cases h0:0<=i
 ·rw [C9 h0] at h
  by_cases h1:i < n
  ·rw [C9 h1] at h
   have e:i.toNat=j:=Ak h
   exact ⟨by rw [seqIndex_of h0 h1,e],by lia,by lia,h1⟩
  ·rw [C8 h1] at h;cases h
 ·rw [C8 h0] at h
  by_cases h1:-(n:Int)<=i
  ·rw [C9 h1] at h
   have e:(i+n).toNat=j:=Ak h
   exact ⟨by rw [seqIndex_neg (by lia) h1,e],by lia,h1,by lia⟩
  ·rw [C8 h1] at h;cases h
theorem gw {α:Type} {xs:List α} {i:Int} {v:α} (h:atI xs i=some v):∃ j,seqIndex? i xs.length=some j/\xs[j]?=some v/\j < xs.length /\ -(xs.length:Int)<=i/\i < xs.length:=by
  unfold atI at h
  cases e:ixN xs.length i with
  | none=>rw [e] at h;cases h
  | some j =>
    rw [e] at h
    obtain ⟨h1,h2,h3,h4⟩:=g9 e
    exact ⟨j,h1,h,h2,h3,h4⟩
theorem jc {α:Type} {xs:List α} {j:Nat} {v:α} (h:xs[j]?=some v):atI xs (j:Int)=some v:=by
 have hj:j < xs.length:=(Ac.mp h).1
 have e:ixN xs.length (j:Int)=some j:=by
  unfold ixN
  rw [C9 (by lia),C9 (by lia)];simp
 unfold atI;rw [e];exact h
def U9 (b:Expr):Prop:=∀ o i,subscripted b false o i=operate [o,i] (getItem o i)
def IxR (X:Cx) (r:R2):Prop :=
  ∀ (value slice : Expr) (O9 : List (Addr × Obj)) (s : Shared) (σ : St) (H : Hp) (x y : V) (v u : Value) (Q : VK), Inv X O9 σ H s -> RelV x v -> RelV y u -> r x y H Q ->
    subscripted slice false v u=operate [v,u] (getItem v u)->wpAny (model X.prog X.w) X.A (subscriptTail value slice v u) (EP X O9 σ Q) X.xe s
def MtR (X:Cx) (id:String) (r:V->List V->Hp->VK->Prop):Prop :=
  ∀ (O9 : List (Addr × Obj)) (s : Shared) (σ : St) (H : Hp) (x : V) (xs : List V) (v : Value) (us : List Value) (Q : VK), Inv X O9 σ H s -> RelV x v -> Vals xs us -> r x xs H Q ->
    wpAny (model X.prog X.w) X.A (call (.builtin id) (v::us)) (EP X O9 σ Q) X.xe s
section
variable {X:Cx} {a b:Expr} {ta tb:TE} {pos:Pos}
theorem QeS {r:R2} (hr:IxR X r) (ha:PE X a ta) (hb:PE X b tb) (hs:U9 b):PE X (.Subscript a b pos) (tOp r ta tb):=by
 intro O9 s σ H Q I h
 exact Subscript_ (Qe4 ha hb I h fun v u s2 x y H2 I2 rx ry q=>hr a b O9 s2 σ H2 x y v u Q I2 rx ry q (hs _ _))
def QhT (K:Aa):R2:=fun x y H Q=>∃ p xs i v,x=.ref p/\y=.int i/\SqL K H p xs/\atI xs i=some v/\Q v H
def QhU (K:Aa):R2:=fun x y H Q=>∃ p xs i v,x=.ref p/\y=.int i/\SqT K H p xs/\atI xs i=some v/\Q v H
theorem kc:IxR X (QhT X.K):=by
 intro value slice O9 s σ H x y v u Q I rx ry h hs
 obtain ⟨p,xs,i,z,rfl,rfl,hq,he,q⟩:=h
 cases rx
 obtain ⟨t,rfl⟩:=ry
 obtain ⟨its,r,pl,hz⟩:=I.list hq
 obtain ⟨j,h1,h2,h3,h4,h5⟩:=gw he
 obtain ⟨w,ew,rw'⟩:=r.get h2
 have hl:=r.length
 have hn:=KI
 have fin:EP X O9 σ Q w s:=⟨z,H,I,rw',q⟩
 by_cases h0:0<=i
 ·have hj:i.toNat=j:=by
   rw [seqIndex_of h0 h5] at h1
   exact Ak h1
  exact item_listR pl.isList h0 (by lia) (by rw [hj];simpa using ew) fin hs
 ·have hj:(i+(its.toArray.size:Int)).toNat=j:=by
   rw [seqIndex_neg (by lia) h4] at h1
   rw [Ao,<- hl]
   exact Ak h1
  exact subscriptTail_builtinR (x:=w) pl.isList.typeIs slot_list_getitem.lookup
   (wpAny_getItem_list_neg (Q:=fun r s'=>r=w/\EP X O9 σ Q r s') pl.isList (by lia) (by rw [Ao]<;>lia) (by lia) (by rw [hj];simpa using ew) ⟨rfl,fin⟩) hs
theorem Qfo:IxR X (QhU X.K):=by
 intro value slice O9 s σ H x y v u Q I rx ry h hs
 obtain ⟨p,xs,i,z,rfl,rfl,hq,he,q⟩:=h
 cases rx
 obtain ⟨t,rfl⟩:=ry
 obtain ⟨its,r,pl,hz⟩:=I.tuple hq
 obtain ⟨j,h1,h2,h3,h4,h5⟩:=gw he
 obtain ⟨w,ew,rw'⟩:=r.get h2
 have hl:=r.length
 have hn:=KI
 have fin:EP X O9 σ Q w s:=⟨z,H,I,rw',q⟩
 exact subscriptTail_builtinR (x:=w) pl.typeIs slot_tuple_getitem.lookup
  (getItem_tuple (j:=j) (Q:=fun r s'=>r=w/\EP X O9 σ Q r s') pl (by lia) (by lia) (by rw [Ao,<- hl];exact h1) (by simpa using ew) ⟨rfl,fin⟩) hs
theorem uz (its:List Value) (n j:Nat) (u:Value):Obj.mapSeq (·.setIfInBounds j u) { cls:=.type "list", data:=.seq its.toArray n }={ cls:=.type "list", data:=.seq (its.set j u).toArray n }:=by
 simp [Obj.mapSeq]
theorem Inv.lst {H:Hp} {p:Addr} (I:Inv X O9 σ H s) (h:H p=some (.lst xs)):
  ∃ (its:List Value) (n:Nat),Vals xs its/\s.heap.get? p=some { cls:=.type "list", data:=.seq its.toArray n }/\xs.length<=sizeLine:=by
 obtain ⟨z,its,n,r,e⟩:=I.hok p _ h
 exact ⟨its,n,r,e,z⟩
theorem Inv.lstUpd {H:Hp} {p:Addr} {xs ys:List V} {its its':List Value} {n n':Nat} {f:Obj->Obj} (I:Inv X O9 σ H s) (h:H p=some (.lst xs))
  (ho:s.heap.get? p=some { cls:=.type "list", data:=.seq its.toArray n }) (hf:f { cls:=.type "list", data:=.seq its.toArray n }={ cls:=.type "list", data:=.seq its'.toArray n' }) (r:Vals ys its') (hz:ys.length<=sizeLine) (t:Nat) :
  Inv X O9 σ (upd H p (.lst ys)) { s with heap:=s.heap.update p f,toks:=t }:=by
 have e:(s.heap.update p f).get? p=some { cls:=.type "list", data:=.seq its'.toArray n' }:=by
  rw [Heap.get?_update_self f ho (by rw [hf]<;>rfl),hf]
 refine I.write (x:=p) (e:=p) (by rw [h];trivial) (.inl rfl) (fun b u hb q=>(Heap.get?_update_other _ _ (Ne.symm hb)).trans q) ⟨_,e⟩ ?_
 exact ⟨hz,its',n',r,e⟩
def Qho:V->V->V->Hp->(Hp->Prop)->Prop:=fun o i v H Q=>∃ p xs k j,o=.ref p/\i=.int k/\H p=some (.lst xs)/\ixN xs.length k=some j/\Q (upd H p (.lst (xs.set j v)))
theorem QcI:Qc8 X Qho:=by
 intro O9 s σ H o i v ov iv u Q I ro ri rv h
 obtain ⟨p,xs,k,j,rfl,rfl,U,hj,q⟩:=h
 cases ro
 obtain ⟨t,rfl⟩:=ri
 obtain ⟨its,n,r,ho,hz⟩:=I.lst U
 obtain ⟨h1,h2,h3,h4⟩:=g9 hj
 have hl:=r.length
 have hn:=KI
 have I':Inv X O9 σ (upd H p (.lst (xs.set j v))) { s with heap:=s.heap.update p (Obj.mapSeq (·.setIfInBounds j u)) } :=
  I.lstUpd U ho (uz its n j u) (r.set rv j) (by rw [List.length_set];exact hz) s.toks
 by_cases h0:0<=k
 ·have hk:k.toNat=j:=by
   rw [seqIndex_of h0 h4] at h1
   exact Ak h1
  exact PySem.W.ki_setAt ho h0 (by lia) (by rw [Ao,<- hl];exact h4) (by rw [hk];exact ⟨_,I',q⟩)
 ·have hk:(k+(its.toArray.size:Int)).toNat=j:=by
   rw [seqIndex_neg (by lia) h3] at h1
   rw [Ao,<- hl]
   exact Ak h1
  exact PySem.W.ki_setBack ho (by lia) (by rw [Ao,<- hl];exact h3) (by lia) (by rw [hk];exact ⟨_,I',q⟩)
theorem K6 (lo hi:Option Int) (n:Nat):(sliceBounds lo hi none n).1=((HT.sIx n 0 lo:Nat):Int)/\(sliceBounds lo hi none n).2.1=((HT.sIx n n hi:Nat):Int)/\(sliceBounds lo hi none n).2.2=1:=by
  refine ⟨?_,?_,rfl⟩
  . cases lo with
    | none=>simp [sliceBounds,HT.sIx]
    | some i =>
      simp only [sliceBounds,HT.sIx,Option.getD_none,show (1:Int) > 0 by decide,if_true]
      by_cases h:i < 0
      . simp only [h,if_true]<;>lia
      . simp only [h,if_false]<;>lia
  . cases hi with
    | none=>simp [sliceBounds,HT.sIx]
    | some i =>
      simp only [sliceBounds,HT.sIx,Option.getD_none,show (1:Int) > 0 by decide,if_true]
      by_cases h:i < 0
      . simp only [h,if_true]<;>lia
      . simp only [h,if_false]<;>lia
theorem Uo (its:List Value) (lo hi:Option Int):slicePick its.toArray lo hi none=((its.drop (HT.sIx its.length 0 lo)).take (HT.sIx its.length its.length hi - HT.sIx its.length 0 lo)).toArray:=by
 obtain ⟨h1,h2,h3⟩:=K6 lo hi its.toArray.size
 unfold slicePick
 rw [h1,h2,h3]
 simp only [sliceRange_one,pick_run,Ao]<;>rfl
def QhW (K:Aa):V->Option Int->Option Int->Hp->VK->Prop:=fun x lo hi H Q=>∃ a xs,x=.ref a/\SqL K H a xs/\∀ p,H p=none->Q (.ref p) (upd H p (.lst (GC xs lo hi)))
theorem Qeq:SlR X (QhW X.K):=by
 intro O9 s σ H x v vl vu lo hi sl Q I rx hs pl pu h
 obtain ⟨a,xs,rfl,hx,q⟩:=h
 cases rx
 obtain ⟨its,r,ht,hz⟩:=I.list hx
 have hlen:=r.length
 refine ⟨"list", _,slot_list_getitem.lookup,ht.isList.typeIs,?_⟩
 refine wpAny_getItem_list_slice ht.isList hs pl pu .none (by simp) ?_ (by rw [Ao]<;>lia)
 rw [Uo,<- hlen]
 refine ⟨.ref s.heap.objs.size,_,I.laid (t':=s.toks) (o:=.lst (GC xs lo hi)) (fun b ob q=>Ad _ q) (Ae _) ?_,rfl,q _ (I.hok.fresh (Ae _))⟩
 exact ⟨Bj (xK xs lo hi) hz,_,0,(r.drop (HT.sIx xs.length 0 lo)).take (HT.sIx xs.length xs.length hi - HT.sIx xs.length 0 lo),Av _ rfl⟩
def Yf:V->Bool
 | .non=>true
 | .bl _=>true
 | .int _=>true
 | .str _=>true
 | _=>false
def eqV:V->V->Bool
 | .non,.non=>true
 | .bl a,.bl b=>a==b
 | .bl a,.int b=>(if a then 1 else 0)==b
 | .int a,.bl b=>a==(if b then 1 else 0)
 | .int a,.int b=>a==b
 | .str a,.str b=>a==b
 | _,_=>false
theorem Qfh (ry:RelV y u) (rx:RelV x v) (fy:Yf y=true) (fx:Yf x=true):SeqAt.EqAt A s u v (eqV y x):=by
  cases y with
  | non =>
    cases ry
    cases x with
    | non=>cases rx;exact SeqAt.EqAt.same _
    | bl b=>cases rx;exact SeqAt.EqAt.none_bool b
    | int b=>obtain ⟨t,rfl⟩:=rx;exact SeqAt.EqAt.none_int b t
    | str b=>obtain ⟨t,rfl⟩:=rx;exact SeqAt.EqAt.none_str b t
    | _=>exact absurd (show false=true from fx) Bz
  | bl a =>
    cases ry
    cases x with
    | non=>cases rx;exact SeqAt.EqAt.bool_none a
    | bl b=>cases rx;exact SeqAt.EqAt.bool_bool a b
    | int b=>obtain ⟨t,rfl⟩:=rx;exact SeqAt.EqAt.bool_int a b t
    | str b=>obtain ⟨t,rfl⟩:=rx;exact SeqAt.EqAt.bool_str a b t
    | _=>exact absurd (show false=true from fx) Bz
  | int a =>
    obtain ⟨t',rfl⟩:=ry
    cases x with
    | non=>cases rx;exact SeqAt.EqAt.int_none a t'
    | bl b=>cases rx;exact SeqAt.EqAt.int_bool a t' b
    | int b=>obtain ⟨t,rfl⟩:=rx;exact SeqAt.EqAt.int_int a t' b t
    | str b=>obtain ⟨t,rfl⟩:=rx;exact SeqAt.EqAt.int_str a t' b t
    | _=>exact absurd (show false=true from fx) Bz
  | str a =>
    obtain ⟨t',rfl⟩:=ry
    cases x with
    | non=>cases rx;exact SeqAt.EqAt.str_none a t'
    | bl b=>cases rx;exact SeqAt.EqAt.str_bool a t' b
    | int b=>obtain ⟨t,rfl⟩:=rx;exact SeqAt.EqAt.str_int a t' b t
    | str b=>obtain ⟨t,rfl⟩:=rx;exact SeqAt.EqAt.str_str a t' b t
    | _=>exact absurd (show false=true from fx) Bz
  | _=>exact absurd (show false=true from fy) Bz
def eqU (x:V) (u:Value):Bool:=match u with
 | .none=>eqV .non x
 | .bool b=>eqV (.bl b) x
 | .int i _=>eqV (.int i) x
 | .str z _=>eqV (.str z) x
 | _=>false
theorem QbB (r:RelV y u) (f:Yf y=true):eqU x u=eqV y x:=by
 cases y with
 | non=>cases r;rfl
 | bl b=>cases r;rfl
 | int i=>obtain ⟨t,rfl⟩:=r;rfl
 | str z=>obtain ⟨t,rfl⟩:=r;rfl
 | _=>exact absurd (show false=true from f) Bz
theorem jb:∀ {xs:List V} {us:List Value},Vals xs us->xs.all Yf=true->us.any (eqU x)=xs.any fun y=>eqV y x
  | _,_,.nil,_=>rfl
  | y::xs,u::us,.cons r t,f=>by
    rw [C1,Bc] at f
    rw [Cs,Cs,QbB r f.1,jb t f.2]
theorem qL (rx:RelV x v) (fx:Yf x=true):∀ {xs:List V} {us:List Value},Vals xs us->xs.all Yf=true->∀ u∈us,SeqAt.EqAt A s u v (eqU x u)
  | _,_,.nil,_=>fun u hu=>by cases hu
  | y::xs,u::us,.cons r t,f=>fun u' hu=>by
    rw [C1,Bc] at f
    rcases Bk.mp hu with rfl | hu
    . rw [QbB r f.1];exact Qfh r rx f.1 fx
    . exact qL rx fx t f.2 u' hu
def inV (x:V) (xs:List V):Bool:=xs.any fun y=>eqV y x
def rIn (K:Aa) (neg:Bool):R2:=fun x y H Q=>∃ p xs,y=.ref p/\(SqL K H p xs∨SqT K H p xs)/\Yf x=true/\xs.all Yf=true/\Q (.bl (if neg then !inV x xs else inV x xs)) H
theorem QaI:OpR X (compareOp .In) (rIn X.K false):=by
 intro O9 s σ H x y v u Q I rx ry h
 obtain ⟨p,xs,rfl,hq,fx,fs,q⟩:=h
 cases ry
 rcases hq with hq | hq
 ·obtain ⟨its,r,pl,hz⟩:=I.list hq
  refine SeqAt.in_listAt (eqU x) pl.isList (fun w hw=>qL rx fx r fs w (by simpa using hw)) ⟨.bl _,H,I,rfl,?_⟩
  rw [show its.toArray.any (eqU x)=its.any (eqU x) by simp,jb r fs]
  exact q
 ·obtain ⟨its,r,pl,hz⟩:=I.tuple hq
  refine SeqAt.in_tupleAt (eqU x) pl (fun w hw=>qL rx fx r fs w (by simpa using hw)) ⟨.bl _,H,I,rfl,?_⟩
  rw [show its.toArray.any (eqU x)=its.any (eqU x) by simp,jb r fs]
  exact q
theorem KO:OpR X (compareOp .NotIn) (rIn X.K true):=by
 intro O9 s σ H x y v u Q I rx ry h
 obtain ⟨p,xs,rfl,hq,fx,fs,q⟩:=h
 cases ry
 rcases hq with hq | hq
 ·obtain ⟨its,r,pl,hz⟩:=I.list hq
  refine SeqAt.notIn_listAt (eqU x) pl.isList (fun w hw=>qL rx fx r fs w (by simpa using hw)) ⟨.bl _,H,I,rfl,?_⟩
  rw [show its.toArray.any (eqU x)=its.any (eqU x) by simp,jb r fs]
  exact q
 ·obtain ⟨its,r,pl,hz⟩:=I.tuple hq
  refine SeqAt.notIn_tupleAt (eqU x) pl (fun w hw=>qL rx fx r fs w (by simpa using hw)) ⟨.bl _,H,I,rfl,?_⟩
  rw [show its.toArray.any (eqU x)=its.any (eqU x) by simp,jb r fs]
  exact q
theorem YZ:CallR X (.builtin "len") (fun xs H Q=>∃ p ys,xs=[.ref p]/\(SqL X.K H p ys∨SqT X.K H p ys)/\Q (.int ys.length) H):=by
 intro O9 s σ H xs us Q I r h
 obtain ⟨p,ys,rfl,hq,q⟩:=h
 obtain ⟨u,rfl,rx⟩:=VU r
 cases rx
 have hn:=KI
 rcases hq with hq | hq
 ·obtain ⟨its,r',pl,hz⟩:=I.list hq
  have hlen:=r'.length
  exact Calls.call_len_list pl.isList (by simp only [Ao]<;>lia) ⟨.int ys.length,H,I.tok _,⟨s.toks+1,by rw [Ao,hlen]⟩,q⟩
 ·obtain ⟨its,r',pl,hz⟩:=I.tuple hq
  have hlen:=r'.length
  exact len_tuple pl (by simp only [Ao]<;>lia) ⟨.int ys.length,H,I.tok _,⟨s.toks+1,by rw [Ao,hlen]⟩,q⟩
theorem call_list_of:CallR X (.type "list") (fun xs H Q=>∃ p ys,xs=[.ref p]/\(SqL X.K H p ys∨SqT X.K H p ys)/\∀ l,H l=none->Q (.ref l) (upd H l (.lst ys))):=by
 intro O9 s σ H xs us Q I r h
 obtain ⟨p,ys,rfl,hq,q⟩:=h
 obtain ⟨u,rfl,rx⟩:=VU r
 cases rx
 have fin:∀ (its:List Value),Vals ys its->ys.length<=sizeLine->∀ (h':Heap) (c':Nat),(∀ b o',s.heap.get? b=some o'->h'.get? b=some o') ->
   h'.get? s.heap.objs.size=some { cls:=.type "list", dict:=none,data:=.seq its.toArray c',slots:=#[] }->EP X O9 σ Q (.ref s.heap.objs.size) { s with heap:=h' }:=fun its r' hz h' c' kp e =>
  ⟨.ref s.heap.objs.size,_,I.laid (t':=s.toks) kp (Ae _) (show ObjOk X.prog X.w _ h' _ (.lst ys) from ⟨hz,its,c',r',e⟩),rfl,q _ (I.hok.fresh (Ae _))⟩
 rcases hq with hq | hq
 ·obtain ⟨its,r',pl,hz⟩:=I.list hq
  have hlen:=r'.length
  obtain ⟨o,ho,hc,n,hd⟩:=pl.isList
  exact call_list_seq p (.inl rfl) ho hc hd (fun h' c' kp e=>fin its r' hz h' c' kp e) (by simp only [Ao]<;>lia)
 ·obtain ⟨its,r',pl,hz⟩:=I.tuple hq
  have hlen:=r'.length
  obtain ⟨o,ho,hc,n,hd⟩:=pl
  exact call_list_seq p (.inr rfl) ho hc hd (fun h' c' kp e=>fin its r' hz h' c' kp e) (by simp only [Ao]<;>lia)
theorem Yu:CallR X (.type "tuple") (fun xs H Q=>∃ p ys,xs=[.ref p]/\((SqL X.K H p ys/\∀ l,H l=none->Q (.ref l) (upd H l (.tup ys)))∨(SqT X.K H p ys/\Q (.ref p) H))):=by
 intro O9 s σ H xs us Q I r h
 obtain ⟨p,ys,rfl,h⟩:=h
 obtain ⟨u,rfl,rx⟩:=VU r
 cases rx
 rcases h with ⟨hq,q⟩ | ⟨hq,q⟩
 ·obtain ⟨its,r',pl,hz⟩:=I.list hq
  have hlen:=r'.length
  refine call_tuple_list pl.isList (fun h' kp=>?_) (by simp only [Ao]<;>lia)
  have I1:Inv X O9 σ H { s with heap:=h' }:=I.kept (t':=s.toks) kp
  have I2:Inv X O9 σ (upd H h'.objs.size (.tup ys)) { s with heap:=h'.push { cls:=.type "tuple", data:=.seq its.toArray } } :=
   I1.laid (t':=s.toks) (fun b o e=>Ad _ e) (Ae _) (show ObjOk X.prog X.w _ _ _ (.tup ys) from ⟨hz,its,r',IsTup.new _ _⟩)
  exact ⟨.ref h'.objs.size,_,I2,rfl,q _ (I1.hok.fresh (Ae _))⟩
 ·obtain ⟨its,r',pl,hz⟩:=I.tuple hq
  exact call_tuple_same pl ⟨.ref p,H,I,rfl,q⟩
def tyV (K:Aa) (T:String) (x:V) (H:Hp):Prop:=match x with
 | .str _=>T = "str"
 | .int _=>T = "int"
 | .ref p=>(T = "list" /\ ∃ xs,SqL K H p xs)∨(T = "tuple" /\ ∃ o,K.lookup p=some o/\o.cls=.type "tuple" /\ o.dict=none) ∨
   (T = "dict" /\ ((∃ kvs,H p=some (.dK kvs))∨∃ kvs,H p=some (.dT kvs)))∨(T = "set" /\ ∃ S n,H p=some (.set S n))
 | _=>False
theorem Qc0 {T:String} (I:Inv X O9 σ H s) (r:RelV x v) (ty:tyV X.K T x H):
    s.TypeIs v T/\∀ a,v=.ref a->∃ ob,s.heap.get? a=some ob/\ob.dict=none:=by
  cases x with
  | str z =>
    obtain ⟨t,rfl⟩:=r
    cases (show T = "str" from ty)
    exact ⟨typeIs_str s z t,fun _ e=>nomatch e⟩
  | int i =>
    obtain ⟨t,rfl⟩:=r
    cases (show T = "int" from ty)
    exact ⟨typeIs_int s i t,fun _ e=>nomatch e⟩
  | ref p =>
    cases r
    rcases ty with ⟨rfl,xs,hq⟩ | ⟨rfl,o,hk,hc,hd⟩ | ⟨rfl,hk⟩ | ⟨rfl,S,n,hk⟩
    . obtain ⟨its,_,pl,_⟩:=I.list hq
      refine ⟨pl.isList.typeIs,fun a e=>?_⟩
      cases e
      obtain ⟨o,n,e,c,hd,_⟩:=pl
      exact ⟨o,e,hd⟩
    . refine ⟨⟨o,I.kIn p o hk,hc⟩,fun a e=>?_⟩
      cases e
      exact ⟨o,I.kIn _ o hk,hd⟩
    . have z:∃ o,s.heap.get? p=some o/\o.ExactDict:=by
        rcases hk with ⟨kvs,hk⟩ | ⟨kvs,hk⟩
        . obtain ⟨_,_,_,_,o,_,_,e,ex,_⟩:=I.hok p _ hk
          exact ⟨o,e,ex⟩
        . obtain ⟨_,_,_,_,o,_,_,e,ex,_⟩:=I.hok p _ hk
          exact ⟨o,e,ex⟩
      obtain ⟨o,e,ex⟩:=z
      refine ⟨⟨o,e,ex.1⟩,fun a e2=>?_⟩
      cases e2
      exact ⟨o,e,ex.2.1⟩
    . obtain ⟨o,_,_,_,e,ex,_⟩:=I.hok p _ hk
      refine ⟨⟨o,e,ex.1⟩,fun a e2=>?_⟩
      cases e2
      exact ⟨o,e,ex.2.1⟩
  | _=>exact False.elim ty
def Qh0 (K:Aa) (T:String) (r:V->List V->Hp->VK->Prop) (to:TE):TE:=fun σ H Q=>to σ H fun x H1=>tyV K T x H1/\r x [] H1 Q
def tBM (K:Aa) (T:String) (r:V->List V->Hp->VK->Prop) (to:TE) (t:TA):TE:=fun σ H Q=>to σ H fun x H1=>tyV K T x H1/\t σ H1 fun xs H2=>r x xs H2 Q
variable {o e:Expr} {es:List Expr} {to:TE} {t:TA} {name:Str} {apos cpos:Pos} {T id:String} {r:V->List V->Hp->VK->Prop}
theorem QfR (pa:PlainAttrs T) (slot:Slot T name id) (hty:typeOf (.builtin id)=pure (.type "method_descriptor")) (hm:MtR X id r) (ho:PE X o to)
  (hbase:attributeBase o name X.env (eval o X.env)=eval o X.env:=by rfl) (hline:(apos.endLine==cpos.line)=true:=by rfl):PE X (.Call (.Attribute o name apos) [] [] cpos) (Qh0 X.K T r to):=by
 intro O9 s σ H Q I h
 refine wpAny_Call_method0_late hbase hline (thn (ho O9 s σ H _ I h) fun v s1 ⟨x,H1,I1,r1,ty,q1⟩=>?_)
 obtain ⟨h1,h2⟩:=Qc0 I1 r1 ty
 exact ⟨T,id,pa,slot,hty,h1,h2,Calls.callWith_builtin rfl (PySem.evalArgs_none (hm O9 s1 σ H1 x [] v [] Q I1 r1 .nil q1))⟩
theorem Qhf (pa:PlainAttrs T) (slot:Slot T name id) (hty:typeOf (.builtin id)=pure (.type "method_descriptor")) (hm:MtR X id r) (ho:PE X o to) (ha:PA X (e::es) t)
  (hbase:attributeBase o name X.env (eval o X.env)=eval o X.env:=by rfl)
  (hfew:((backTo cpos (starEach (e::es) X.env)).all (fun x=>!x.1)&&(backToKw cpos (keywordEach [] X.env)).all (fun x=>x.1.isSome)
   && decide ((e::es).length+([]:List Keyword).length+(if ([]:List Keyword).isEmpty then 0 else 1) < 30))=true:=by rfl)
  (hline:(apos.endLine==cpos.line)=true:=by rfl) (hs:starEach (e::es) X.env=(false,eval e X.env)::starEach es X.env:=by rfl) (hplain:(backTo cpos (starEach es X.env)).any (·.1)=false:=by rfl) :
  PE X (.Call (.Attribute o name apos) (e::es) [] cpos) (tBM X.K T r to t):=by
 intro O9 s σ H Q I h
 refine wpAny_Call_method_late hbase hfew hline rfl (thn (ho O9 s σ H _ I h) fun v s1 ⟨x,H1,I1,r1,ty,q1⟩=>?_)
 obtain ⟨h1,h2⟩:=Qc0 I1 r1 ty
 refine ⟨T,id,pa,slot,hty,h1,h2,?_⟩
 have hA:=ha cpos O9 s1 σ H1 _ I1 q1
 rw [hs] at hA ⊢
 refine Calls.callWith_builtin (by show (false||(backTo cpos (starEach es X.env)).any (·.1))=false;rw [hplain]<;>rfl) (Calls.evalArgs_plain ?_)
 exact thn hA fun us s2 ⟨vs,H2,I2,r2,q2⟩=>hm O9 s2 σ H2 x vs v us Q I2 r1 r2 q2
/- xs.append(e),list.index on a module's tuple .. are MtR facts of 06m -/
end
def MtM (X:Cx) (id:String) (r:V->List V->Hp->VK->Prop):Prop :=
  ∀ (O9 : List (Addr × Obj)) (s : Shared) (σ : St) (H : Hp) (x : V) (xs : List V) (v : Value) (us : List Value) (Q : VK), Inv X O9 σ H s -> RelV x v -> Vals xs us -> r x xs H Q ->
    wpAny (model X.prog X.w) X.A (call (.builtin id) (v::us)) (EP X O9 σ Q) X.xe s
theorem Vals.one:∀ {x:V} {us:List Value},Vals [x] us->∃ u,us=[u]/\RelV x u
 | _,_,.cons r .nil=>⟨_,rfl,r⟩
theorem Vals.zero:∀ {us:List Value},Vals [] us->us=[]
 | _,.nil=>rfl
theorem Vals.dropLast {xs:List V} {us:List Value} (h:Vals xs us):Vals xs.dropLast us.dropLast:=by
  induction h with
  | nil=>exact .nil
  | cons r t ih =>
    cases t with
    | nil=>exact .nil
    | cons q t'=>exact .cons r ih
theorem ue {α:Type} (l:List α):l.eraseIdx (l.length - 1)=l.dropLast:=by
  induction l with
  | nil=>rfl
  | cons a r ih =>
    cases r with
    | nil=>rfl
    | cons b r =>
      have e:(a::b::r).length - 1=((b::r).length - 1)+1:=by
        have h1:(a::b::r).length=r.length+2:=rfl
        have h2:(b::r).length=r.length+1:=rfl
        lia
      rw [e,List.eraseIdx_cons_succ,ih]
      all_goals rfl
section
variable {X:Cx} {O9:Ei} {σ:St} {H:Hp} {s:Shared} {l b:Addr} {xs ys zs:List V}
theorem Inv.lset {its its':List Value} {n:Nat} {f:Array Value->Array Value} {t':Nat} (I:Inv X O9 σ H s) (hH:H l=some (.lst xs))
  (e:s.heap.get? l=some { cls:=.type "list", data:=.seq its.toArray n }) (hf:f its.toArray=its'.toArray) (hv:Vals ys its') (hz:ys.length<=sizeLine) :
  Inv X O9 σ (upd H l (.lst ys)) { s with heap:=s.heap.update l (Obj.mapSeq f),toks:=t' }:=by
 have q:=PySem.IsL.update e f
 rw [hf] at q
 refine I.write (x:=l) (e:=l) (by rw [hH];exact trivial) (.inl rfl) (fun b' u hb hu=>(Heap.get?_update_other s.heap (Obj.mapSeq f) (Ne.symm hb)).trans hu) ⟨_,q⟩ ?_
 exact ⟨hz,its',_,hv,q⟩
theorem Inv.lnew {t':Nat} (I:Inv X O9 σ H s) (hv:Vals ys its) (hz:ys.length<=sizeLine):
  Inv X O9 σ (upd H s.heap.objs.size (.lst ys)) { s with heap:=s.heap.push { cls:=.type "list", data:=.seq its.toArray },toks:=t' } :=
 I.laid (fun _ _ q=>Ad _ q) (Ae _) ⟨hz,its,0,hv,Av _ rfl⟩
def Inv.fresh (I:Inv X O9 σ H s):H s.heap.objs.size=none:=I.hok.fresh (Ae _)
theorem Inv.lstM (I:Inv X O9 σ H s) (hH:H l=some (.lst xs)):xs.length<=sizeLine/\∃ (its:List Value) (n:Nat),Vals xs its/\xs.length=its.length/\s.heap.get? l=some { cls:=.type "list", data:=.seq its.toArray n }:=by
 obtain ⟨z,its,n,r,e⟩:=I.hok l _ hH
 exact ⟨z,its,n,r,r.length,e⟩
theorem Qb8 {n:Nat} (h:n<=sizeLine):Builtin.List.listTooLong n=false:=by
 unfold Builtin.List.listTooLong
 exact Ef (by lia)
end
section
variable {X:Cx}
def Qed:V->List V->Hp->VK->Prop:=fun x vs H Q=>∃ l xs y,x=.ref l/\vs=[y]/\H l=some (.lst xs)/\xs.length < sizeLine/\Q .non (upd H l (.lst (xs++[y])))
theorem UN:MtM X "list.append" Qed:=by
 intro O9 s σ H x vs v us Q I rx rv h
 obtain ⟨l,xs,y,rfl,rfl,hH,hz,q⟩:=h
 cases rx
 obtain ⟨u,rfl,ru⟩:=rv.one
 obtain ⟨z,its,n,r,hl,e⟩:=I.lstM hH
 refine call_meets F.slot_list_append ⟨_,e,rfl⟩ F.entry_list_append (F.args_list_append_2 _ _) (PySem.list_append l its.toArray n u (by rw [Ao];lia)) ⟨e,?_⟩
 refine ⟨.non,_,I.lset (its':=its++[u]) hH e (by simp) (r.append (.cons ru .nil)) ?_,rfl,q⟩
 rw [An,List.length_singleton]
 lia
def Qee:V->List V->Hp->VK->Prop:=fun x vs H Q=>∃ l b xs zs,x=.ref l/\vs=[.ref b]/\H l=some (.lst xs)/\H b=some (.lst zs)/\xs.length+zs.length<=sizeLine/\Q .non (upd H l (.lst (xs++zs)))
theorem QaG:MtM X "list.extend" Qee:=by
 intro O9 s σ H x vs v us Q I rx rv h
 obtain ⟨l,b,xs,zs,rfl,rfl,hH,hB,hz,q⟩:=h
 cases rx
 obtain ⟨u,rfl,ru⟩:=rv.one
 cases ru
 obtain ⟨z,its,n,r,hl,e⟩:=I.lstM hH
 obtain ⟨z2,its2,n2,r2,hl2,e2⟩:=I.lstM hB
 have hsz:its.toArray.size+its2.toArray.size<=sizeLine:=by rw [Ao,Ao];lia
 have hlong:¬ (!its.toArray.isEmpty&&Builtin.List.listTooLong (its.toArray.size+its2.toArray.size))=true:=by
  rw [Qb8 hsz,Bool.and_false]
  exact Bz
 refine call_meets F.slot_list_extend ⟨_,e,rfl⟩ F.entry_list_extend (F.args_list_extend_2 _ _)
  (AutoSeq1.list_extend_list_list_0 l its.toArray n b its2.toArray n2 hlong (by rw [Ao];lia) (by lia)) ⟨e,e2,?_⟩
 refine ⟨.non,_,I.lset (its':=its++its2) hH e (by simp) (r.append r2) ?_,rfl,q⟩
 rw [An]
 lia
def QhV:V->List V->Hp->VK->Prop:=fun x vs H Q=>∃ l xs y,x=.ref l/\vs=[]/\H l=some (.lst xs)/\xs[xs.length - 1]?=some y/\Q y (upd H l (.lst xs.dropLast))
theorem QhO:MtM X "list.pop" QhV:=by
 intro O9 s σ H x vs v us Q I rx rv h
 obtain ⟨l,xs,y,rfl,rfl,hH,hy,q⟩:=h
 cases rx
 have hus:=rv.zero
 subst hus
 obtain ⟨z,its,n,r,hl,e⟩:=I.lstM hH
 obtain ⟨u,hu,ru⟩:=r.get hy
 have hy':its.toArray[its.toArray.size - 1]?=some u:=by
  show its.toArray[its.length - 1]?=some u
  rw [<- Array.getElem?_toList,<- hl]
  exact hu
 refine call_meets F.slot_list_pop ⟨_,e,rfl⟩ F.entry_list_pop (F.args_list_pop_1 _) (MeetsSeq.list_pop_last l its.toArray n u hy' (by rw [Ao];lia)) ⟨e,?_⟩
 refine ⟨y,_,I.lset (its':=its.dropLast) hH e ?_ r.dropLast ?_,ru,q⟩
 ·show its.toArray.eraseIdxIfInBounds (its.toArray.size - 1)=its.dropLast.toArray
  rw [Ao,List.eraseIdxIfInBounds_toArray,ue]
 ·rw [List.length_dropLast]
  lia
def Qgh:V->List V->Hp->VK->Prop:=fun x vs H Q=>∃ l xs,x=.ref l/\vs=[]/\H l=some (.lst xs)/\Q .non (upd H l (.lst []))
theorem Qb3:MtM X "list.clear" Qgh:=by
 intro O9 s σ H x vs v us Q I rx rv h
 obtain ⟨l,xs,rfl,rfl,hH,q⟩:=h
 cases rx
 have hus:=rv.zero
 subst hus
 obtain ⟨z,its,n,r,hl,e⟩:=I.lstM hH
 refine call_meets F.slot_list_clear ⟨_,e,rfl⟩ F.entry_list_clear (F.args_list_clear_1 _) (AutoSeq1.list_clear_list_0 l its.toArray n (by rw [Ao];lia)) ⟨e,?_⟩
 exact ⟨.non,_,I.lset (its':=[]) (ys:=[]) hH e rfl .nil (Be _),rfl,q⟩
end
section
variable {prog:Program} {w:World} {A:Around} {E:Eh} {s:Shared}
end
section
variable {X:Cx}
end
end L2
namespace Att
open PySem PySem.W PySem.Calls PyProof.Rows
theorem yn:∀ (ns:List Int) (vs:List Value),WellAll P h vs (ns.map WData.int)->IntsAre vs ns:=by
  intro ns
  induction ns with
  | nil =>
    intro vs w
    rw [List.map_nil] at w
    cases w
    exact .nil
  | cons n ns ih =>
    intro vs w
    rw [Bb] at w
    cases w with
    | cons a b =>
      cases a
      exact .cons _ _ (ih _ b)
theorem QaX {l:OpenLaw} {n:Nat} (hn:l.most=some n) {P:Params} {h:Heap} {args:List WData} {vals:List Value}
    (hpre:l.row.toRowW.claim.pre args=true) (hwl:WellAll P h vals args) :
    ∃ a vs ns,vals=[Value.ref a]/\args=[WData.list (ns.map WData.int)]/\h.get? a=some { cls:=.type "list", data:=.seq vs.toArray }/\IntsAre vs ns/\ns.length<=n:=by
  have hsh:WShape.hasAll [] args [.list .int]=true:=(pre_splitW hpre).1
  have hc:l.pre.holds [] { args:=args }=true:=(pre_splitW hpre).2
  obtain ⟨d,r,rfl,h1,h2⟩:=hasAllW_cons hsh
  obtain rfl:=hasAllW_nil h2
  obtain ⟨xs,rfl,h3⟩:=hasW_list h1
  obtain ⟨ns,rfl⟩:=items_int h3
  have hlen:ns.length<=n:=by
    unfold OpenLaw.pre at hc
    have h4:(WTm.not (.lt (.lit (.int (n:Int))) (.len (.arg 0)))).holds [] { args:=[.list (ns.map .int)] }=true:=by
      have h4:=(holds_andW hc).1
      rw [hn] at h4
      exact h4
    have h5:=condW_of h4 (w_not (w_lt w_lit (w_len_list (w_arg rfl))))
    rw [Br] at h5
    refine Cz fun q=>?_
    have q':(n:Int) < ((ns.length:Nat):Int):=by lia
    first
      | (rw [Ed q'] at h5;exact absurd h5 (by decide))
      | (simp at h5;lia)
  cases hwl with
  | cons w1 w2 =>
    cases w2
    cases w1 with
    | list ho hall=>exact ⟨_,_,ns,rfl,rfl,ho,yn ns _ hall,hlen⟩
theorem QaP (l:OpenLaw) (args:List WData):l.row.toRowW.claim.post args (.bool true) args=true :=
 postW_of (r:=l.row.toRowW) (X:=(true==true))
  (show WShape.has [] (.bool true) .bool=true by first | rfl | decide | simp [WShape.has,WShape.arms,WShape.armsAll])
  (show (WTm.eq .res (.lit (.bool true))).value [] { args:=args,res:=some (.bool true),after:=args }=some (.bool (true==true)) from w_eq_bool (w_res rfl) w_lit) rfl
theorem attach_call {l:OpenLaw} {n:Nat} {q:Program} {loose:List Str} {XP:(Ej)->Heap->Prop} {YP:World->Heap->Prop} {d:DefRec}
  (hn:l.most=some n) (hdf:d.params.defaults=[])
  (call:∀ (w:World) (s₀ s₁:Shared) (mg mb:Ej) (fa:Addr) (o:Obj) (pm cd doc:Value) (a:Addr) (vs:List Value) (ns:List Int),
   Ground q loose [] XP w s₀ mg mb s₁.heap->YP w s₁.heap ->
   s₁.heap.get? fa=some o->o.data=.func (docDef d.name d.params d.body d.scope pm cd doc)->s₁.heap.CodeRec cd d.name->mg d.name=some (.ref fa) ->
   s₁.heap.get? a=some { cls:=.type "list", data:=.seq vs.toArray }->IntsAre vs ns->ns.length<=n->s₁.gens = #[] ->
   codeAny (model l.prog w) callerA (.call (.ref fa) ⟨[.ref a],[]⟩) (fun r s'=>r=.ok (.ret (.bool true))/\OldK s₁.heap s'.heap/\s'.os=s₁.os/\AllBare s'.gens) s₁) :
  WalkO q loose XP YP l.row.toRowW d [] (fun f vs=>PySem.call f vs):=by
 intro w s₀ s₁ mg mb G Y fa o pm cd doc dV kV ho hd hcd hD hmg hg args vals as hpre hlay hrd hwl hlo
 obtain rfl:dV=.none:=Dflts.none hD hdf
 obtain rfl:kV=.none:=Dflts.noKw hD
 obtain ⟨a,vs,ns,rfl,rfl,hobj,hints,hlen⟩:=QaX hn hpre hwl
 refine enter_call (codeAny_mono (call w s₀ s₁ mg mb fa o pm cd doc a vs ns G Y ho (fd_plain hd) hcd hmg hobj hints hlen hg) fun r s' hq=>?_)
 obtain ⟨rfl,h2,h3,h4⟩:=hq
 exact ⟨.inl ⟨.bool true,.bool true,[],rfl,fun _=>rfl,.bool true,QaP l _,fun _=>⟨List.Pairwise.nil,fun _ hm=>(nomatch hm)⟩⟩,h2,h3,h4⟩
section
variable {prog:Program} {w:World} {A:Around} {E:Eh} {s:Shared} {K:Frag}
def QhN (h:Heap) (L d:Addr):List (Addr×Obj):=(List.range h.objs.size).filterMap fun a=>if a=L∨a=d then none else (h.get? a).map fun o=>(a,o)
end
end Att
namespace L2
open PySem PySem.Spec PyProof.Rows
theorem YN:∀ {vs:List Value} {ns:List Int},IntsAre vs ns->Vals (ns.map V.int) vs
 | _,_,.nil=>.nil
 | _,_,.cons n t h=>.cons ⟨t,rfl⟩ (YN h)
def Qe0 (H:Hp):Prop:=∀ b,H b=none∨∃ o xs,H b=some (.frz o (.lst xs))
theorem QbQ {P:Program} {w:World} {K:Aa} {mg mb:Ej} {CX:CXT} {k:Nat} {fa a:Addr} {fd:FuncData} {x:Str} {sp:Sp} {s₁:Shared} {vs:List Value} {ns:List Int}
    (KX:K.In s₁.heap) (hns:s₁.heap.Ns mainGlobals mg) (hb:s₁.heap.Ns builtinsNs mb) (hbb:∀ x:Str,x ≠ "__name__" -> mb x=bootBuiltins x) (hlim:s₁.heap.NoLimit) (hg:s₁.gens = #[])
    (ha:s₁.heap.get? a=some { cls:=.type "list", data:=.seq vs.toArray }) (hi:IntsAre vs ns) (hl:ns.length<=sizeLine) (hr:Room k callerA)
    (F:∀ O8:Heap,K.In O8->O8.Ns mainGlobals mg->qy P w K mg O8 CX k fa fd [x] sp) (hbind:∀ (s:Shared) (u:Value),BindsTo s fd ⟨[u],[]⟩ [(x,u)])
    (hsp:∀ H:Hp,Qe0 H->SqL K H a (ns.map V.int)->sp [.ref a] H (fun v _=>v=.bl true) fun _ _ _=>False)
    (hCX:∀ H e s',CX [] H s₁ (fun _ _ _=>False) e s'->False) :
    codeAny (model P w) callerA (.call (.ref fa) ⟨[.ref a],[]⟩) (fun r s'=>r=.ok (.ret (.bool true))/\OldK s₁.heap s'.heap/\s'.os=s₁.os/\AllBare s'.gens) s₁:=by
  have rv:=YN hi
  have lenV:=hi.length
  have core:∀ H:Hp,Qe0 H->SqL K H a (ns.map V.int)->HOk P w H s₁.heap->(∀ b,H b≠none->b=a)->(H a≠none->K.lookup a=none) ->
      codeAny (model P w) callerA (.call (.ref fa) ⟨[.ref a],[]⟩) (fun r s'=>r=.ok (.ret (.bool true))/\OldK s₁.heap s'.heap/\s'.os=s₁.os/\AllBare s'.gens) s₁:=by
    intro H hO hS hok hA hK
    have base_of:∀ {b:Addr} {o:Obj},s₁.heap.get? b=some o->H b=none->(Kw s₁.heap H).get? b=some o:=fun e n=>QbK e n
    have noA:∀ {b:Addr} {o:Obj} {es:Array DictEntry} {ep:Nat},s₁.heap.get? b=some o->o.data=.dict es ep->H b=none:=fun {b o es ep} e d=>by
      cases q:H b with
      | none=>rfl
      | some u =>
        have e':b=a:=hA b (by rw [q];simp)
        subst e'
        rw [ha] at e;cases e
        have d':Data.seq vs.toArray _=Data.dict es ep:=d
        cases d'
    have nsK:∀ {b:Addr} {m:Ej},s₁.heap.Ns b m->(Kw s₁.heap H).Ns b m:=fun {b m} ⟨o,es,ep,e,d,r⟩=>⟨o,es,ep,base_of e (noA e d),d,r⟩
    have hKb:K.In (Kw s₁.heap H):=fun b o e=>base_of (KX b o e) (by
      cases q:H b with
      | none=>rfl
      | some u =>
        have e':b=a:=hA b (by rw [q];simp)
        subst e'
        rw [hK (by rw [q];simp)] at e;cases e)
    have hM:Mod K mg (Kw s₁.heap H):=⟨hKb,nsK hns,⟨mb,nsK hb,hbb⟩,let ⟨mc,h1,h2⟩:=hlim;⟨mc,nsK h1,h2⟩⟩
    have e0:Env0 P w K mg (Kw s₁.heap H) callerA [] s₁ H:=⟨rfl,hM,fun b o e=>QdN e,Nat.le_of_eq (Qau _ _),trivial,fun b hb=>absurd (show b∈([]:Ep) from hb) (by simp),hok,.of_eq hg⟩
    refine codeAny_mono ((F _ hKb (nsK hns)).run callerA [] s₁ H ⟨[.ref a],[]⟩ [.ref a] [.ref a] _ _ hr e0 (hbind s₁ (.ref a)) (.cons rfl .nil) (hsp H hO hS)) fun r s' h=>?_
    cases r with
    | error e=>exact (hCX H e s' h).elim
    | ok fl =>
      cases fl with
      | next=>exact False.elim h
      | brk=>exact False.elim h
      | cont=>exact False.elim h
      | ret u =>
        obtain ⟨v,H',os,bare,un,hok',r',q⟩:=h
        have q':v=.bl true:=q
        subst q'
        obtain rfl:u=Value.bool true:=r'
        refine ⟨rfl,OldK.of_keep fun b o e=>?_,os,bare⟩
        cases q:H b with
        | none=>exact un.keep b o e q (by intro z;exact absurd (show b∈([]:Ep) from z) (by simp)) (by simp)
        | some u =>
          rcases hO b with z | ⟨ob,xs,z⟩
          . rw [q] at z;cases z
          . have z2:=un.frzs b ob _ z
            obtain ⟨e1,_⟩:=hok b _ z
            obtain ⟨e2,_⟩:=hok' b _ z2
            rw [e] at e1;cases e1
            exact e2
  cases hk:K.lookup a with
  | some o =>
    have e:=KX a o hk
    rw [ha] at e
    cases e
    refine core (fun _=>none) (fun _=>.inl rfl) (.inr ⟨_,vs.toArray,_,hk,rfl,rfl,rfl,by rw [Ao,lenV];exact hl,by simpa using rv⟩) (fun b u z=>by have z':(none:Option HO)=some u:=z;cases z') (fun b z=>absurd rfl z) fun z=>absurd rfl z
  | none =>
    refine core (fun b=>if b=a then some (.frz { cls:=.type "list", data:=.seq vs.toArray } (.lst (ns.map V.int))) else none) (fun b=>?_) (.inl (.inr ⟨{ cls:=.type "list", data:=.seq vs.toArray },C9 rfl⟩)) (fun b u z=>?_) (fun b z=>?_) fun _=>hk
    . by_cases hb:b=a
      . exact .inr ⟨_,_,C9 hb⟩
      . exact .inl (C8 hb)
    . by_cases hb:b=a
      . have z':=(C9 hb).symm.trans z
        cases z'
        subst hb
        exact ⟨ha,by rw [Br];exact hl,vs,_,rv,ha⟩
      . have z':=(C8 hb).symm.trans z
        cases z'
    . by_cases hb:b=a
      . exact hb
      . exact absurd (C8 hb) z
theorem kU {l:PySem.W.OpenLaw} {n k:Nat} {q:Program} {loose:List Str} {XP:(Ej)->Heap->Prop} {YP:World->Heap->Prop} {d:DefRec} {K:Params->Aa} {CX:World->CXT} {sp:World->Sp} {x:Str}
    (hn:l.most=some n) (hn2:n<=sizeLine) (hdf:d.params.defaults=[]) (hr:Room k callerA)
    (hY:∀ (w:World) (h:Heap),YP w h->(K w.params).In h)
    (F:∀ (w:World) (mg:Ej) (fa:Addr) (h:Heap),(K w.params).In h->h.Ns mainGlobals mg->mg d.name=some (.ref fa) ->
      ∃ fd : FuncData, (∀ (s : Shared) (u : Value), BindsTo s fd ⟨[u], []⟩ [(x, u)]) /\
        ∀ O8:Heap,(K w.params).In O8->O8.Ns mainGlobals mg->qy l.prog w (K w.params) mg O8 (CX w) k fa fd [x] (sp w))
    (hsp:∀ (w:World) (H:Hp) (a:Addr) (ns:List Int),ns.length<=n->Qe0 H->SqL (K w.params) H a (ns.map V.int)->sp w [.ref a] H (fun v _=>v=.bl true) fun _ _ _=>False)
    (hCX:∀ (w:World) (H:Hp) (s:Shared) (e:Value) (s':Shared),CX w [] H s (fun _ _ _=>False) e s'->False) :
    PySem.W.WalkO q loose XP YP l.row.toRowW d [] (fun f vs=>PySem.call f vs):=by
  refine Att.attach_call hn hdf fun w s₀ s₁ mg mb fa o pm cd doc a vs ns G Y ho hd hcd hmg hobj hints hlen hg=>?_
  have KX:=hY w _ Y
  obtain ⟨fd,hb,hF⟩:=F w mg fa _ KX G.T.g hmg
  exact QbQ KX G.T.g G.T.b G.T.builtins G.T.nolimit hg hobj hints (Bj hlen hn2) hr hF hb (fun H hO hS=>hsp w H a ns hlen hO hS) fun H e s'=>hCX w H s₁ e s'
end L2
/- THE LAST THEOREM (shape; LID, My.* are yours):
   My.Adr: a structure of the addresses that your layer names (classes,functions);My.Txt K t: a structure (Prop) of the equations over K;
   My.txt_mk:{K} {implicit addresses ..} (e1:nsIn K mainGlobals "law" = some (some (.ref f))) (e2:K.lookup f=some ⟨oc,od,.func (fnOf "law" "law" params body scope dV kV doc pm an cdv ct),sl⟩) (e3:codeIn K cdv "law" = true) ..:∃ t,My.Txt K t
set_option maxRecDepth 100000 in
set_option maxHeartbeats 0 in
theorem PySem.Challenge.cw_LID_holds : PySem.Challenge.rw_LID.Holds := by
 w_on;o_law;k_head;(case hw=>w_witness2)
 k_fill
 refine L2.kU (l:=PySem.Challenge.rw_LID) (n:=63) (k:=40) (x := "script") (CX:=fun w=>..) (sp:=fun _=>My.sp_law) rfl (by decide) rfl ⟨rfl,by decide,by decide⟩ (fun w h Y=>PySem.W.kIn_of Y) ?F ?S ?C
 case F =>
  intro w mg fa h KX G hmg
  have T:∃ t,My.Txt (L2.KOf KX) t:=by
   dsimp only [L2.KOf]                          -- K must stand as «<heap const> w.params» for k_is
   refine' My.txt_mk ?e1 ?e2 ?e3 ..
   (case e1=>PySem.W.k_is)                    -- in the order: a name->its address->its object->its parts
   (case e2=>PySem.W.k_is)
   ..
  obtain ⟨t,T⟩:=T
  have e0:=hmg.symm.trans (PySem.W.mg_of KX G T.law)
  cases e0                                       -- fa is the law's own address
  exact ⟨_,fun s u=>.of_eq rfl,fun O8 kb nb=>My.law_fn T kb nb⟩     -- if «.of_eq rfl» comes too early: refine' ⟨_,?b,fun O8 kb nb=>My.law_fn T kb nb⟩;exact fun s u=>.of_eq rfl
 case S=>exact fun w H a ns hl hO hS=>..
 case C=>exact ..
(the tactic k_is has no namespace: write k_is) -/
namespace L2
open PySem PySem.Spec PyProof.Rows
def Zt (s:Stmt) (j:Nat):Stmt:=match s with
 | .ClassDef _ _ _ body _ _ _ _ _ _ _=>body.getD j (.Pass ⟨0,0,0,0⟩)
 | _=>.Pass ⟨0,0,0,0⟩
def JE (s:Stmt):Arguments:=match s with
 | .FunctionDef _ a _ _ _ _ _ _ _ _=>a
 | _=>{ posonlyargs:=[],args:=[],vararg:=none,kwonlyargs:=[],kw_defaults:=[],kwarg:=none,defaults:=[] }
def ZG (s:Stmt):List Stmt:=match s with
 | .FunctionDef _ _ b _ _ _ _ _ _ _=>b
 | _=>[]
def Qp (s:Stmt):Scope:=match s with
 | .FunctionDef _ _ _ _ _ _ sc _ _ _=>sc
 | _=>{ kind:=.function,names:=[],isGenerator:=false,isCoroutine:=false }
abbrev CX0:CXT:=fun _ _ _ _ _ _=>False
abbrev E0:XK:=fun _ _ _=>False
def Qx:Ys CX0 X E0:=fun _ _ _ _ _ _ _ h=>h.elim
structure Fun (K:Aa) (x qual:Str) (st:Stmt) (f:Addr) (fd:FuncData):Prop where
 ex:∃ (oc:Value) (od:Option Addr) (kV doc pm:Value) (an:Option Addr) (cdv ct:Value) (osl:Array (Option Value)),
  fd=PySem.W.fnOf x qual (JE st) (ZG st) (Qp st) .none kV doc pm an cdv ct/\K.lookup f=some ⟨oc,od,.func fd,osl⟩/\PySem.W.codeIn K cdv qual=true
 kp:PySem.W.keepIn K (.ref f)=true
section
variable {P:Program} {w:World} {K:Aa} {mg:Ej} {O8:Heap}
theorem Fun.ok {x qual:Str} {st:Stmt} {f:Addr} {fd:FuncData} {N ps:List Str} {k:Nat} {sp:Sp} (F:Fun K x qual st f fd) (S:Qv N ps (Qp st)) (len:∀ vs H Q E,sp vs H Q E->vs.length=ps.length)
  (hbody:∀ (cdv:Value) (A:Around) (outer:List Env) (s:Shared) (H:Hp) (vs:List V) (Q:VK) (E:XK),Room k (A.deeper (envOfC qual (Qp st) s.heap.objs.size f cdv))->sp vs H Q E ->
   ∃ t,PSs (yh CX0 P w K mg O8 N qual (Qp st) f cdv A outer s H E).nox (ZG st) t/\t { nx:=fun _ H'=>Q .non H',rt:=Q } (start N vs) H):qy P w K mg O8 CX0 (k+1) f fd ps sp:=by
 obtain ⟨oc,od,kV,doc,pm,an,cdv,ct,osl,rfl,lk,hcd⟩:=F.ex
 refine QgL lk hcd S len fun A outer s H vs Q E hr hsp=>?_
 obtain ⟨t,h,q⟩:=hbody cdv A outer s H vs Q E hr hsp
 exact ⟨t,h.nox,q⟩
theorem Fun.binds {x qual:Str} {st:Stmt} {f:Addr} {fd:FuncData} {ps:List Str} (F:Fun K x qual st f fd)
  (h:∀ (kV doc pm:Value) (an:Option Addr) (cdv ct:Value) (us:List Value),us.length=ps.length->bindArgs (PySem.W.fnOf x qual (JE st) (ZG st) (Qp st) .none kV doc pm an cdv ct) ⟨us,[]⟩=pure (ps.zip us)):Binds K fd ps []:=by
 obtain ⟨oc,od,kV,doc,pm,an,cdv,ct,osl,rfl,lk,hcd⟩:=F.ex
 exact .all (h kV doc pm an cdv ct)
theorem Ks {x qual:Str} {st:Stmt} {f:Addr} {oc:Value} {od an:Option Addr} {osl:Array (Option Value)} {kV doc pm cdv ct:Value} (l:K.lookup f=some ⟨oc,od,.func (PySem.W.fnOf x qual (JE st) (ZG st) (Qp st) .none kV doc pm an cdv ct),osl⟩)
  (c:PySem.W.codeIn K cdv qual=true) (k:PySem.W.keepIn K (.ref f)=true):Fun K x qual st f (PySem.W.fnOf x qual (JE st) (ZG st) (Qp st) .none kV doc pm an cdv ct):=⟨⟨oc,od,kV,doc,pm,an,cdv,ct,osl,rfl,l,c⟩,k⟩
end
theorem QY {A:Around} {k:Nat} (hr:Room k A):A.units+1 < cLine:=By (Nat.add_le_add_left (by decide:1<=64) _) hr.units
section
variable {X:Cx}
end
theorem uq {A B:Prop} (h:B):if false=true then A else B:=by
 rw [C8 Bz]
 exact h
theorem ur {A B:Prop} (h:A):if true=true then A else B:=by
 rw [C9 rfl]
 exact h
end L2
set_option maxHeartbeats 4000000
namespace L2
open PySem PySem.Spec PyProof.Rows
section
variable {κ:Type} [DecidableEq κ]
def Xf (kvs:List (κ×V)) (k:κ):Option V:=(kvs.find? fun kv=>decide (kv.1=k)).map (·.2)
def qr (kvs:List (κ×V)) (k:κ) (v:V):List (κ×V) :=
 if (kvs.any fun kv=>decide (kv.1=k))=true then kvs.map (fun kv=>if kv.1=k then (kv.1,v) else kv) else kvs++[(k,v)]
def jm (kvs:List (κ×V)) (k:κ):List (κ×V):=kvs.filter fun kv=>decide (kv.1≠k)
theorem VT {p:κ×V} {r:List (κ×V)} {k:κ} (e:p.1=k):Xf (p::r) k=some p.2:=by simp [Xf,B8,e]
theorem VS {p:κ×V} {r:List (κ×V)} {k:κ} (e:¬ p.1=k):Xf (p::r) k=Xf r k:=by simp [Xf,B8,e]
theorem vF (k:κ):∀ kvs:List (κ×V),(kvs.any fun kv=>decide (kv.1=k))=(Xf kvs k).isSome
  | []=>rfl
  | p::r=>by
    rw [Cs]
    by_cases e:p.1=k
    . simp only [VT e,Ed e,Bool.true_or,Option.isSome_some]
    . rw [VS e,Ef e,Bool.false_or];exact vF k r
theorem qJ (kvs:List (κ×V)) (k:κ) (v:V):(qr kvs k v).length<=kvs.length+1:=by
 unfold qr
 split
 ·rw [Br];lia
 ·rw [An,Ba,List.length_nil];lia
theorem RelO.isSome_eq {o:Option V} {u:Option Value} (r:RelO o u):o.isSome=u.isSome:=by
  cases o with
  | none=>cases u with
    | none=>rfl
    | some _=>exact (show False from r).elim
  | some _=>cases u with
    | none=>exact (show False from r).elim
    | some _=>rfl
theorem RelO.getD {o:Option V} {u:Option Value} (r:RelO o u) (rd:RelV d d'):RelV (o.getD d) (u.getD d'):=by
  cases o with
  | none=>cases u with
    | none=>exact rd
    | some _=>exact (show False from r).elim
  | some _=>cases u with
    | none=>exact (show False from r).elim
    | some _=>exact r
theorem KV.val {kvs:List (κ×V)} {vs:List (κ×Value)} (r:KV kvs vs) (k:κ):RelO (Xf kvs k) (valueAt vs k):=by
  unfold KV at r
  induction r with
  | nil=>exact True.intro
  | @cons p q ps qs h t ih =>
    obtain ⟨h1,h2⟩:=h
    by_cases e:p.1=k
    . have e':q.1=k:=h1.symm.trans e
      have b:valueAt (q::qs) k=some q.2:=by simp [valueAt,B8,e']
      rw [VT e,b];exact h2
    . have e':¬ q.1=k:=fun z=>e (h1.trans z)
      have b:valueAt (q::qs) k=valueAt qs k:=by simp [valueAt,B8,e']
      rw [VS e,b];exact ih
theorem KV.any {kvs:List (κ×V)} {vs:List (κ×Value)} (r:KV kvs vs) (k:κ):(kvs.any fun kv=>decide (kv.1=k))=vs.any fun kv=>decide (kv.1=k):=by
 unfold KV at r
 induction r with
 | nil=>rfl
 | cons h t ih=>rw [Cs,Cs,ih,h.1]
theorem KV.repl {kvs:List (κ×V)} {vs:List (κ×Value)} (r:KV kvs vs) (k:κ) (ry:RelV y u):
    KV (kvs.map fun kv=>if kv.1=k then (kv.1,y) else kv) (vs.map fun kv=>if kv.1=k then (kv.1,u) else kv):=by
  unfold KV at r ⊢
  induction r with
  | nil=>exact .nil
  | @cons p q ps qs h t ih =>
    rw [Bb,Bb]
    refine .cons ?_ ih
    obtain ⟨h1,h2⟩:=h
    by_cases e:p.1=k
    . rw [C9 e,C9 (h1.symm.trans e)];exact ⟨h1,ry⟩
    . rw [C8 e,C8 (fun z=>e (h1.trans z))];exact ⟨h1,h2⟩
theorem KV.put {kvs:List (κ×V)} {vs:List (κ×Value)} (r:KV kvs vs) (k:κ) (ry:RelV y u):KV (qr kvs k y) (stored vs k u):=by
 unfold qr stored
 rw [r.any k]
 by_cases e:(vs.any fun kv=>decide (kv.1=k))=true
 ·rw [C9 e,C9 e];exact r.repl k ry
 ·rw [C8 e,C8 e];exact Paired.snoc r ⟨rfl,ry⟩
theorem KV.drop {kvs:List (κ×V)} {vs:List (κ×Value)} (r:KV kvs vs) (k:κ):KV (jm kvs k) (without vs k):=by
  unfold KV at r ⊢
  unfold jm without
  induction r with
  | nil=>exact .nil
  | @cons p q ps qs h t ih =>
    obtain ⟨h1,h2⟩:=h
    rw [As,As]
    by_cases e:p.1=k
    . have a:¬ decide (p.1≠k)=true:=by simp [e]
      have b:¬ decide (q.1≠k)=true:=by simp [h1.symm.trans e]
      rw [C8 a,C8 b];exact ih
    . have e':¬ q.1=k:=fun z=>e (h1.trans z)
      have a:decide (p.1≠k)=true:=by simp [e]
      have b:decide (q.1≠k)=true:=by simp [e']
      rw [C9 a,C9 b];exact .cons ⟨h1,h2⟩ ih
def KV.length {kvs:List (κ×V)} {vs:List (κ×Value)} (r:KV kvs vs):kvs.length=vs.length:=Paired.length r
def GH (kvs:List (κ×V)) (k:κ):(jm kvs k).length<=kvs.length:=Cb _ _
end
theorem qH {w:World} (r:RelV (kV k) u):(Zu P w).is k u=true:=by
 cases k with
 | inl i=>obtain ⟨t,e⟩:=(show ∃ t,u=Value.int i t from r);subst e;exact G0 P w i t
 | inr x=>obtain ⟨t,e⟩:=(show ∃ t,u=Value.str x t from r);subst e;exact G2 P w x t
theorem UE {w:World}:∀ {ks:List Key} {us:List Value},Vals (ks.map kV) us->ItemsAre (Zu P w) ks us
  | [],_,r=>by rw [List.map_nil] at r;cases r;exact .nil
  | k::ks,_,r=>by
    rw [Bb] at r
    cases r with
    | cons h t=>exact .cons (qH h) (UE t)
abbrev KT (H:Hp):List (List Key×V)->List (List Key×Addr×Value)->Prop:=Paired fun p q=>p.1=q.1/\H q.2.1=some (.tup (p.1.map kV))/\RelV p.2 q.2.2
theorem KT.val {kvs:List (List Key×V)} {xs:List (List Key×Addr×Value)} (r:KT H kvs xs) (k:List Key):RelO (Xf kvs k) ((atKey xs k).map (·.2)):=by
  induction r with
  | nil=>exact True.intro
  | @cons p q ps qs h t ih =>
    obtain ⟨h1,_,h2⟩:=h
    by_cases e:p.1=k
    . have e':q.1=k:=h1.symm.trans e
      have b:atKey (q::qs) k=some q.2:=by simp [atKey,B8,e']
      rw [VT e,b];exact h2
    . have e':¬ q.1=k:=fun z=>e (h1.trans z)
      have b:atKey (q::qs) k=atKey qs k:=by simp [atKey,B8,e']
      rw [VS e,b];exact ih
theorem KT.repl {kvs:List (List Key×V)} {xs:List (List Key×Addr×Value)} (r:KT H kvs xs) (k:List Key) (ry:RelV y u):
    KT H (kvs.map fun kv=>if kv.1=k then (kv.1,y) else kv) (xs.map (putAt k u)):=by
  induction r with
  | nil=>exact .nil
  | @cons p q ps qs h t ih =>
    rw [Bb,Bb]
    refine .cons ?_ ih
    obtain ⟨h1,h2,h3⟩:=h
    unfold putAt
    by_cases e:p.1=k
    . rw [C9 e,C9 (h1.symm.trans e)];exact ⟨h1,h2,ry⟩
    . rw [C8 e,C8 (fun z=>e (h1.trans z))];exact ⟨h1,h2,h3⟩
theorem KT.put {H:Hp} {kvs:List (List Key×V)} {xs:List (List Key×Addr×Value)} (r:KT H kvs xs) (k:List Key) {b:Addr} (hb:H b=some (.tup (k.map kV))) (ry:RelV y u):
  KT H (qr kvs k y) (storedH xs k b u):=by
 have e:(kvs.any fun kv=>decide (kv.1=k))=(atKey xs k).isSome:=by
  rw [vF,(r.val k).isSome_eq,Option.isSome_map]
 unfold qr storedH
 rw [e]
 by_cases q:(atKey xs k).isSome=true
 ·rw [C9 q,C9 q];exact r.repl k ry
 ·rw [C8 q,C8 q];exact Paired.snoc r ⟨rfl,hb,ry⟩
theorem KT.keeps {H H':Hp} {kvs:List (List Key×V)} {xs:List (List Key×Addr×Value)} (r:KT H kvs xs) (ht:∀ b ys,H b=some (.tup ys)->H' b=some (.tup ys)):KT H' kvs xs :=
 Paired.mapP r fun _ _ z=>⟨z.1,ht _ _ z.2.1,z.2.2⟩
section
variable {P:Program} {w:World} {H:Hp} {h:Heap} {a:Addr}
def QeU (ok:HOk P w H h) (e:Rd H a u):ObjOk P w H h a u:=e.ok ok
theorem xL {kvs:List (Key×V)} (ok:HOk P w H h) (e:Rd H a (.dK kvs)):kvs.length<=sizeLine/\(a==sysModules)=false/\∃ vs,KV kvs vs/\h.DictOf (Zu P w) a vs :=
 show ObjOk P w H h a (.dK kvs) from QeU ok e
def yO {kvs:List (Key×V)} (ok:HOk P w H h) (e:H a=some (.dK kvs)):kvs.length<=sizeLine/\(a==sysModules)=false/\∃ vs,KV kvs vs/\h.DictOf (Zu P w) a vs:=xL ok (.inl e)
theorem zQ {ks:List Key} (ok:HOk P w H h) (e:H a=some (.tup (ks.map kV))):(tupleKind (Zu P w)).is h ks a:=by
 obtain ⟨_,its,r,o,h1,h2,n,h3⟩:=(show ObjOk P w H h a (.tup (ks.map kV)) from ok a _ e)
 exact ⟨o,its.toArray,n,h1,h2,h3,by simpa using UE r⟩
theorem yQ {kvs:List (List Key×V)} (ok:HOk P w H h) (e:Rd H a (.dT kvs)):kvs.length<=sizeLine/\(a==sysModules)=false /\
    ∃ xs,KT H kvs xs/\h.DictOfH (tupleKind (Zu P w)) a xs:=by
  obtain ⟨z,y,xs,r,o,es,ep,h1,h2,h3,h4,h5⟩:=(show ObjOk P w H h a (.dT kvs) from QeU ok e)
  refine ⟨z,y,xs,r,o,es,ep,h1,h2,h3,h4,fun x hx=>?_,h5⟩
  have all:∀ {l:List (List Key×V)} {m:List (List Key×Addr×Value)},KT H l m->∀ x∈m,(tupleKind (Zu P w)).is h x.1 x.2.1:=by
    intro l m q
    induction q with
    | nil=>intro x hx;exact nomatch hx
    | @cons p q ps qs hq t ih =>
      intro x hx
      rcases Bk.mp hx with e | hx
      . subst e
        exact zQ ok (by rw [<- hq.1];exact hq.2.1)
      . exact ih x hx
  exact all r x hx
theorem JR {kvs:List (List Key×V)} (ok:HOk P w H h) (e:H a=some (.dT kvs)):kvs.length<=sizeLine/\(a==sysModules)=false /\
  ∃ xs,KT H kvs xs/\h.DictOfH (tupleKind (Zu P w)) a xs:=yQ ok (.inl e)
end
def DGet (H:Hp) (a:Addr) (y:V) (r:Option V):Prop :=
 (∃ kvs k,Rd H a (.dK kvs)/\y=kV k/\r=Xf kvs k)∨∃ kvs k b,Rd H a (.dT kvs)/\y=.ref b/\H b=some (.tup (k.map kV))/\r=Xf kvs k
def DPut (H:Hp) (a:Addr) (y v:V) (H':Hp):Prop :=
 (∃ kvs k,H a=some (.dK kvs)/\y=kV k/\kvs.length < sizeLine/\H'=upd H a (.dK (qr kvs k v))) ∨
 ∃ kvs k b,H a=some (.dT kvs)/\y=.ref b/\H b=some (.tup (k.map kV))/\kvs.length < sizeLine/\H'=upd H a (.dT (qr kvs k v))
def DGet.k {H:Hp} {a:Addr} {kvs:List (Key×V)} {k:Key} (e:H a=some (.dK kvs)):DGet H a (kV k) (Xf kvs k):=.inl ⟨kvs,k,.inl e,rfl,rfl⟩
def DPut.k {H:Hp} {a:Addr} {kvs:List (Key×V)} {k:Key} {v:V} (e:H a=some (.dK kvs)) (hl:kvs.length < sizeLine):DPut H a (kV k) v (upd H a (.dK (qr kvs k v))):=.inl ⟨kvs,k,e,rfl,hl,rfl⟩
section
variable {X:Cx} {O9:Ei} {σ:St} {H:Hp} {s:Shared} {a:Addr} {y v:V} {u r:Value} {o:Option V} {A:Around} {E:Eh}
theorem Inv.big (I:Inv X O9 σ H s):sysModules < s.heap.objs.size:=by
 have h:mainGlobals < s.heap.objs.size:=(I.mod.glob.keeps I.bk).lt
 exact Nat.lt_trans (by decide) h
theorem Qam {Q:Eh} (hu:A.units+1 < cLine) (I:Inv X O9 σ H s) (g:DGet H a y (some v)) (ry:RelV y u) (h:∀ w' s',Inv X O9 σ H s'->RelV v w'->Q w' s'):
  wpAny (model X.prog X.w) A (getItem (.ref a) u) Q E s:=by
 rcases g with ⟨kvs,k,e,ey,l⟩ | ⟨kvs,k,b,e,ey,eb,l⟩
 ·subst ey
  obtain ⟨z,hd,vs,rel,dd⟩:=xL I.hok e
  obtain ⟨w',hw,rw'⟩:=RelO.some_of (v:=v) (o:=valueAt vs k) (by rw [l];exact rel.val k)
  exact wpAny_getItem_of (qH ry) dd.mapOf hw (h w' _ (I.tok _) rw')
 ·subst ey
  cases (show u=Value.ref b from ry)
  obtain ⟨z,hd,xs,rel,dd⟩:=yQ I.hok e
  obtain ⟨w',hw,rw'⟩:=RelO.some_of (v:=v) (o:=(atKey xs k).map (·.2)) (by rw [l];exact rel.val k)
  obtain ⟨p,U,hp2⟩:=Cg.mp hw
  refine wpAny_getItem_heap (tupleKind_room_in1 hu) (zQ I.hok eb) dd U ?_
  rw [hp2]
  exact h w' _ (I.tok _) rw'
theorem QhI {Q:Eh} (hu:A.units+1 < cLine) (I:Inv X O9 σ H s) (g:DGet H a y o) (ry:RelV y u) (h:∀ s',Inv X O9 σ H s'->Q (.bool o.isSome) s'):
  wpAny (model X.prog X.w) A (compareOp .In u (.ref a)) Q E s:=by
 rcases g with ⟨kvs,k,e,ey,l⟩ | ⟨kvs,k,b,e,ey,eb,l⟩
 ·subst ey
  obtain ⟨z,hd,vs,rel,dd⟩:=xL I.hok e
  refine wpAny_in_of (qH ry) hd dd.mapOf ?_
  rw [<- (rel.val k).isSome_eq,<- l]
  exact h _ (I.tok _)
 ·subst ey
  cases (show u=Value.ref b from ry)
  obtain ⟨z,hd,xs,rel,dd⟩:=yQ I.hok e
  refine wpAny_in_heap (tupleKind_room_in1 hu) (zQ I.hok eb) hd dd ?_
  have q:=(rel.val k).isSome_eq
  rw [Option.isSome_map] at q
  rw [<- q,<- l]
  exact h _ (I.tok _)
theorem Qdh {Q:Eh} (hu:A.units+1 < cLine) (I:Inv X O9 σ H s) (g:DGet H a y o) (ry:RelV y u) (h:∀ s',Inv X O9 σ H s'->Q (.bool (!o.isSome)) s'):
  wpAny (model X.prog X.w) A (compareOp .NotIn u (.ref a)) Q E s:=by
 rcases g with ⟨kvs,k,e,ey,l⟩ | ⟨kvs,k,b,e,ey,eb,l⟩
 ·subst ey
  obtain ⟨z,hd,vs,rel,dd⟩:=xL I.hok e
  refine wpAny_notIn_of (qH ry) hd dd.mapOf ?_
  rw [<- (rel.val k).isSome_eq,<- l]
  exact h _ (I.tok _)
 ·subst ey
  cases (show u=Value.ref b from ry)
  obtain ⟨z,hd,xs,rel,dd⟩:=yQ I.hok e
  refine wpAny_notIn_heap (tupleKind_room_in1 hu) (zQ I.hok eb) hd dd ?_
  have q:=(rel.val k).isSome_eq
  rw [Option.isSome_map] at q
  rw [<- q,<- l]
  exact h _ (I.tok _)
theorem jk {h':Heap} {t':Nat} (I:Inv X O9 σ H s) (mu:Mut (H a)) (hs:Heap.SameBut a s.heap h') (he:∃ q,h'.get? a=some q) (new:ObjOk X.prog X.w (upd H a ob) h' a ob):
  Inv X O9 σ (upd H a ob) { s with heap:=h',toks:=t' } :=
 I.write (x:=a) (e:=a) mu (.inl rfl) (fun b q hb z=>(hs.2 b hb).trans z) he new
theorem Km {w:World} {H':Hp} {h':Heap} {kvs:List (Key×V)} {vs:List (Key×Value)} (z:kvs.length<=sizeLine) (hd:(a==sysModules)=false) (rel:KV kvs vs) (dd:h'.DictOf (Zu P w) a vs):
  ObjOk P w H' h' a (.dK kvs):=⟨z,hd,vs,rel,dd⟩
theorem Qan {Q:Unit->Shared->Prop} (hu:A.units+1 < cLine) (I:Inv X O9 σ H s) (g:DPut H a y v H') (ry:RelV y u) (rv:RelV v r) (h:∀ s',Inv X O9 σ H' s'->Q () s'):
  wpAny (model X.prog X.w) A (setItem (.ref a) u r) Q E s:=by
 rcases g with ⟨kvs,k,e,ey,l,eH⟩ | ⟨kvs,k,b,e,ey,eb,l,eH⟩
 ·subst ey eH
  obtain ⟨z,hd,vs,rel,dd⟩:=yO I.hok e
  have hz:vs.length<=sizeLine:=by rw [<- rel.length];exact z
  have hl:(qr kvs k v).length<=sizeLine:=by have:=qJ kvs k v;lia
  refine wpAny_setItem_pairs (hsz:=hz) (qH ry) dd fun h' dd' hs=>h _ ?_
  have he:∃ q,h'.get? a=some q:=let ⟨q,_,_,hq,_⟩:=dd';⟨q,hq⟩
  exact jk I (by rw [e];exact True.intro) hs he (Km hl hd (rel.put k rv) dd')
 ·subst ey eH
  cases (show u=Value.ref b from ry)
  obtain ⟨z,hd,xs,rel,dd⟩:=JR I.hok e
  have hz:xs.length<=sizeLine:=by rw [<- Paired.length rel];exact z
  have hl:(qr kvs k v).length<=sizeLine:=by have:=qJ kvs k v;lia
  refine wpAny_setItem_heap (hsz:=hz) (tupleKind_room_in1 hu) (zQ I.hok eb) dd fun h' dd' hs=>h _ ?_
  obtain ⟨q,es,ep,hq,h2,h3,h4,_,h5⟩:=dd'
  refine jk I (by rw [e];exact True.intro) hs ⟨q,hq⟩ ⟨hl,hd,_,(rel.put k eb rv).keeps fun c ys ec=>?_,q,es,ep,hq,h2,h3,h4,h5⟩
  rw [QX (Qg1 ec e (fun z=>nomatch z))]
  exact ec
end
section
variable {X:Cx} {O9:Ei} {σ:St} {H:Hp} {s:Shared} {a:Addr} {kvs:List (Key×V)} {k:Key} {u:Value} {A:Around} {E:Eh}
theorem Qgy {Q:Unit->Shared->Prop} (I:Inv X O9 σ H s) (e:H a=some (.dK kvs)) (ry:RelV (kV k) u) (l:(Xf kvs k).isSome=true) (h:∀ s',Inv X O9 σ (upd H a (.dK (jm kvs k))) s'->Q () s'):
  wpAny (model X.prog X.w) A (delItem (.ref a) u) Q E s:=by
 obtain ⟨z,hd,vs,rel,dd⟩:=yO I.hok e
 refine wpAny_delItem_slot dd.typeIs (by decide) PySem.F.slot_dict_delitem
  (call_meetsIn PySem.F.slot_dict_delitem dd.typeIs PySem.F.entry_dict_delitem (PySem.F.args_dict_delitem_2 _ _) (meets_dict_delitem_pairs (Zu X.prog X.w) a (qH ry)) ⟨vs,dd,by rw [<- rel.length];exact z,by rw [<- (rel.val k).isSome_eq];exact l,fun h' dd' hs=>h _ ?_⟩)
 have he:∃ q,h'.get? a=some q:=let ⟨q,_,_,hq,_⟩:=dd';⟨q,hq⟩
 exact jk I (by rw [e];exact True.intro) hs he (Km (Bj (GH kvs k) z) hd (rel.drop k) dd')
theorem QeH {more:List Value} {Q:Eh} (I:Inv X O9 σ H s) (e:H a=some (.dK kvs)) (ry:RelV (kV k) u) (l:Xf kvs k=some v) (hm:more=[]∨∃ x,more=[x])
  (h:∀ w' s',Inv X O9 σ (upd H a (.dK (jm kvs k))) s'->RelV v w'->Q w' s'):wpAny (model X.prog X.w) A (call (.builtin "dict.pop") (.ref a::u::more)) Q E s:=by
 obtain ⟨z,hd,vs,rel,dd⟩:=yO I.hok e
 obtain ⟨w',hw,rw'⟩:=RelO.some_of (v:=v) (o:=valueAt vs k) (by rw [<- l];exact rel.val k)
 have U:(keyPart u).isSome=true:=by
  cases k with
  | inl i=>obtain ⟨t,q⟩:=(show ∃ t,u=Value.int i t from ry);subst q;rfl
  | inr x=>obtain ⟨t,q⟩:=(show ∃ t,u=Value.str x t from ry);subst q;rfl
 have ha:argsOk "dict.pop" ⟨.ref a::u::more,[]⟩:=by
  rcases hm with q | ⟨x,q⟩
  ·subst q;exact PySem.F.args_dict_pop_2 _ _
  ·subst q;exact PySem.F.args_dict_pop_3 _ _ _
 refine call_meetsIn PySem.F.slot_dict_pop dd.typeIs PySem.F.entry_dict_pop ha (meets_dict_pop_there (Zu X.prog X.w) a (qH ry) more hm U)
  ⟨vs,w',dd,by rw [<- rel.length];exact z,hw,fun h' dd' hs=>h w' _ ?_ rw'⟩
 have he:∃ q,h'.get? a=some q:=let ⟨q,_,_,hq,_⟩:=dd';⟨q,hq⟩
 exact jk I (by rw [e];exact True.intro) hs he (Km (Bj (GH kvs k) z) hd (rel.drop k) dd')
theorem Qfa {Q:Eh} (I:Inv X O9 σ H s) (e:H a=some (.dK kvs)) (ry:RelV (kV k) u) (l:Xf kvs k=none) (h:∀ s',Inv X O9 σ H s'->Q r s'):
  wpAny (model X.prog X.w) A (call (.builtin "dict.pop") [.ref a,u,r]) Q E s:=by
 obtain ⟨z,hd,vs,rel,dd⟩:=yO I.hok e
 have hn:valueAt vs k=none:=RelO.none_of (by rw [<- l];exact rel.val k)
 have U:(keyPart u).isSome=true:=by
  cases k with
  | inl i=>obtain ⟨t,q⟩:=(show ∃ t,u=Value.int i t from ry);subst q;rfl
  | inr x=>obtain ⟨t,q⟩:=(show ∃ t,u=Value.str x t from ry);subst q;rfl
 exact call_meetsIn PySem.F.slot_dict_pop dd.typeIs PySem.F.entry_dict_pop (PySem.F.args_dict_pop_3 _ _ _) (meets_dict_pop_default (Zu X.prog X.w) a (qH ry) hd U r) ⟨vs,dd,hn,h _ (I.tok _)⟩
theorem QgG {Q:Eh} (I:Inv X O9 σ H s) (e:Rd H a (.dK kvs)) (h:∀ t s',Inv X O9 σ H s'->Q (.int kvs.length t) s'):wpAny (model X.prog X.w) A (call (.builtin "len") [.ref a]) Q E s:=by
 obtain ⟨z,hd,vs,rel,dd⟩:=xL I.hok e
 refine call_len_dict hd dd (by rw [<- rel.length];rw [sizeLine_eq] at z;lia) ?_
 rw [<- rel.length]
 exact h _ _ (I.tok _)
end
theorem GE {s:Shared} {a:Addr} {o:Option V} (I:Inv X O9 σ H s) (g:DGet H a y o):s.TypeIs (.ref a) "dict" := by
 rcases g with ⟨kvs,k,e,_,_⟩ | ⟨kvs,k,b,e,_,_,_⟩
 ·obtain ⟨_,_,vs,_,dd⟩:=xL I.hok e
  exact dd.typeIs
 ·obtain ⟨_,_,xs,_,dd⟩:=yQ I.hok e
  exact dd.typeIs
section
variable {X:Cx} {o i e value:Expr} {pos pos' tpos:Pos} {td ty tv:TE}
end
theorem GG {w:World} (h:Heap) (hb:sysModules < h.objs.size):ObjOk P w H (h.push { cls:=.type "dict", data:=.dict #[] }) h.objs.size (.dK []) :=
 ⟨Be _,beq_eq_false_iff_ne.mpr (Ne.symm (Bf hb)),[],.nil,Heap.DictOf.new h⟩
section
variable {X:Cx} {pos:Pos}
end
def K8:List (TE×TE)->St->Hp->(List (V×V)->Hp->Prop)->Prop
 | [],_,H,Q=>Q [] H
 | (tk,tv)::r,σ,H,Q=>tk σ H fun x H1=>tv σ H1 fun y H2=>K8 r σ H2 fun ps H3=>Q ((x,y)::ps) H3
abbrev VV:List (V×V)->List (Value×Value)->Prop:=Paired fun p q=>RelV p.1 q.1/\RelV p.2 q.2
def PPs (X:Cx) (pos:Pos) (keys:List (Option Expr)) (values:List Expr) (trs:List (TE×TE)):Prop :=
  ∀ (O9 : List (Addr × Obj)) (s : Shared) (σ : St) (H : Hp) (Q : List (V × V) -> Hp -> Prop), Inv X O9 σ H s -> K8 trs σ H Q ->
    wpAny (model X.prog X.w) X.A (evalPairs (pairTrees keys values X.env pos)) (fun vs s'=>∃ ps H',Inv X O9 σ H' s'/\VV ps vs/\Q ps H') X.xe s
def Qd4:PPs X pos [] [] []:=fun O9 s σ H Q I h=>pairTrees_nil_walk ⟨[],H,I,.nil,h⟩
theorem Qcq {ks:List (Option Expr)} {vs:List Expr} {trs:List (TE×TE)} (hk:PE X k tk) (hv:PE X v tv) (hr:PPs X pos ks vs trs):
  PPs X pos (some k::ks) (v::vs) ((tk,tv)::trs):=fun O9 s σ H Q I h =>
 pairTrees_cons_walk (thn (hk O9 s σ H _ I h) fun u s1 ⟨x,H1,I1,rx,q1⟩=>thn (hv O9 s1 σ H1 _ I1 q1) fun w2 s2 ⟨y,H2,I2,ry,q2⟩ =>
  thn (hr O9 s2 σ H2 _ I2 q2) fun ws s3 ⟨ps,H3,I3,rel,q3⟩=>⟨(x,y)::ps,H3,I3,.cons ⟨rx,ry⟩ rel,q3⟩)
def XN (kvs more:List (Key×V)):List (Key×V):=more.foldl (fun acc kv=>qr acc kv.1 kv.2) kvs
theorem KV.merge:∀ {more:List (Key×V)} {rs:List (Key×Value)} {kvs:List (Key×V)} {vs:List (Key×Value)},KV more rs->KV kvs vs->KV (XN kvs more) (merged vs rs):=by
  intro more rs kvs vs r
  unfold KV at r
  induction r generalizing kvs vs with
  | nil=>intro q;exact q
  | @cons p q ps qs h t ih =>
    intro r0
    have e:KV (qr kvs p.1 p.2) (stored vs q.1 q.2):=by
      have:=r0.put p.1 h.2
      rw [<- h.1];exact this
    exact ih e
theorem zr:∀ (more kvs:List (Key×V)),(XN kvs more).length<=kvs.length+more.length
  | [],kvs=>by show kvs.length<=kvs.length+0;lia
  | p::r,kvs=>by
    have h1:=zr r (qr kvs p.1 p.2)
    have h2:=qJ kvs p.1 p.2
    show (XN (qr kvs p.1 p.2) r).length<=_
    rw [Ba];lia
theorem yE {w:World}:∀ {kvs:List (Key×V)} {ws:List (Value×Value)},VV (kvs.map fun kv=>(kV kv.1,kv.2)) ws->∃ rs,Carries (Zu P w) ws rs/\KV kvs rs
  | [],_,r=>by rw [List.map_nil] at r;cases r;exact ⟨[],True.intro,.nil⟩
  | p::kvs,_,r=>by
    rw [Bb] at r
    cases r with
    | @cons a b as bs h t =>
      obtain ⟨rs,c,q⟩:=yE (P:=P) (w:=w) t
      obtain ⟨b1,b2⟩:=b
      exact ⟨(p.1,b2)::rs,⟨qH h.1,rfl,c⟩,.cons ⟨rfl,h.2⟩ q⟩
structure M1 (X:Cx) (o:Expr) (m:Str) (apos:Pos) (e:Expr) (cpos:Pos):Prop where
 O8:attributeBase o m X.env (eval o X.env)=eval o X.env
 few:((backTo cpos (starEach [e] X.env)).all (fun x=>!x.1)&&(backToKw cpos (keywordEach [] X.env)).all (fun x=>x.1.isSome)
  && decide (([e]:List Expr).length+([]:List Keyword).length+(if ([]:List Keyword).isEmpty then 0 else 1) < 30))=true
 line:(apos.endLine==cpos.line)=true
 trees:backTo cpos (starEach [e] X.env)=[(false,eval e X.env)]
structure M2 (X:Cx) (o:Expr) (m:Str) (apos:Pos) (e f:Expr) (cpos:Pos):Prop where
 O8:attributeBase o m X.env (eval o X.env)=eval o X.env
 few:((backTo cpos (starEach [e,f] X.env)).all (fun x=>!x.1)&&(backToKw cpos (keywordEach [] X.env)).all (fun x=>x.1.isSome)
  && decide (([e,f]:List Expr).length+([]:List Keyword).length+(if ([]:List Keyword).isEmpty then 0 else 1) < 30))=true
 line:(apos.endLine==cpos.line)=true
 trees:backTo cpos (starEach [e,f] X.env)=[(false,eval e X.env),(false,eval f X.env)]
section
variable {X:Cx} {O9:Ei} {σ:St} {H:Hp} {s:Shared} {a:Addr} {y d:V} {u r:Value} {o:Option V} {A:Around} {E:Eh}
theorem Qe8 {Q:Eh} (hu:A.units+1 < cLine) (I:Inv X O9 σ H s) (g:DGet H a y o) (ry:RelV y u) (h:∀ w' s',Inv X O9 σ H s'->RelV (o.getD .non) w'->Q w' s'):
  wpAny (model X.prog X.w) A (call (.builtin "dict.get") [.ref a,u]) Q E s:=by
 rcases g with ⟨kvs,k,e,ey,l⟩ | ⟨kvs,k,b,e,ey,eb,l⟩
 ·subst ey
  obtain ⟨z,hd,vs,rel,dd⟩:=xL I.hok e
  refine call_meetsIn PySem.F.slot_dict_get dd.typeIs PySem.F.entry_dict_get (PySem.F.args_dict_get_2 _ _) (meets_dict_get (Zu X.prog X.w) a (qH ry) hd) ⟨_,dd.mapOf,h _ _ (I.tok _) ?_⟩
  rw [l]
  exact (rel.val k).getD rfl
 ·subst ey
  cases (show u=Value.ref b from ry)
  obtain ⟨z,hd,xs,rel,dd⟩:=yQ I.hok e
  refine call_meetsIn PySem.F.slot_dict_get dd.typeIs PySem.F.entry_dict_get (PySem.F.args_dict_get_2 _ _) (meetsH_dict_get (tupleKind (Zu X.prog X.w)) a b hd) ⟨tupleKind_room_in1 hu,k,xs,zQ I.hok eb,dd,h _ _ (I.tok _) ?_⟩
  rw [l]
  exact (rel.val k).getD rfl
theorem Qe9 {Q:Eh} (hu:A.units+1 < cLine) (I:Inv X O9 σ H s) (g:DGet H a y o) (ry:RelV y u) (rd:RelV d r) (h:∀ w' s',Inv X O9 σ H s'->RelV (o.getD d) w'->Q w' s'):
  wpAny (model X.prog X.w) A (call (.builtin "dict.get") [.ref a,u,r]) Q E s:=by
 rcases g with ⟨kvs,k,e,ey,l⟩ | ⟨kvs,k,b,e,ey,eb,l⟩
 ·subst ey
  obtain ⟨z,hd,vs,rel,dd⟩:=xL I.hok e
  refine call_meetsIn PySem.F.slot_dict_get dd.typeIs PySem.F.entry_dict_get (PySem.F.args_dict_get_3 _ _ _) (meets_dict_get_default (Zu X.prog X.w) a (qH ry) hd r) ⟨_,dd.mapOf,h _ _ (I.tok _) ?_⟩
  rw [l]
  exact (rel.val k).getD rd
 ·subst ey
  cases (show u=Value.ref b from ry)
  obtain ⟨z,hd,xs,rel,dd⟩:=yQ I.hok e
  refine call_meetsIn PySem.F.slot_dict_get dd.typeIs PySem.F.entry_dict_get (PySem.F.args_dict_get_3 _ _ _) (meetsH_dict_get_default (tupleKind (Zu X.prog X.w)) a b hd r) ⟨tupleKind_room_in1 hu,k,xs,zQ I.hok eb,dd,h _ _ (I.tok _) ?_⟩
  rw [l]
  exact (rel.val k).getD rd
end
section
variable {X:Cx} {o e f:Expr} {apos cpos:Pos} {td ty tx:TE}
end
section
variable {X:Cx} {O9:Ei} {σ:St} {H:Hp} {s:Shared} {a:Addr} {kvs:List (Key×V)} {A:Around} {E:Eh}
end
section
variable {X:Cx} {O9:Ei} {σ:St} {H:Hp} {s:Shared} {a:Addr} {y:V} {u:Value} {A:Around} {E:Eh}
end
section
variable {X:Cx}
theorem Qag:CallR X (.builtin "len") (fun xs H Q=>∃ a kvs,xs=[V.ref a]/\H a=some (.dK kvs)/\Q (.int kvs.length) H):=by
 intro O9 s σ H xs us Q I r h
 obtain ⟨a,kvs,rfl,ha,q⟩:=h
 obtain ⟨u,rfl,ru⟩:=VU r
 cases ru
 exact QgG I (.inl ha) fun t s' I'=>⟨.int kvs.length,H,I',⟨t,rfl⟩,q⟩
end
section
variable {κ:Type} [DecidableEq κ]
end
end L2
namespace D
open PySem PySem.Spec PyProof.Rows L2
abbrev St:=L2.St
inductive DV where
 | non | bl (b:Bool) | int (i:Int) | str (x:Str) | tup (xs:List DV) | lst (xs:List DV) | ref (i:Nat)
inductive OV where
 | lst (xs:List DV)
 | dic (kvs:List (Key×DV))
 | ins (c:Str) (fs:List (Str×DV))
abbrev Hs:=List OV
abbrev M:=StateT Hs Option
abbrev Er:=List DV->M DV
mutual
def RepV (K:Aa) (ρ:Ep) (B:Eo) (H:Hp):DV->V->Prop
 | .non,v=>v=.non
 | .bl b,v=>v=.bl b
 | .int i,v=>v=.int i
 | .str x,v=>v=.str x
 | .tup ds,v=>∃ a xs,v=.ref a/\¬ B a/\SqT K H a xs/\RepL K ρ B H ds xs
 | .lst ds,v=>∃ a xs,v=.ref a/\¬ B a/\SqL K H a xs/\RepL K ρ B H ds xs
 | .ref i,v=>∃ a,v=.ref a/\ρ[i]?=some a
def RepL (K:Aa) (ρ:Ep) (B:Eo) (H:Hp):List DV->List V->Prop
 | [],xs=>xs=[]
 | d::ds,xs=>∃ x r,xs=x::r/\RepV K ρ B H d x/\RepL K ρ B H ds r
end
def ORep (K:Aa) (ρ:Ep) (B:Eo) (H:Hp) (a:Addr):OV->Prop
 | .lst ds=>∃ xs,H a=some (.lst xs)/\RepL K ρ B H ds xs
 | .dic kvs=>∃ xs:List (Key×V),H a=some (.dK xs)/\xs.map (·.1)=kvs.map (·.1)/\RepL K ρ B H (kvs.map (·.2)) (xs.map (·.2))
 | .ins c fs=>∃ (C dx:Addr) (xs:List (Str×V)),PySem.W.nsIn K mainGlobals c=some (some (.ref C))/\H a=some (.ins C dx xs)/\xs.map (·.1)=fs.map (·.1)/\RepL K ρ B H (fs.map (·.2)) (xs.map (·.2))
structure Gr (K:Aa) (ρ:Ep) (B:Eo) (H:Hp) (ρ':Ep) (B':Eo) (H':Hp):Prop where
 pre:ρ <+: ρ'
 ban:∀ a,B a->B' a
 new:∀ a,B' a->B a∨(H a=none/\K.lookup a=none)
 rnew:∀ a∈ρ',a∈ρ∨H a=none
 keep:∀ a o,a∉ρ->H a=some o->H' a=some o
 trk:∀ a,H' a=none->H a=none
structure WOk (K:Aa) (ρ:Ep) (B:Eo) (U:Hs) (H:Hp):Prop where
 len:ρ.length=U.length
 nd:ρ.Nodup
 obj:∀ (i:Nat) (a:Addr) (o:OV),ρ[i]?=some a->U[i]?=some o->ORep K ρ B H a o
 rb:∀ a∈ρ,B a
 bt:∀ a,B a->H a≠none
 bk:∀ a,B a->K.lookup a=none
section
variable {K:Aa} {ρ ρ' ρ'':Ep} {B B' B'':Eo} {H H' H'':Hp}
def Gr.refl:Gr K ρ B H ρ B H:=⟨Cm,fun _ h=>h,fun _ h=>.inl h,fun _ h=>.inl h,fun _ _ _ h=>h,fun _ h=>h⟩
theorem Gr.trans (a:Gr K ρ B H ρ' B' H') (b:Gr K ρ' B' H' ρ'' B'' H''):Gr K ρ B H ρ'' B'' H'' where
 pre:=a.pre.trans b.pre
 ban:=fun x h=>b.ban x (a.ban x h)
 new:=fun x h=>(b.new x h).elim (a.new x) fun z=>.inr ⟨a.trk x z.1,z.2⟩
 rnew:=fun x h=>(b.rnew x h).elim (a.rnew x) fun z=>.inr (a.trk x z)
 keep:=fun x o hn h=>b.keep x o (fun z=>(a.rnew x z).elim hn (fun z=>by rw [h] at z;cases z)) (a.keep x o hn h)
 trk:=fun x h=>a.trk x (b.trk x h)
structure Gs (K:Aa) (ρ:Ep) (B:Eo) (H:Hp) (ρ':Ep) (B':Eo) (H':Hp):Prop where
 pre:ρ <+: ρ'
 new:∀ a,B' a->B a∨(H a=none/\K.lookup a=none)
 keep:∀ a o,¬ B a->H a=some o->H' a=some o
 trk:∀ a,H' a=none->H a=none
def Gr.gs (rb:∀ a∈ρ,B a) (g:Gr K ρ B H ρ' B' H'):Gs K ρ B H ρ' B' H':=⟨g.pre,g.new,fun a o nb h=>g.keep a o (fun z=>nb (rb a z)) h,g.trk⟩
def Gs.refl:Gs K ρ B H ρ B H:=⟨Cm,fun _ h=>.inl h,fun _ _ _ h=>h,fun _ h=>h⟩
theorem Gs.trans (a:Gs K ρ B H ρ' B' H') (b:Gs K ρ' B' H' ρ'' B'' H''):Gs K ρ B H ρ'' B'' H'' where
 pre:=a.pre.trans b.pre
 new:=fun x h=>(b.new x h).elim (a.new x) fun z=>.inr ⟨a.trk x z.1,z.2⟩
 keep:=fun x o nb h=>b.keep x o (fun z=>(a.new x z).elim nb fun q=>by rw [h] at q;cases q.1) (a.keep x o nb h)
 trk:=fun x h=>a.trk x (b.trk x h)
theorem SqT.trk {a:Addr} (h:SqT K H a xs):H a≠none∨∃ o,K.lookup a=some o:=by
 rcases h with (h | ⟨o,h⟩) | ⟨o,_,_,h,_⟩
 ·exact .inl (by rw [h];simp)
 ·exact .inl (by rw [h];simp)
 ·exact .inr ⟨o,h⟩
theorem SqL.trk {a:Addr} (h:SqL K H a xs):H a≠none∨∃ o,K.lookup a=some o:=by
 rcases h with (h | ⟨o,h⟩) | ⟨o,_,_,h,_⟩
 ·exact .inl (by rw [h];simp)
 ·exact .inl (by rw [h];simp)
 ·exact .inr ⟨o,h⟩
theorem Gs.ok {a:Addr} (g:Gs K ρ B H ρ' B' H') (hb:¬ B a) (t:H a≠none∨∃ o,K.lookup a=some o):¬ B' a:=fun z =>
 (g.new a z).elim hb fun ⟨n,k⟩=>t.elim (fun q=>q n) fun ⟨o,q⟩=>by rw [k] at q;cases q
theorem Gs.sqT {a:Addr} (g:Gs K ρ B H ρ' B' H') (hr:¬ B a) (h:SqT K H a xs):SqT K H' a xs:=by
 rcases h with (h | ⟨o,h⟩) | h
 ·exact .inl (.inl (g.keep _ _ hr h))
 ·exact .inl (.inr ⟨o,g.keep _ _ hr h⟩)
 ·exact .inr h
theorem Gs.sqL {a:Addr} (g:Gs K ρ B H ρ' B' H') (hr:¬ B a) (h:SqL K H a xs):SqL K H' a xs:=by
 rcases h with (h | ⟨o,h⟩) | h
 ·exact .inl (.inl (g.keep _ _ hr h))
 ·exact .inl (.inr ⟨o,g.keep _ _ hr h⟩)
 ·exact .inr h
theorem kE {i:Nat} {a:Addr} (p:ρ <+: ρ') (h:ρ[i]?=some a):ρ'[i]?=some a:=by
 obtain ⟨t,rfl⟩:=p
 rw [Ah (Ac.mp h).1];exact h
mutual
theorem RepV.gs (g:Gs K ρ B H ρ' B' H'):∀ (d:DV) (v:V),RepV K ρ B H d v->RepV K ρ' B' H' d v
  | .non,_,h=>by unfold RepV at h ⊢;exact h
  | .bl _,_,h=>by unfold RepV at h ⊢;exact h
  | .int _,_,h=>by unfold RepV at h ⊢;exact h
  | .str _,_,h=>by unfold RepV at h ⊢;exact h
  | .ref _,_,h=>by
    unfold RepV at h ⊢
    obtain ⟨a,e,h⟩:=h
    exact ⟨a,e,kE g.pre h⟩
  | .tup ds,_,h=>by
    unfold RepV at h ⊢
    obtain ⟨a,xs,e,nb,sq,rl⟩:=h
    exact ⟨a,xs,e,g.ok nb (SqT.trk sq),g.sqT nb sq,RepL.gs g ds xs rl⟩
  | .lst ds,_,h=>by
    unfold RepV at h ⊢
    obtain ⟨a,xs,e,nb,sq,rl⟩:=h
    exact ⟨a,xs,e,g.ok nb (SqL.trk sq),g.sqL nb sq,RepL.gs g ds xs rl⟩
theorem RepL.gs (g:Gs K ρ B H ρ' B' H'):∀ (ds:List DV) (xs:List V),RepL K ρ B H ds xs->RepL K ρ' B' H' ds xs
  | [],_,h=>by unfold RepL at h ⊢;exact h
  | d::ds,_,h=>by
    unfold RepL at h ⊢
    obtain ⟨x,r,e,h1,h2⟩:=h
    exact ⟨x,r,e,RepV.gs g d x h1,RepL.gs g ds r h2⟩
end
def RepV.grow (rb:∀ a∈ρ,B a) (g:Gr K ρ B H ρ' B' H') (d:DV) (v:V) (h:RepV K ρ B H d v):RepV K ρ' B' H' d v:=RepV.gs (g.gs rb) d v h
def RepL.grow (rb:∀ a∈ρ,B a) (g:Gr K ρ B H ρ' B' H') (ds:List DV) (xs:List V) (h:RepL K ρ B H ds xs):RepL K ρ' B' H' ds xs:=RepL.gs (g.gs rb) ds xs h
theorem RepL.length:∀ {ds:List DV} {xs:List V},RepL K ρ B H ds xs->ds.length=xs.length
  | [],_,h=>by unfold RepL at h;subst h;rfl
  | d::ds,_,h=>by
    unfold RepL at h
    obtain ⟨x,r,rfl,_,h2⟩:=h
    simp [RepL.length h2]
theorem RepL.get:∀ {ds:List DV} {xs:List V} {i:Nat} {d:DV},RepL K ρ B H ds xs->ds[i]?=some d->∃ x,xs[i]?=some x/\RepV K ρ B H d x
  | [],_,_,_,_,e=>by simp at e
  | d::ds,_,0,_,h,e=>by
    unfold RepL at h
    obtain ⟨x,r,rfl,h1,_⟩:=h
    simp at e;subst e
    exact ⟨x,rfl,h1⟩
  | d::ds,_,i+1,_,h,e=>by
    unfold RepL at h
    obtain ⟨x,r,rfl,_,h2⟩:=h
    obtain ⟨y,h3,h4⟩:=RepL.get h2 (by simpa using e)
    exact ⟨y,by simpa using h3,h4⟩
theorem RepL.nil:RepL K ρ B H [] []:=by unfold RepL;rfl
theorem RepL.cons {d:DV} {x:V} (h:RepV K ρ B H d x) (t:RepL K ρ B H ds xs):RepL K ρ B H (d::ds) (x::xs):=by
 unfold RepL;exact ⟨x,xs,rfl,h,t⟩
theorem RepL.append:∀ {ds es:List DV} {xs ys:List V},RepL K ρ B H ds xs->RepL K ρ B H es ys->RepL K ρ B H (ds++es) (xs++ys)
  | [],_,_,_,h,t=>by unfold RepL at h;subst h;exact t
  | d::ds,_,_,_,h,t=>by
    unfold RepL at h
    obtain ⟨x,r,rfl,h1,h2⟩:=h
    exact RepL.cons h1 (RepL.append h2 t)
def RepL.one (h:RepV K ρ B H d x):RepL K ρ B H [d] [x]:=RepL.cons h RepL.nil
theorem RepL.take:∀ (n:Nat) {ds:List DV} {xs:List V},RepL K ρ B H ds xs->RepL K ρ B H (ds.take n) (xs.take n)
  | 0,_,_,_=>by simp;exact RepL.nil
  | _+1,[],_,h=>by unfold RepL at h;subst h;simp;exact RepL.nil
  | n+1,d::ds,_,h=>by
    unfold RepL at h
    obtain ⟨x,r,rfl,h1,h2⟩:=h
    exact RepL.cons h1 (RepL.take n h2)
theorem RepL.drop:∀ (n:Nat) {ds:List DV} {xs:List V},RepL K ρ B H ds xs->RepL K ρ B H (ds.drop n) (xs.drop n)
  | 0,_,_,h=>h
  | _+1,[],_,h=>by unfold RepL at h;subst h;simp;exact RepL.nil
  | n+1,d::ds,_,h=>by
    unfold RepL at h
    obtain ⟨x,r,rfl,h1,h2⟩:=h
    exact RepL.drop n h2
theorem Gr.laid {p:Addr} (h:H p=none):Gr K ρ B H ρ B (upd H p o) where
 pre:=Cm
 ban:=fun _ h=>h
 new:=fun _ h=>.inl h
 rnew:=fun _ h=>.inl h
 keep:=fun a u _ q=>by rw [QX (ZC q h)];exact q
 trk:=fun a q=>by
  by_cases e:a=p
  ·subst e;rw [Q9] at q;cases q
  ·rw [QX e] at q;exact q
theorem ORep.gs {a:Addr} (g:Gs K ρ B H ρ' B' H') (hk:H' a=H a) (h:ORep K ρ B H a o):ORep K ρ' B' H' a o:=by
  cases o with
  | lst ds =>
    obtain ⟨xs,e,rl⟩:=h
    exact ⟨xs,hk.trans e,RepL.gs g _ _ rl⟩
  | dic kvs =>
    obtain ⟨xs,e,ek,rl⟩:=h
    exact ⟨xs,hk.trans e,ek,RepL.gs g _ _ rl⟩
  | ins c fs =>
    obtain ⟨C,dx,xs,nc,e,ek,rl⟩:=h
    exact ⟨C,dx,xs,nc,hk.trans e,ek,RepL.gs g _ _ rl⟩
theorem WOk.laid {p:Addr} (W:WOk K ρ B U H) (h:H p=none):WOk K ρ B U (upd H p o) where
 len:=W.len
 nd:=W.nd
 obj:=fun i a u e q=>ORep.gs ((Gr.laid h).gs W.rb) (by
  have hb:=W.bt a (W.rb a (Aw e))
  exact QX (fun z=>hb (z▸h))) (W.obj i a u e q)
 rb:=W.rb
 bt:=fun a z q=>W.bt a z ((Gr.laid (K:=K) (ρ:=ρ) (B:=B) h).trk a q)
 bk:=W.bk
end
inductive Sl where
 | un | val (d:DV) | acc (ds:List DV)
abbrev En:=List Sl
structure Ent where
 ρ:List Addr
 B:Addr->Prop
 H:Hp
structure SOk (K:Aa) (Z:Ent) (env:En) (σ:St) (ρ:Ep) (B:Eo) (U:Hs) (H:Hp):Prop where
 gr:Gr K Z.ρ Z.B Z.H ρ B H
 zb:∀ a,Z.B a->Z.H a≠none
 wo:WOk K ρ B U H
 slot:∀ (i:Nat) (d:DV),env[i]?=some (.val d)->∃ v,σ[i]?=some (some v)/\RepV K ρ B H d v
 accs:∀ (i:Nat) (ds:List DV),env[i]?=some (.acc ds)->∃ a xs,σ[i]?=some (some (.ref a))/\H a=some (.lst xs)/\Z.H a=none/\B a/\a∉ρ/\RepL K ρ B H ds xs
 adis:∀ (i j:Nat) (ds es:List DV) (a:Addr),env[i]?=some (.acc ds)->env[j]?=some (.acc es)->σ[i]?=some (some (.ref a))->σ[j]?=some (some (.ref a))->i=j
 len:σ.length=env.length
theorem SOk.grow {K:Aa} {Z:Ent} (S:SOk K Z env σ ρ B U H) (g:Gr K ρ B H ρ' B' H') (W:WOk K ρ' B' hp' H'):SOk K Z env σ ρ' B' hp' H' where
 gr:=S.gr.trans g
 zb:=S.zb
 wo:=W
 slot:=fun i d e=>let ⟨v,h1,h2⟩:=S.slot i d e;⟨v,h1,RepV.grow S.wo.rb g d v h2⟩
 accs:=fun i ds e=>by
  obtain ⟨a,xs,h1,h2,h3,h4,h5,h6⟩:=S.accs i ds e
  refine ⟨a,xs,h1,g.keep a _ h5 h2,h3,g.ban a h4,fun z=>?_,RepL.grow S.wo.rb g ds xs h6⟩
  rcases g.rnew a z with q | q
  ·exact h5 q
  ·rw [h2] at q;cases q
 adis:=S.adis
 len:=S.len
abbrev DEx:=En->M DV
abbrev DTx:=En->M Bool
abbrev DAx:=En->M (List DV)
inductive Fl where
 | nx | rt (d:DV) | bk | ct
abbrev DSx:=En->M (Fl×En)
def Fol (K:Aa) (ρ:Ep) (B:Eo) (H:Hp) (d:DV) (hp':Hs) (Q:VK):Prop :=
 ∀ v ρ' B' H',Gr K ρ B H ρ' B' H'->WOk K ρ' B' hp' H'->RepV K ρ' B' H' d v->Q v H'
def Qgz (K:Aa) (ρ:Ep) (B:Eo) (H:Hp) (hp':Hs) (Q:Hp->Prop):Prop :=
 ∀ ρ' B' H',Gr K ρ B H ρ' B' H'->WOk K ρ' B' hp' H'->Q H'
def QhE (K:Aa) (ρ:Ep) (B:Eo) (H:Hp) (ds:List DV) (hp':Hs) (Q:List V->Hp->Prop):Prop :=
 ∀ vs ρ' B' H',Gr K ρ B H ρ' B' H'->WOk K ρ' B' hp' H'->RepL K ρ' B' H' ds vs->Q vs H'
def tD (K:Aa) (f:DEx):TE:=fun σ H Q=>∃ Z env ρ B U d hp',SOk K Z env σ ρ B U H/\f env U=some (d,hp')/\Fol K ρ B H d hp' Q
def tDT (K:Aa) (f:DTx):TT:=fun σ H Q=>∃ Z env ρ B U d hp',SOk K Z env σ ρ B U H/\f env U=some (d,hp')/\Qgz K ρ B H hp' (Q d)
def tDA (K:Aa) (f:DAx):TA:=fun σ H Q=>∃ Z env ρ B U ds hp',SOk K Z env σ ρ B U H/\f env U=some (ds,hp')/\QhE K ρ B H ds hp' Q
def DE (X:Cx) (e:Expr) (f:DEx):Prop:=PE X e (tD X.K f)
def DT (X:Cx) (e:Expr) (f:DTx):Prop:=PT X e (tDT X.K f)
def DW (X:Cx) (e:Expr) (f:DTx):Prop:=PW X e (tDT X.K f)
def DA (X:Cx) (es:List Expr) (f:DAx):Prop:=PA X es (tDA X.K f)
def FolS (K:Aa) (Z:Ent) (ρ:Ep) (B:Eo) (H:Hp) (fl:Fl) (env':En) (hp':Hs) (D:U7):Prop :=
  ∀ σ' ρ' B' H', Gs K ρ B H ρ' B' H' -> SOk K Z env' σ' ρ' B' hp' H' -> match fl with
    | .nx=>D.nx σ' H'
    | .bk=>D.bk σ' H'
    | .ct=>D.ct σ' H'
    | .rt d=>∀ v,RepV K ρ' B' H' d v->D.rt v H'
def tDS (K:Aa) (f:DSx):TS:=fun D σ H=>∃ Z env ρ B U fl env' hp',SOk K Z env σ ρ B U H/\f env U=some ((fl,env'),hp')/\FolS K Z ρ B H fl env' hp' D
def DS (X:Cx) (st:Stmt) (f:DSx):Prop:=PS X st (tDS X.K f)
def DSs (X:Cx) (st:List Stmt) (f:DSx):Prop:=PSs X st (tDS X.K f)
section
variable {X:Cx}
def _root_.L2.PE.imp {t t':TE} (h:PE X e t) (i:∀ σ H Q,t' σ H Q->t σ H Q):PE X e t':=fun O9 s σ H Q I q=>h O9 s σ H Q I (i σ H Q q)
def _root_.L2.PT.imp {t t':TT} (h:PT X e t) (i:∀ σ H Q,t' σ H Q->t σ H Q):PT X e t':=fun O9 s σ H Q I q=>h O9 s σ H Q I (i σ H Q q)
def _root_.L2.PW.imp {t t':TT} (h:PW X e t) (i:∀ σ H Q,t' σ H Q->t σ H Q):PW X e t':=fun wh O9 s σ H Q I q=>h wh O9 s σ H Q I (i σ H Q q)
def _root_.L2.PA.imp {es:List Expr} {t t':TA} (h:PA X es t) (i:∀ σ H Q,t' σ H Q->t σ H Q):PA X es t':=fun pos O9 s σ H Q I q=>h pos O9 s σ H Q I (i σ H Q q)
def _root_.L2.PS.imp {st:Stmt} {t t':TS} (h:PS X st t) (i:∀ Dn σ H,t' Dn σ H->t Dn σ H):PS X st t':=fun O9 s σ H Dn I q=>h O9 s σ H Dn I (i Dn σ H q)
def _root_.L2.PSs.imp {st:List Stmt} {t t':TS} (h:PSs X st t) (i:∀ Dn σ H,t' Dn σ H->t Dn σ H):PSs X st t':=fun O9 s σ H Dn I q=>h O9 s σ H Dn I (i Dn σ H q)
def gj (K:Aa) (H:Hp):Prop:=∀ a o,H a=some o->K.lookup a=none
theorem Inv.kfree (I:Inv X O9 σ H s):gj X.K H:=fun a o e=>by
  cases q:X.K.lookup a with
  | none=>rfl
  | some ob =>
    have:=(I.bs a ob (I.ok.mod.kin a ob q)).2
    rw [e] at this;cases this
theorem _root_.L2.PE.kf {t:TE} (h:PE X e t):PE X e (fun σ H Q=>t σ H fun v H'=>gj X.K H'->Q v H'):=fun O9 s σ H Q I q =>
 thn (h O9 s σ H _ I q) fun u s' ⟨v,H',I',r,z⟩=>⟨v,H',I',r,z (Inv.kfree I')⟩
theorem Qe {α β:Type} {f:M α} {g:α->M β} {y:β} (h:(f >>= g) U=some (y,hp')):∃ x hp1,f U=some (x,hp1)/\g x hp1=some (y,hp'):=by
 change (f U).bind (fun p=>g p.1 p.2)=some (y,hp') at h
 cases q:f U with
 | none=>rw [q] at h;cases h
 | some p=>rw [q] at h;exact ⟨p.1,p.2,rfl,h⟩
theorem Qi {α:Type} {x y:α} {U hp':Hs} (h:(pure x:M α) U=some (y,hp')):x=y/\U=hp':=by
 change some (x,U)=some (y,hp') at h
 cases h;exact ⟨rfl,rfl⟩
theorem tD.run {K:Aa} {f:DEx} {Z:Ent} {Q:VK} (S:SOk K Z env σ ρ B U H) (e:f env U=some (d,hp1))
  (k:∀ v ρ' B' H',Gr K ρ B H ρ' B' H'->SOk K Z env σ ρ' B' hp1 H'->RepV K ρ' B' H' d v->Q v H'):tD K f σ H Q :=
 ⟨Z,env,ρ,B,U,d,hp1,S,e,fun v ρ' B' H' g W r=>k v ρ' B' H' g (S.grow g W) r⟩
def Qc (i:Nat):DEx:=fun env=>match env[i]? with
 | some (.val d)=>pure d
 | _=>failure
def eC (d:DV):DEx:=fun _=>pure d
theorem Qap {i:Nat} {env:En} {U hp':Hs} (h:Qc i env U=some (d,hp')):env[i]?=some (.val d)/\U=hp':=by
  unfold Qc at h
  cases q:env[i]? with
  | none=>rw [q] at h;cases h
  | some z =>
    rw [q] at h
    cases z with
    | val x=>obtain ⟨rfl,rfl⟩:=Qi h;exact ⟨rfl,rfl⟩
    | un=>cases h
    | acc _=>cases h
theorem Qa (i:Nat) {x:Str} {pos:Pos} (hN:X.N[i]?=some x:=by rfl) (hv:Vis X.env.scope x:=by first | exact Or.inl rfl | exact Or.inr (Or.inl rfl) | exact Or.inr (Or.inr rfl)) (hd:(x==("__debug__" : Str))=false:=by decide)
  (hcd:(x==("__classdict__" : Str))=false:=by decide):DE X (.Name x pos) (Qc i) :=
 (QfY hN hv hd hcd).imp fun σ H Q zz1=>by
  obtain ⟨Z,env,ρ,B,U,d,hp',S,e,k⟩:=zz1
  obtain ⟨e1,rfl⟩:=Qap e
  obtain ⟨v,h1,h2⟩:=S.slot i d e1
  exact ⟨v,h1,k v ρ B H Gr.refl S.wo h2⟩
theorem qB (h:PE X e (tC v)) (r:∀ K ρ B H,RepV K ρ B H d v):DE X e (eC d) :=
 h.imp fun σ H Q zz1=>by
  obtain ⟨Z,env,ρ,B,U,d',hp',S,e,k⟩:=zz1
  obtain ⟨rfl,rfl⟩:=Qi e
  exact k v ρ B H Gr.refl S.wo (r _ _ _ _)
theorem Qm {i:Int} {j pos}:DE X (.Constant (.int i) j pos) (eC (.int i)):=qB QfT fun _ _ _ _=>by unfold RepV;rfl
theorem JQ {b:Bool} {j pos}:DE X (.Constant (.bool b) j pos) (eC (.bl b)):=qB Qhe fun _ _ _ _=>by unfold RepV;rfl
theorem ZJ {j pos}:DE X (.Constant .none j pos) (eC .non):=qB QfU fun _ _ _ _=>by unfold RepV;rfl
theorem Zd {x:Str} {j pos}:DE X (.Constant (.str x) j pos) (eC (.str x)):=qB QfW fun _ _ _ _=>by unfold RepV;rfl
theorem Za {x:Str} {i:Int} {t:Tok} {pos:Pos} (hg:Gl X x) (hm:X.mg x=some (.int i t)) (hd:(x==("__debug__" : Str))=false:=by decide):DE X (.Name x pos) (eC (.int i)) :=
 qB (kA (v:=.int i) hg hm ⟨t,rfl⟩ hd) fun _ _ _ _=>by unfold RepV;rfl
def tP2 (K:Aa) (g:DV->DV->M DV):R2:=fun x y H Q=>∃ ρ B U dx dy d hp',WOk K ρ B U H/\RepV K ρ B H dx x/\RepV K ρ B H dy y/\g dx dy U=some (d,hp')/\Fol K ρ B H d hp' Q
def P2 (X:Cx) (f:Value->Value->Sem Value) (g:DV->DV->M DV):Prop:=OpR X f (tP2 X.K g)
def Qj (g:DV->DV->M DV) (a b:DEx):DEx:=fun env=>do let x <- a env;let y <- b env;g x y
variable {a b c:Expr} {fa fb fc:DEx} {pos:Pos}
theorem qC {K:Aa} {g:DV->DV->M DV} (h:tD K (Qj g fa fb) σ H Q):tOp (tP2 K g) (tD K fa) (tD K fb) σ H Q:=by
 obtain ⟨Z,env,ρ,B,U,d,hp',S,e,k⟩:=h
 obtain ⟨x,hp1,e1,e2⟩:=Qe e
 obtain ⟨y,hp2,e3,e4⟩:=Qe e2
 refine tD.run S e1 fun v ρ1 B1 H1 g1 S1 r1=>tD.run S1 e3 fun u ρ2 B2 H2 g2 S2 r2=>?_
 exact ⟨ρ2,B2,hp2,x,y,d,hp',S2.wo,RepV.grow S1.wo.rb g2 _ _ r1,r2,e4,fun w ρ' B' H' g W r=>k w ρ' B' H' (g1.trans (g2.trans g)) W r⟩
theorem Qy {op:Operator} {g:DV->DV->M DV} (ho:P2 X (binaryOp op) g) (ha:DE X a fa) (hb:DE X b fb):DE X (.BinOp a op b pos) (Qj g fa fb) :=
 (Qhg ho ha hb).imp fun _ _ _ h=>qC h
theorem xa {op:CmpOp} {g:DV->DV->M DV} (ho:P2 X (compareOp op) g) (ha:DE X a fa) (hb:DE X b fb) (hm:behindInMarks op b=false):DE X (.Compare a [op] [b] pos) (Qj g fa fb) :=
 (QdV ho ha hb hm).imp fun _ _ _ h=>qC h
def asB:DV->M Bool
 | .bl b=>pure b
 | _=>failure
def eB (f:DEx):DTx:=fun env=>do asB (<- f env)
theorem qz {d:DV} {c:Bool} {U hp':Hs} (h:asB d U=some (c,hp')):d=.bl c/\U=hp':=by
 cases d with
 | bl b=>obtain ⟨rfl,rfl⟩:=Qi h;exact ⟨rfl,rfl⟩
 | _=>cases h
theorem RepV.blI {K:Aa} {b:Bool} {v:V} (h:RepV K ρ B H (.bl b) v):v=.bl b:=by unfold RepV at h;exact h
theorem RepV.intI {K:Aa} {b:Int} {v:V} (h:RepV K ρ B H (.int b) v):v=.int b:=by unfold RepV at h;exact h
theorem RepV.strI {K:Aa} {b:Str} {v:V} (h:RepV K ρ B H (.str b) v):v=.str b:=by unfold RepV at h;exact h
theorem RepV.nonI {K:Aa} {v:V} (h:RepV K ρ B H .non v):v=.non:=by unfold RepV at h;exact h
theorem RepV.tupI {K:Aa} {B:Eo} {v:V} (h:RepV K ρ B H (.tup ds) v):∃ a xs,v=.ref a/\¬ B a/\SqT K H a xs/\RepL K ρ B H ds xs:=by unfold RepV at h;exact h
theorem RepV.lstI {K:Aa} {B:Eo} {v:V} (h:RepV K ρ B H (.lst ds) v):∃ a xs,v=.ref a/\¬ B a/\SqL K H a xs/\RepL K ρ B H ds xs:=by unfold RepV at h;exact h
theorem RepV.refI {K:Aa} {ρ:Ep} {i:Nat} {v:V} (h:RepV K ρ B H (.ref i) v):∃ a,v=.ref a/\ρ[i]?=some a:=by unfold RepV at h;exact h
section
variable {K:Aa} {ρ:Ep} {B:Eo} {H:Hp}
theorem Jf {b:Bool}:RepV K ρ B H (.bl b) (.bl b):=by unfold RepV;rfl
theorem JW {b:Int}:RepV K ρ B H (.int b) (.int b):=by unfold RepV;rfl
theorem Y6:RepV K ρ B H .non .non:=by unfold RepV;rfl
theorem qY {a:Addr} (h1:¬ B a) (h2:SqT K H a xs) (h3:RepL K ρ B H ds xs):RepV K ρ B H (.tup ds) (.ref a):=by unfold RepV;exact ⟨a,xs,rfl,h1,h2,h3⟩
theorem KS {a:Addr} (h1:¬ B a) (h2:SqL K H a xs) (h3:RepL K ρ B H ds xs):RepV K ρ B H (.lst ds) (.ref a):=by unfold RepV;exact ⟨a,xs,rfl,h1,h2,h3⟩
end
theorem JR {e:Expr} (h:DE X e f) (he:∀ whole,isTrue e X.env whole=(do let v <- whole;standAt e.pos;holding [v] (truthy v)):=by intro _;rfl):DT X e (eB f) :=
 (Qgd h he).imp fun σ H Q zz1=>by
  obtain ⟨Z,env,ρ,B,U,d,hp',S,e,k⟩:=zz1
  obtain ⟨x,hp1,e1,e2⟩:=Qe e
  obtain ⟨rfl,rfl⟩:=qz e2
  exact tD.run S e1 fun v ρ1 B1 H1 g1 S1 r1=>⟨d,r1.blI,k ρ1 B1 H1 g1 S1.wo⟩
theorem Q1 {op:CmpOp} {g:DV->DV->M DV} (ho:P2 X (compareOp op) g) (ha:DE X a fa) (hb:DE X b fb) (hm:behindInMarks op b=false):DT X (.Compare a [op] [b] pos) (eB (Qj g fa fb)) :=
 (Qd9 ho ha hb hm).imp fun σ H Q zz1=>by
  obtain ⟨Z,env,ρ,B,U,d,hp',S,e,k⟩:=zz1
  obtain ⟨x,hp1,e1,e2⟩:=Qe e
  obtain ⟨rfl,rfl⟩:=qz e2
  exact qC (tD.run S e1 fun v ρ1 B1 H1 g1 S1 r1=>⟨d,r1.blI,k ρ1 B1 H1 g1 S1.wo⟩)
def Xm (f g:DTx):DTx:=fun env=>do if <- f env then g env else pure false
def eOr (f g:DTx):DTx:=fun env=>do if <- f env then pure true else g env
def Jo (f:DTx):DTx:=fun env=>do let b <- f env;pure (!b)
def XB (f g:DEx):DEx:=fun env=>do if <- asB (<- f env) then g env else pure (.bl false)
def zL (f g:DEx):DEx:=fun env=>do if <- asB (<- f env) then pure (.bl true) else g env
def X1 (f:DEx):DEx:=fun env=>do let b <- asB (<- f env);pure (.bl (!b))
def eIf (c:DTx) (f g:DEx):DEx:=fun env=>do if <- c env then f env else g env
theorem tDT.run {K:Aa} {f:DTx} {Z:Ent} {d:Bool} {Q:Bool->Hp->Prop} (S:SOk K Z env σ ρ B U H) (e:f env U=some (d,hp1))
  (k:∀ ρ' B' H',Gr K ρ B H ρ' B' H'->SOk K Z env σ ρ' B' hp1 H'->Q d H'):tDT K f σ H Q :=
 ⟨Z,env,ρ,B,U,d,hp1,S,e,fun ρ' B' H' g W=>k ρ' B' H' g (S.grow g W)⟩
variable {ca cb:DTx} {rest:List Expr}
def Kr (h:DT X a ca):DW X (.BoolOp .And [a] pos) ca:=Qec h
def XZ (h:DT X a ca):DW X (.BoolOp .Or [a] pos) ca:=Qgg h
theorem ua (ha:DT X a ca) (hb:DW X (.BoolOp .And (b::rest) pos) cb):DW X (.BoolOp .And (a::b::rest) pos) (Xm ca cb) :=
  (Qgf ha hb).imp fun σ H Q zz1=>by
    obtain ⟨Z,env,ρ,B,U,d,hp',S,e,k⟩:=zz1
    obtain ⟨x,hp1,e1,e2⟩:=Qe e
    refine tDT.run S e1 fun ρ1 B1 H1 g1 S1=>?_
    cases x with
    | true=>exact ur (tDT.run S1 e2 fun ρ2 B2 H2 g2 S2=>k ρ2 B2 H2 (g1.trans g2) S2.wo)
    | false =>
      obtain ⟨rfl,rfl⟩:=Qi e2
      exact uq (k ρ1 B1 H1 g1 S1.wo)
theorem qe (ha:DT X a ca) (hb:DW X (.BoolOp .Or (b::rest) pos) cb):DW X (.BoolOp .Or (a::b::rest) pos) (eOr ca cb) :=
  (Qhj ha hb).imp fun σ H Q zz1=>by
    obtain ⟨Z,env,ρ,B,U,d,hp',S,e,k⟩:=zz1
    obtain ⟨x,hp1,e1,e2⟩:=Qe e
    refine tDT.run S e1 fun ρ1 B1 H1 g1 S1=>?_
    cases x with
    | false=>exact uq (tDT.run S1 e2 fun ρ2 B2 H2 g2 S2=>k ρ2 B2 H2 (g1.trans g2) S2.wo)
    | true =>
      obtain ⟨rfl,rfl⟩:=Qi e2
      exact ur (k ρ1 B1 H1 g1 S1.wo)
def DW.pt (h:DW X e f):DT X e f:=h _
theorem Xl (h:DT X a ca):DT X (.UnaryOp .Not a pos) (Jo ca) :=
 (Qgc h).imp fun σ H Q zz1=>by
  obtain ⟨Z,env,ρ,B,U,d,hp',S,e,k⟩:=zz1
  obtain ⟨x,hp1,e1,e2⟩:=Qe e
  obtain ⟨rfl,rfl⟩:=Qi e2
  exact tDT.run S e1 fun ρ1 B1 H1 g1 S1=>k ρ1 B1 H1 g1 S1.wo
def Qfc {op:BoolOp} (h:DE X a fa):DE X (.BoolOp op [a] pos) fa:=QfV h
theorem Qfb (ha:DE X a fa) (hb:DE X (.BoolOp .And (b::rest) pos) fb):DE X (.BoolOp .And (a::b::rest) pos) (XB fa fb) :=
  (QfQ ha hb).imp fun σ H Q zz1=>by
    obtain ⟨Z,env,ρ,B,U,d,hp',S,e,k⟩:=zz1
    obtain ⟨x,hp1,e1,e2⟩:=Qe e
    obtain ⟨c,hp2,e3,e4⟩:=Qe e2
    obtain ⟨rfl,rfl⟩:=qz e3
    refine tD.run S e1 fun v ρ1 B1 H1 g1 S1 r1=>⟨c,r1.blI,?_⟩
    cases c with
    | true=>exact ur (tD.run S1 e4 fun v ρ2 B2 H2 g2 S2 r2=>k v ρ2 B2 H2 (g1.trans g2) S2.wo r2)
    | false =>
      obtain ⟨rfl,rfl⟩:=Qi e4
      exact uq (k _ ρ1 B1 H1 g1 S1.wo Jf)
theorem QeI (hc:DT X c ca) (ha:DE X a fa) (hb:DE X b fb):DE X (.IfExp c a b pos) (eIf ca fa fb) :=
 (Qch hc ha hb).imp fun σ H Q zz1=>by
  obtain ⟨Z,env,ρ,B,U,d,hp',S,e,k⟩:=zz1
  obtain ⟨x,hp1,e1,e2⟩:=Qe e
  refine tDT.run S e1 fun ρ1 B1 H1 g1 S1=>?_
  cases x with
  | true=>exact ur (tD.run S1 e2 fun v ρ2 B2 H2 g2 S2 r2=>k v ρ2 B2 H2 (g1.trans g2) S2.wo r2)
  | false=>exact uq (tD.run S1 e2 fun v ρ2 B2 H2 g2 S2 r2=>k v ρ2 B2 H2 (g1.trans g2) S2.wo r2)
def Qo:DAx:=fun _=>pure []
def Qd (f:DEx) (g:DAx):DAx:=fun env=>do let x <- f env;let xs <- g env;pure (x::xs)
theorem tDA.run {K:Aa} {f:DAx} {Z:Ent} {Q:List V->Hp->Prop} (S:SOk K Z env σ ρ B U H) (e:f env U=some (ds,hp1))
  (k:∀ vs ρ' B' H',Gr K ρ B H ρ' B' H'->SOk K Z env σ ρ' B' hp1 H'->RepL K ρ' B' H' ds vs->Q vs H'):tDA K f σ H Q :=
 ⟨Z,env,ρ,B,U,ds,hp1,S,e,fun vs ρ' B' H' g W r=>k vs ρ' B' H' g (S.grow g W) r⟩
theorem Qn:DA X [] Qo:=pa_nil.imp fun σ H Q zz1=>by
 obtain ⟨Z,env,ρ,B,U,ds,hp',S,e,k⟩:=zz1
 obtain ⟨rfl,rfl⟩:=Qi e
 exact k [] ρ B H Gr.refl S.wo RepL.nil
theorem Qb {e:Expr} {es:List Expr} (ha:DE X e f) (hr:DA X es g) (hs:starEach (e::es) X.env=(false,eval e X.env)::starEach es X.env:=by rfl):DA X (e::es) (Qd f g) :=
 (Y3 ha hr hs).imp fun σ H Q zz1=>by
  obtain ⟨Z,env,ρ,B,U,ds,hp',S,e,k⟩:=zz1
  obtain ⟨x,hp1,e1,e2⟩:=Qe e
  obtain ⟨xs,hp2,e3,e4⟩:=Qe e2
  obtain ⟨rfl,rfl⟩:=Qi e4
  exact tD.run S e1 fun v ρ1 B1 H1 g1 S1 r1=>tDA.run S1 e3 fun vs ρ2 B2 H2 g2 S2 r2=>k _ ρ2 B2 H2 (g1.trans g2) S2.wo (RepL.cons (RepV.grow S1.wo.rb g2 _ _ r1) r2)
def lim:Nat:=100000
theorem KH:lim<=sizeLine:=by decide
def Qz (c:Bool):M Unit:=if c then pure () else failure
theorem QK {c:Bool} {U hp':Hs} {u:Unit} (h:Qz c U=some (u,hp')):c=true/\U=hp':=by
 cases c with
 | true=>obtain ⟨_,rfl⟩:=Qi (show (pure ():M Unit) U=some (u,hp') from h);exact ⟨rfl,rfl⟩
 | false=>cases h
def Yo (ds:List DV):Bool:=decide (ds.length<=lim)
def qS {ds:List DV} (h:Yo ds=true):ds.length<=sizeLine:=Bj (Ee h) KH
def Zz (f:DAx):DEx:=fun env=>do let xs <- f env;Qz (Yo xs);pure (.tup xs)
def XC (f:DAx):DEx:=fun env=>do let xs <- f env;Qz (Yo xs);pure (.lst xs)
theorem jr {K:Aa} {H:Hp} {Q:VK} (W:WOk K ρ B U H) (r:RepL K ρ B H ds xs) (k:Fol K ρ B H (.tup ds) U Q):∀ p,H p=none->Q (.ref p) (upd H p (.tup xs)):=fun p hp' =>
 k _ ρ B _ (Gr.laid hp') (W.laid hp') (qY (fun z=>W.bt p z hp') (SqT.of Q9) (RepL.grow W.rb (Gr.laid hp') _ _ r))
theorem jq {K:Aa} {H:Hp} {Q:VK} (W:WOk K ρ B U H) (r:RepL K ρ B H ds xs) (k:Fol K ρ B H (.lst ds) U Q):∀ p,H p=none->Q (.ref p) (upd H p (.lst xs)):=fun p hp' =>
 k _ ρ B _ (Gr.laid hp') (W.laid hp') (KS (fun z=>W.bt p z hp') (SqL.of Q9) (RepL.grow W.rb (Gr.laid hp') _ _ r))
def Fol.after {K:Aa} (g:Gr K ρ B H ρ1 B1 H1) (k:Fol K ρ B H d hp' Q):Fol K ρ1 B1 H1 d hp' Q:=fun v ρ' B' H' g' W r=>k v ρ' B' H' (g.trans g') W r
theorem Zq {es:List Expr} {x1} (h:DA X es f):DE X (.Tuple es x1 pos) (Zz f) :=
 (QfX h).imp fun σ H Q zz1=>by
  obtain ⟨Z,env,ρ,B,U,d,hp',S,e,k⟩:=zz1
  obtain ⟨xs,hp1,e1,e2⟩:=Qe e
  obtain ⟨_,hp2,e3,e4⟩:=Qe e2
  obtain ⟨hs,rfl⟩:=QK e3
  obtain ⟨rfl,rfl⟩:=Qi e4
  exact tDA.run S e1 fun vs ρ1 B1 H1 g1 S1 r1=>⟨by rw [<- r1.length];exact qS hs,jr S1.wo r1 (k.after g1)⟩
theorem yK {es:List Expr} (h:DA X es f):DE X (.List es pos) (XC f) :=
 (Qci h).imp fun σ H Q zz1=>by
  obtain ⟨Z,env,ρ,B,U,d,hp',S,e,k⟩:=zz1
  obtain ⟨xs,hp1,e1,e2⟩:=Qe e
  obtain ⟨_,hp2,e3,e4⟩:=Qe e2
  obtain ⟨hs,rfl⟩:=QK e3
  obtain ⟨rfl,rfl⟩:=Qi e4
  exact tDA.run S e1 fun vs ρ1 B1 H1 g1 S1 r1=>⟨by rw [<- r1.length];exact qS hs,jq S1.wo r1 (k.after g1)⟩
end
end D
namespace L2
open PySem PySem.Spec PyProof.Rows
def XJ (X:Cx) (scope:Scope) (cl:List (Str×Addr)) (C:Addr) (N:List Str) (s₀:Shared) (H₀:Hp) (ex:Ep):Cx where
 prog:=X.prog
 w:=X.w
 K:=X.K
 mg:=X.mg
 O8:=X.O8
 A:=X.A
 N:=N
 s₀:=s₀
 H₀:=H₀
 env:=compEnvC scope cl C X.env
 outer:=X.stack
 stack:=X.stack
 ex:=ex
 fn:=fun _=>false
 calm:=X.calm
 pn:=[]
 xe:=fun _ _=>False
def AllP {α:Type} (P:α->Prop):List α->Prop
 | []=>True
 | x::r=>P x/\AllP P r
theorem AllP.mem {α:Type} {P:α->Prop}:∀ {l:List α} {x:α},AllP P l->x∈l->P x
 | [],_,_,h=>nomatch h
 | y::r,x,⟨h1,h2⟩,h=>(Bk.mp h).elim (fun e=>e▸h1) fun e=>AllP.mem h2 e
def Caps (X:Cx) (scope:Scope) (cl:List (Str×Addr)):List Str->List Nat->Prop
  | [],[]=>True
  | y :: ys, i :: is => X.N[i]? = some y /\ (X.env.kindOf y = some .cell ∨ X.env.kindOf y = some .free) /\ (∃ c, cl.lookup y = some c) /\
      (relabel scope X.env).names.lookup y≠some .local/\Caps X scope cl ys is
  | _,_=>False
theorem Caps.get {cl:List (Str×Addr)}:∀ {ys:List Str} {is:List Nat} {j:Nat} {y:Str},Caps X scope cl ys is->ys[j]?=some y ->
    ∃ i,is[j]?=some i/\X.N[i]?=some y/\(X.env.kindOf y=some .cell∨X.env.kindOf y=some .free)/\(∃ c,cl.lookup y=some c)/\(relabel scope X.env).names.lookup y≠some .local
  | [],_,_,_,_,h=>by simp at h
  | y::ys,[],_,_,h,_=>by simp [Caps] at h
  | y::ys,i::is,0,z,⟨h1,h2,h3,h4,_⟩,h=>by simp at h;subst h;exact ⟨i,rfl,h1,h2,h3,h4⟩
  | y::ys,i::is,j+1,z,⟨_,_,_,_,h5⟩,h=>by
    obtain ⟨k,a,b⟩:=Caps.get h5 (by simpa using h)
    exact ⟨k,by simpa using a,b⟩
theorem Caps.length {cl:List (Str×Addr)}:∀ {ys:List Str} {is:List Nat},Caps X scope cl ys is->ys.length=is.length
 | [],[],_=>rfl
 | [],_::_,h=>by simp [Caps] at h
 | _::_,[],h=>by simp [Caps] at h
 | _::ys,_::is,⟨_,_,_,_,h⟩=>by simp [Caps.length h]
structure Ge (X:Cx) (x:Str) (scope:Scope) (cl:List (Str×Addr)) (caps:List Str) (idx:List Nat):Prop where
 clos:closureFor scope X.env=pure cl
 cell:∀ y∈scope.names,y.2≠.cell
 kind:scope.kind=.function
 names:∀ y∈scope.names,y.2=.local->scope.names.lookup y.1=some .local
 hx:scope.names.lookup x=some .local
 cls:AllP (fun p:Str×Addr=>X.env.cells.lookup p.1=some p.2) cl
 has:((relabel scope X.env).names.all fun p=>!(p.2==.cell||p.2==.free)||(cl.lookup p.1).isSome)=true
 cps:Caps X scope cl caps idx
 nd:(x::caps).Nodup
def cσ (idx:List Nat) (σ:St) (o:Option V):St:=o::idx.map fun i=>(σ[i]?).join
def PTs (X:Cx) (ifs:List Expr) (t:TT):Prop :=
  ∀ (O9 : List (Addr × Obj)) (s : Shared) (σ : St) (H : Hp) (Q : Bool -> Hp -> Prop), Inv X O9 σ H s -> t σ H Q ->
    wpAny (model X.prog X.w) X.A (forIn ifs true fun c r=>if r=true then do let ok <- isTrue c X.env (eval c X.env);pure (ForInStep.yield ok) else pure (ForInStep.yield r)) (TP X O9 σ Q) X.xe s
def Qea {t:TT} (h:PT X c t):PTs X [c] t:=fun O9 s σ H Q I q=>wpAny_tests_one (h O9 s σ H Q I q)
section
variable {prog:Program} {w:World} {A:Around} {R:Result->Shared->Prop} {s:Shared}
theorem Kh {elt target iter:Expr} {ifs:List Expr} {scope:Scope} {pos:Pos} {it acc:Value} {env:Env} (I:Nat->Shared->Prop)
    (turn:∀ n s,I n s->wpAny (model prog w) A (pyNext it) (fun r s₁=>match r with
      | none=>R (.ok .next) s₁
      | some v=>wpAny (model prog w) A (letOwnedTupleGo target it v) (fun _ s₁'=>wpAny (model prog w) A (assign target env v) (fun _ s₂ =>
          wpAny (model prog w) A (forIn ifs true fun c r=>if r=true then do let ok <- isTrue c env (eval c env);pure (ForInStep.yield ok) else pure (ForInStep.yield r)) (fun ok s₃ =>
            if ok=true then wpAny (model prog w) A (eval elt env) (fun x s₄ =>
              wpAny (model prog w) A (call (.builtin "list.append") [acc,x]) (fun _ s₅=>∃ m,m < n/\I m s₅) (fun _ _=>False) s₄) (fun _ _=>False) s₃
            else ∃ m,m < n/\I m s₃) (fun _ _=>False) s₂) (fun _ _=>False) s₁') (fun _ _=>False) s₁) (fun _ _=>False) s)
    (n:Nat) (h:I n s) :
    codeAny (model prog w) A (.compLoop (.ListComp elt [⟨target,iter,ifs,0⟩] scope pos) 0 it acc env) R s:=by
  refine codeAny_loop rfl I (fun n s hI=>?_) n h
  show wpAny _ A ((compTurn (.ListComp elt [⟨target,iter,ifs,0⟩] scope pos) 0 it acc env).onRaise (fun x=>do noteFrame x env;theTreesLotGoes x)) _ _ s
  refine wpAny_noted ?_
  rw [compTurn_list]
  refine C7 (wpAny_standAt (C7 (wpAny_mono (turn n s hI) (fun r s₁ h₁=>?_) fun _ _ h'=>h'.elim)))
  cases r with
  | none=>exact Ea h₁
  | some v =>
    refine C7 (wpAny_mono h₁ (fun _ s₁' h₁'=>?_) fun _ _ h'=>h'.elim)
    refine C7 (wpAny_mono h₁' (fun _ s₂ h₂=>C7 (wpAny_mono h₂ (fun ok s₃ h₃=>?_) fun _ _ h'=>h'.elim)) fun _ _ h'=>h'.elim)
    cases ok with
    | false=>exact Ea ⟨rfl,h₃⟩
    | true =>
      exact C7 (C7 (wpAny_mono h₃ (fun x s₄ h₄=>C7 (wpAny_mono h₄ (fun _ s₅ h₅=>Ea (Ea ⟨rfl,h₅⟩)) fun _ _ h'=>h'.elim)) fun _ _ h'=>h'.elim))
end
def kQ (K:Aa) (wi:TI) (tt:TT) (te:TE) (idx:List Nat):TE:=fun σ H Q=>wi σ H fun J H1=>∀ D,H1 D=none->K.lookup D=none->∃ W:Nat->Nat->List V->Hp->Prop,(∃ m,W 0 m [] (upd H1 D (.lst []))) /\
  ∀ i m ys H, W i m ys H -> H D = some (.lst ys) /\ ((J.stop i H /\ Q (.ref D) H) ∨ (J.go i H /\ ∀ x H', J.yld i H x H' -> tt (cσ idx σ (some x)) H' fun b H2 =>
    if b=true then te (cσ idx σ (some x)) H2 fun y H3=>H3 D=some (.lst ys)/\ys.length < sizeLine/\∃ m',m' < m/\W (i+1) m' (ys++[y]) (upd H3 D (.lst (ys++[y])))
    else ∃ m',m' < m/\W (i+1) m' ys H2))
section
variable {X:Cx} {elt iter:Expr} {x:Str} {px:Pos} {ifs:List Expr} {scope:Scope} {cl:List (Str×Addr)} {pos:Pos} {caps:List Str} {idx:List Nat} {wi:TI} {tt:TT} {te:TE}
theorem GA {E:Eh} {use:Option (Value->Sem Unit)} {QQ:Eh} {newpos:Pos} (S:Ge X x scope cl caps idx) (hc:X.calm=true) (hi:PI X (.Name x px) iter wi)
    (ht:∀ C s₀ H₀ ex,PTs (XJ X scope cl C (x::caps) s₀ H₀ ex) ifs tt) (he:∀ C s₀ H₀ ex,PE (XJ X scope cl C (x::caps) s₀ H₀ ex) elt te)
    {O9:Ei} {s:Shared} {σ:St} {H:Hp} {Q:VK} (I:Inv X O9 σ H s) (h:kQ X.K wi tt te idx σ H Q)
    (hE:X.xe=E)
    (hend:∀ (D C:Addr) (H':Hp) (s':Shared) (m:Ej),Inv X O9 σ H' s'->Q (.ref D) H'->s'.heap.Ns C m->H' C=none->C≠X.env.locals->X.s₀.heap.objs.size<=C->(∀ x c,X.env.cells.lookup x=some c->c≠C)->(∀ p∈X.pn++O9,p.1≠C) ->
      compPost (model X.prog X.w) X.A E use QQ (.ref D) C (.ok .next) s')
    (hs:∀ x,foldedSetIterable iter X.env x=pure x:=by intro _;rfl) :
    wpAny (model X.prog X.w) X.A (comprehension (.ListComp elt [⟨.Name x px,iter,ifs,0⟩] scope pos) scope X.env newpos (newList []) false (eval iter X.env) use) QQ E s:=by
  subst hE
  refine wpAny_comprehension_free (use:=use) rfl hs S.clos S.kind S.names (thn (hi O9 s σ H _ I h) fun xv s1 h1=>thn h1 fun itv s2 h2=>?_)
  obtain ⟨it,fp,tn,J,H2,rfl,I2,T,st2,f2,hQ⟩:=h2
  refine wpAny_newObj_type (wpAny_newFunctionEnv S.cell (by intro y hy;simp at hy) (fun h₁ hns₁ hsb₁=>?_) S.kind)
  dsimp only at hns₁ hsb₁ ⊢
  generalize hH2:s2.heap.push { cls:=.type "list", dict:=none,data:=.seq ([]:List Value).toArray }=hp3 at hns₁ hsb₁ ⊢
  have hC:hp3.objs.size=s2.heap.objs.size+1:=by rw [<- hH2,Co]
  have keep3:∀ b o,s2.heap.get? b=some o->hp3.get? b=some o:=fun b o e=>hH2▸Ad _ e
  have hDf:H2 s2.heap.objs.size=none:=I2.hok.fresh (Ae _)
  have I3:Inv X O9 σ (upd H2 s2.heap.objs.size (.lst [])) { s2 with heap:=hp3 } :=
    I2.laid (t':=s2.toks) keep3 (Ae _) ⟨Be _,[],_,.nil,hH2▸Av _ rfl⟩
  have hDk:X.K.lookup s2.heap.objs.size=none:=by
    cases q:X.K.lookup s2.heap.objs.size with
    | none=>rfl
    | some o=>exact absurd (Ap (I2.kIn _ o q)) (Cw _)
  obtain ⟨W,⟨m0,w0⟩,turn⟩:=hQ _ hDf hDk
  generalize hDd:s2.heap.objs.size=D at *
  generalize hCc:hp3.objs.size=C at *
  have ltC:∀ b o,hp3.get? b=some o->b≠C:=fun b o e=>by rw [<- hCc];exact Bf (Ap e)
  have keep4:∀ b o,hp3.get? b=some o->h₁.get? b=some o:=fun b o e=>hsb₁.extBut b o (ltC b o e) (Ad _ e)
  have s3sz:({ s2 with heap:=hp3 }:Shared).heap.objs.size=C:=hCc
  have clE:∀ y c,cl.lookup y=some c->X.env.cells.lookup y=some c:=fun y c e=>S.cls.mem (PySem.mem_of_lookup e)
  have fpLt:∀ b∈fp,∃ o,s2.heap.get? b=some o:=fun b hb=>let ⟨o,e,_⟩:=T.obj _ _ st2 b hb;⟨o,e⟩
  have fpC:∀ b∈fp,b≠C:=fun b hb=>let ⟨o,e⟩:=fpLt b hb;ltC b o (keep3 b o e)
  have fpD:∀ b∈fp,b≠D:=fun b hb=>let ⟨o,e⟩:=fpLt b hb;by rw [<- hDd];exact Bf (Ap e)
  have fr3:∀ b∈fp,(upd H2 D (.lst [])) b=none:=fun b hb=>by rw [QX (fpD b hb)];exact (f2 b hb).1
  have cellLt:∀ y c,X.env.cells.lookup y=some c->c≠C:=fun y c e=>let ⟨v,o,ho,_⟩:=I3.cell y c e;ltC c o ho
  have fpStk:∀ b∈fp,b∉frs X.stack:=fun b hb z=>(Bk.mp (I2.stkSub b z)).elim (f2 b hb).2.1 (f2 b hb).2.2.1
  let X':=XJ X scope cl C (x::caps) { s2 with heap:=hp3 } (upd H2 D (.lst [])) fp
  have ok':X'.Ok:=by
    refine ⟨I3.ok.mod,by show (relabel scope X.env).kind=_;exact S.kind,I3.ok.glob,I3.ok.blt,by show hp3.objs.size<=C;rw [hCc];exact Ae _,fun y z c h1 h2=>I3.ok.inj y z c (clE y c h1) (clE z c h2),fun y hy=>?_,
      fun y c z=>(by cases z),I3.ok.hd,I3.ok.frames,.inl rfl,fun b hb=>⟨fpC b hb,fun y c e=>(f2 b hb).2.2.2.2.1 y c (clE y c e)⟩,I3.bs,Bj I3.ok.bsz I3.sz,
      fun b o e hb=>?_,fun b hb=>fpStk b hb,I3.stack,I3.stkFree⟩
    . have hy':(relabel scope X.env).names.lookup y=some .cell∨(relabel scope X.env).names.lookup y=some .free:=hy
      have q:=S.has
      rw [List.all_eq_true] at q
      have:(cl.lookup y).isSome=true:=by
        rcases hy' with z | z
        . have q:=q _ (PySem.mem_of_lookup z);simpa using q
        . have q:=q _ (PySem.mem_of_lookup z);simpa using q
      exact Option.isSome_iff_exists.mp this
    . have:=(f2 b hb).2.2.2.1
      have e3:=(I2.ok.bs b o e).1
      rcases this with z | z
      . exact I2.ok.noex b o e z
      . exact absurd (Ay (Ap e3) z) (Cw _)
  have capsLen:=S.cps.length
  have I4:Inv X' [] (cσ idx σ none) (upd H2 D (.lst [])) { s2 with heap:=h₁,toks:=s2.toks+([]:List (Str×Value)).length }:=by
    refine ⟨ok',rfl,I3.bare,Un.kept keep4,⟨_,hns₁,fun i y v e1 e2 e3=>?_⟩,fun y c e=>?_,?_,fun y c e=>I3.freeC y c (clE y c e),fun p U=>absurd (show p∈([]:Ei) from U) (by simp),I3.hok.kept keep4,?_⟩
    . cases i with
      | zero=>exact absurd e2 (by simp [cσ])
      | succ j =>
        obtain ⟨k,h1,h2,h3,⟨c,h4⟩,h5⟩:=S.cps.get (show caps[j]?=some y by have e1':(x::caps)[j+1]?=some y:=e1;simpa using e1')
        have e2':(σ[k]?).join=some v:=by simpa [cσ,h1] using e2
        have e2'':σ[k]?=some (some v):=by
          cases q:σ[k]? with
          | none=>rw [q] at e2';cases e2'
          | some z=>rw [q] at e2';exact congrArg some e2'
        obtain ⟨mL,hnL,hl⟩:=I3.loc
        have vis:Vis X.env.scope y:=by rcases h3 with z | z;exact .inr (.inl z);exact .inr (.inr z)
        obtain ⟨u,r,l⟩:=hl k y v h2 e2'' vis
        refine ⟨u,r,.inr ⟨?_,c,h4,?_⟩⟩
        . have e3':(relabel scope X.env).names.lookup y=some .local∨(relabel scope X.env).names.lookup y=some .cell∨(relabel scope X.env).names.lookup y=some .free:=e3
          rcases e3' with z | z | z
          . exact absurd z h5
          . exact .inl z
          . exact .inr z
        . rcases l with ⟨z,_⟩ | ⟨_,c',e,z⟩
          . rcases h3 with q | q <;> · rw [q] at z;cases z
          . rw [clE y c h4] at e;cases e
            obtain ⟨o,ho,hd⟩:=z
            exact ⟨o,keep4 _ _ ho,hd⟩
    . obtain ⟨v,o,ho,hd⟩:=I3.cell y c (clE y c e)
      exact ⟨v,o,keep4 _ _ ho,hd⟩
    . exact I3.hok.fresh (by show hp3.objs.size<=C;rw [hCc];exact Ae _)
    . simp [cσ,X',XJ,capsLen]
  have st4:tn 0 h₁:=T.keep _ _ _ st2 fun b _ o e=>keep4 b o (keep3 b o e)
  have fpX:∀ {H':Hp} {pins':Ei},(∀ b∈fp,H' b=none)->(pins'=[])->∀ b∈fp,U8 X' pins' H' b:=fun hn e b hb=>by
    subst e
    exact ⟨hn b hb,fpC b hb,fpStk b hb,.inl hb,fun y c e=>(f2 b hb).2.2.2.2.1 y c (clE y c e),fun p U=>absurd (show p∈([]:Ei) from U) (by simp)⟩
  have loop:∀ s₃:Shared,s₃={ s2 with heap:=h₁,toks:=s2.toks+([]:List (Str×Value)).length } ->
      codeAny (model X.prog X.w) X.A (.compLoop (.ListComp elt [⟨.Name x px,iter,ifs,0⟩] scope pos) 0 (.ref it) (.ref D) (compEnvC scope cl C X.env)) (compPost (model X.prog X.w) X.A X.xe use QQ (.ref D) C) s₃:=by
    rintro s₃ rfl
    refine Kh (fun n s'=>∃ i o H' ys,Inv X' [] (cσ idx σ o) H' s'/\tn i s'.heap/\(∀ b∈fp,H' b=none)/\W i n ys H') ?_ m0 ⟨0,none,_,[],I4,st4,fr3,w0⟩
    rintro n s5 ⟨i,o,H5,ys,I5,st5,fr5,w5⟩
    obtain ⟨hD,tw⟩:=turn i n ys H5 w5
    rcases tw with ⟨stop,q⟩ | ⟨go,step⟩
    . refine thn (T.done X' rfl rfl rfl hc i [] s5 _ H5 _ I5 (fpX fr5 rfl) st5 stop) fun r s6 ⟨hr,I6⟩=>?_
      subst hr
      obtain ⟨m6,hn6,_⟩:=I6.loc
      have I7:Inv X O9 σ H5 s6:=I3.call' (s':=s6) (ch:=fp) I6.os I6.O8 I6.hok I6.bare fun b hb=>⟨(f2 b hb).2.2.2.1,(f2 b hb).2.1,(f2 b hb).2.2.2.2.1,(f2 b hb).2.2.2.2.2⟩
      refine hend D C H5 s6 m6 I7 q hn6 I6.free ?_ ?_ cellLt fun p U=>?_
      . rw [<- hCc];exact C5 I3.lt
      . rw [<- hCc];exact I3.sz
      . exact ltC p.1 p.2 (I3.pin p U).1
    . refine thn (T.item X' rfl rfl rfl hc i [] s5 _ H5 _ I5 (fpX fr5 rfl) st5 go) fun r s6 ⟨u,hr,h6⟩=>?_
      subst hr
      refine thn h6 fun _ s7 ⟨y,H7,I7,r7,y7,st7,fr7⟩=>?_
      have I7':=I7.pinned (fpX fr7 rfl) (T.obj _ _ st7)
      refine thn (kB (X:=X') (i:=0) S.nd rfl (.inl (lookup_relabel_local S.hx)) (.inr (lookup_relabel_local S.hx)) _ s7 _ H7 y u (fun σ' H'=>σ'=cσ idx σ (some y)/\H'=H7) I7' r7 ⟨rfl,rfl⟩) fun _ s8 ⟨σ8,H8,I8,e8,e8'⟩=>?_
      subst e8
      subst e8'
      have again:∀ {H9:Hp} {s9:Shared} {ys':List V},Inv X' ([]++Vp fp s7.heap) (cσ idx σ (some y)) H9 s9->(∃ m',m' < n/\W (i+1) m' ys' H9) ->
          ∃ m,m < n/\∃ i o H' ys,Inv X' [] (cσ idx σ o) H' s9/\tn i s9.heap/\(∀ b∈fp,H' b=none)/\W i m ys H':=fun {H9 s9 ys'} I9 ⟨m',hm,w9⟩=>by
        refine ⟨m',hm,i+1,some y,H9,ys',I9.unpinned,T.keep _ _ _ st7 fun b hb o e=>(I9.pin (b,o) (Aj _ (Aj _ (Y1 hb e)))).1,fun b hb=>?_,w9⟩
        obtain ⟨o,e,d⟩:=T.obj _ _ st7 b hb
        exact (I9.pin (b,o) (Aj _ (Aj _ (Y1 hb e)))).2.1
      refine thn (ht _ _ _ _ _ s8 _ H8 _ I8 (step y H8 y7)) fun ok s9 ⟨H9,I9,q9⟩=>?_
      cases ok with
      | false=>exact again I9 (by rw [C8 Bz] at q9;exact q9)
      | true =>
        rw [C9 rfl] at q9 ⊢
        refine thn (he _ _ _ _ _ s9 _ H9 _ I9 q9) fun v s10 zz1=>?_
        obtain ⟨z,H10,I10,r10,hD10,hlen,m',hm,w10⟩:=zz1
        refine thn (UN (X:=X') _ s10 _ H10 (.ref D) [z] (.ref D) [v] (fun _ H'=>H'=upd H10 D (.lst (ys++[z]))) I10 rfl (.cons r10 .nil) ⟨D,ys,z,rfl,rfl,hD10,hlen,rfl⟩) fun _ s11 ⟨_,H11,I11,_,e11⟩=>?_
        subst e11
        exact again I11 ⟨m',hm,w10⟩
  exact codeAny_compStart_list (loop _ rfl) (T.self X.A 0 _ _ _ st4 (loop _ rfl))
end
section
variable {X:Cx} {elt iter:Expr} {x:Str} {px:Pos} {ifs:List Expr} {scope:Scope} {cl:List (Str×Addr)} {pos:Pos} {caps:List Str} {idx:List Nat} {wi:TI} {tt:TT} {te:TE}
theorem QdW (S:Ge X x scope cl caps idx) (hc:X.calm=true) (hi:PI X (.Name x px) iter wi)
  (ht:∀ C s₀ H₀ ex,PTs (XJ X scope cl C (x::caps) s₀ H₀ ex) ifs tt) (he:∀ C s₀ H₀ ex,PE (XJ X scope cl C (x::caps) s₀ H₀ ex) elt te)
  (hs:∀ x,foldedSetIterable iter X.env x=pure x:=by intro _;rfl):PE X (.ListComp elt [⟨.Name x px,iter,ifs,0⟩] scope pos) (kQ X.K wi tt te idx):=by
 intro O9 s σ H Q I h
 rw [eval_ListComp]
 refine GA (use:=none) S hc hi ht he I h rfl (fun D C H' s' m I' q hn hC h1 h2 h3 h4=>?_) hs
 show ∃ m,s'.heap.Ns C m/\∀ h',Heap.SameBut C s'.heap h'->EP X O9 σ Q (.ref D) { s' with heap:=h' }
 exact ⟨m,hn,fun h' hs=>⟨.ref D,H',I'.turned (t':=s'.toks) (fun b o hb e=>hs.extBut b o hb e) hC (Ne.symm (Ne.symm h1)) (.inr h2) h3 h4,rfl,q⟩⟩
theorem Qd6 {i:Nat} {y:Str} {py spos:Pos} (S:Ge X x scope cl caps idx) (hc:X.calm=true) (hi:PI X (.Name x px) iter wi)
  (ht:∀ C s₀ H₀ ex,PTs (XJ X scope cl C (x::caps) s₀ H₀ ex) ifs tt) (he:∀ C s₀ H₀ ex,PE (XJ X scope cl C (x::caps) s₀ H₀ ex) elt te)
  (hN:X.N.Nodup) (hy:X.N[i]?=some y) (hx:Loc X.env.scope y) (hsw:swapsWith (.ListComp elt [⟨.Name x px,iter,ifs,0⟩] scope pos) (some (.Name y py)) spos.line X.env=pure true)
  (hf:X.fn y=true∨X.env.scope.names.lookup y=some .local:=by first | exact .inl rfl | exact .inr rfl | assumption)
  (hs:∀ x,foldedSetIterable iter X.env x=pure x:=by intro _;rfl):PS X (.Assign [.Name y py] (.ListComp elt [⟨.Name x px,iter,ifs,0⟩] scope pos) spos) (Qeu (kQ X.K wi tt te idx) (gT i)):=by
 intro O9 s σ H D I h
 rw [exec_Assign_Name_used _ _ _ _ hsw]
 refine C7 (wpAny_standAt (C7 ?_))
 show wpAny _ X.A (do let _ <- comprehension (.ListComp elt [⟨.Name x px,iter,ifs,0⟩] scope pos) scope X.env _ (newList []) false (eval iter X.env) (some (assign (.Name y py) X.env))) _ _ s
 refine C7 (wpAny_mono (GA (use:=some (assign (.Name y py) X.env)) (QQ:=fun _ s'=>SP X O9 D .next s') S hc hi ht he I h rfl (fun Da C H' s' m I' q hn hC h1 h2 h3 h4=>?_) hs) (fun _ s' hq=>Ea (Ea hq)) fun _ _ e=>e)
 show wpAny _ X.A (assign (.Name y py) X.env (.ref Da)) (fun _ s''=>∃ m,s''.heap.Ns C m/\∀ h',Heap.SameBut C s''.heap h'->SP X O9 D .next { s'' with heap:=h' }) _ s'
 refine wpAny_assign_Name (U2 I' hN hy hx (v:=.ref Da) rfl (fun s'' I'' ⟨a,hs,ha⟩=>?_) hf)
 refine ⟨m,hn.sameBut hs ?_,fun h' hs'=>⟨_,H',I''.turned (t':=s''.toks) (fun b o hb e=>hs'.extBut b o hb e) hC h1 (.inr h2) h3 h4,q⟩⟩
 rcases ha with rfl | ha
 ·exact h1
 ·exact Ne.symm (h3 _ _ ha)
end
end L2
namespace D
open PySem PySem.Spec PyProof.Rows L2
section
variable {K:Aa} {Z:Ent} {env:En} {σ:St} {ρ ρ':Ep} {B B':Eo} {U hp':Hs} {H H':Hp}
theorem SOk.set {i:Nat} (S:SOk K Z env σ ρ B U H) (r:RepV K ρ B H d v):SOk K Z (env.set i (.val d)) (σ.set i (some v)) ρ B U H where
 gr:=S.gr
 zb:=S.zb
 wo:=S.wo
 slot:=fun j e h=>by
  by_cases hj:j=i
  ·subst hj
   have hl:j < env.length:=by have:=(Ac.mp h).1;simpa using this
   rw [Au hl] at h;cases h
   exact ⟨v,Au (by rw [S.len];exact hl),r⟩
  ·rw [Am (Ne.symm hj)] at h ⊢
   exact S.slot j e h
 accs:=fun j ds h=>by
  by_cases hj:j=i
  ·subst hj
   have hl:j < env.length:=by have:=(Ac.mp h).1;simpa using this
   rw [Au hl] at h;cases h
  ·rw [Am (Ne.symm hj)] at h ⊢
   exact S.accs j ds h
 adis:=fun j k ds es a h1 h2 h3 h4=>by
  have nj:∀ {j:Nat} {ds:List DV},(env.set i (.val d))[j]?=some (.acc ds)->j≠i:=fun {j ds} h e=>by
   subst e
   have hl:j < env.length:=by have:=(Ac.mp h).1;simpa using this
   rw [Au hl] at h;cases h
  have hj:=nj h1
  have hk:=nj h2
  rw [Am (Ne.symm hj)] at h1 h3
  rw [Am (Ne.symm hk)] at h2 h4
  exact S.adis j k ds es a h1 h2 h3 h4
 len:=by simp [S.len]
end
section
variable {X:Cx} {e a b c:Expr} {f fa fb:DEx} {ca cb:DTx} {pos:Pos} {st:Stmt} {sts rest:List Stmt} {s s':DSx}
theorem FolS.after {K:Aa} {Z:Ent} {fl:Fl} {D:U7} (g:Gs K ρ B H ρ1 B1 H1) (k:FolS K Z ρ B H fl env' hp' D):FolS K Z ρ1 B1 H1 fl env' hp' D :=
 fun σ' ρ' B' H' g' S=>k σ' ρ' B' H' (g.trans g') S
def Zc:DSx:=fun env=>pure (.nx,env)
def Qr (f g:DSx):DSx:=fun env=>do
 let r <- f env
 match r.1 with
 | .nx=>g r.2
 | _=>pure r
def sIf (c:DTx) (f g:DSx):DSx:=fun env=>do if <- c env then f env else g env
def QG (f:DEx):DSx:=fun env=>do let d <- f env;pure (.rt d,env)
def X7:DSx:=fun env=>pure (.rt .non,env)
def Z7 (f:DEx):DSx:=fun env=>do let _ <- f env;pure (.nx,env)
def QJ (i:Nat) (f:DEx):DSx:=fun env=>do let d <- f env;pure (.nx,env.set i (.val d))
theorem QL:DSs X [] Zc:=pss_nil.imp fun D σ H zz1=>by
 obtain ⟨Z,env,ρ,B,U,fl,env',hp',S,e,k⟩:=zz1
 obtain ⟨e1,rfl⟩:=Qi e
 cases e1
 exact k σ ρ B H Gs.refl S
theorem QcC {K:Aa} {D:U7} (h:tDS K (Qr s s') D σ H):QhB (tDS K s) (tDS K s') D σ H:=by
 obtain ⟨Z,env,ρ,B,U,fl,env',hp',S,e,k⟩:=h
 obtain ⟨⟨f1,env1⟩,hp1,e1,e2⟩:=Qe e
 refine ⟨Z,env,ρ,B,U,f1,env1,hp1,S,e1,fun σ' ρ' B' H' g S'=>?_⟩
 cases f1 with
 | nx=>exact ⟨Z,env1,ρ',B',hp1,fl,env',hp',S',e2,k.after g⟩
 | rt d=>obtain ⟨z,rfl⟩:=Qi e2;cases z;exact k σ' ρ' B' H' g S'
 | bk=>obtain ⟨z,rfl⟩:=Qi e2;cases z;exact k σ' ρ' B' H' g S'
 | ct=>obtain ⟨z,rfl⟩:=Qi e2;cases z;exact k σ' ρ' B' H' g S'
def Qg (h1:DS X st s) (h2:DSs X rest s'):DSs X (st::rest) (Qr s s'):=(Qct h1 h2).imp fun _ _ _ h=>QcC h
def Qq (h1:DS X st s):DSs X [st] s:=Qd8 h1
theorem Zk {x y:List Stmt} (hc:DT X c ca) (h1:DSs X x s) (h2:DSs X y s'):DS X (.If c x y pos) (sIf ca s s') :=
 (Qhi hc h1 h2).imp fun D σ H zz1=>by
  obtain ⟨Z,env,ρ,B,U,fl,env',hp',S,e,k⟩:=zz1
  obtain ⟨x,hp1,e1,e2⟩:=Qe e
  refine tDT.run S e1 fun ρ1 B1 H1 g1 S1=>?_
  cases x with
  | true=>exact ur ⟨Z,env,ρ1,B1,hp1,fl,env',hp',S1,e2,k.after (g1.gs S.wo.rb)⟩
  | false=>exact uq ⟨Z,env,ρ1,B1,hp1,fl,env',hp',S1,e2,k.after (g1.gs S.wo.rb)⟩
theorem Qu (h:DE X e f):DS X (.Return (some e) pos) (QG f) :=
 (Qga h).imp fun D σ H zz1=>by
  obtain ⟨Z,env,ρ,B,U,fl,env',hp',S,e,k⟩:=zz1
  obtain ⟨d,hp1,e1,e2⟩:=Qe e
  obtain ⟨z,rfl⟩:=Qi e2;cases z
  exact tD.run S e1 fun v ρ1 B1 H1 g1 S1 r1=>k σ ρ1 B1 H1 (g1.gs S.wo.rb) S1 v r1
theorem Jx (h:DE X e f) (hs:swapsWith e none pos.line X.env=pure false:=by rfl):DS X (.Expr e pos) (Z7 f) :=
 (Qd7 h hs).imp fun D σ H zz1=>by
  obtain ⟨Z,env,ρ,B,U,fl,env',hp',S,e,k⟩:=zz1
  obtain ⟨d,hp1,e1,e2⟩:=Qe e
  obtain ⟨z,rfl⟩:=Qi e2;cases z
  exact tD.run S e1 fun v ρ1 B1 H1 g1 S1 r1=>k σ ρ1 B1 H1 (g1.gs S.wo.rb) S1
theorem vh {K:Aa} {D:U7} {σ:St} {i:Nat} {t:TE} (ht:∀ σ H Q,tD K f σ H Q->t σ H Q) (h:tDS K (QJ i f) D σ H):Qeu t (gT i) D σ H:=by
 obtain ⟨Z,env,ρ,B,U,fl,env',hp',S,e,k⟩:=h
 obtain ⟨d,hp1,e1,e2⟩:=Qe e
 obtain ⟨z,rfl⟩:=Qi e2;cases z
 exact ht _ _ _ (tD.run S e1 fun v ρ1 B1 H1 g1 S1 r1=>k _ ρ1 B1 H1 (g1.gs S.wo.rb) (S1.set r1))
theorem QE (i:Nat) {x:Str} {pos':Pos} (hN:X.N.Nodup) (he:DE X e f) (hi:X.N[i]?=some x:=by rfl) (hx:Loc X.env.scope x:=by first | exact Or.inl rfl | exact Or.inr rfl) (hs:swapsWith e (some (.Name x pos')) pos.line X.env=pure false:=by rfl)
  (hf:X.fn x=true∨X.env.scope.names.lookup x=some .local:=by first | exact .inl rfl | exact .inr rfl | assumption):DS X (.Assign [.Name x pos'] e pos) (QJ i f) :=
 (Qgb hN hi hx he hs hf).imp fun _ _ _ h=>vh (fun _ _ _ q=>q) h
abbrev DGx:=DV->En->M En
def tDG (K:Aa) (g:DGx):TG:=fun v σ H Q=>∃ Z env ρ B U d env' hp',SOk K Z env σ ρ B U H/\RepV K ρ B H d v/\g d env U=some (env',hp')/\∀ σ' ρ' B' H',Gs K ρ B H ρ' B' H'->SOk K Z env' σ' ρ' B' hp' H'->Q σ' H'
def gN (i:Nat):DGx:=fun d env=>pure (env.set i (.val d))
theorem jl (i:Nat) {x:Str} (hN:X.N.Nodup) (hi:X.N[i]?=some x:=by rfl) (hx:Loc X.env.scope x:=by first | exact Or.inl rfl | exact Or.inr rfl) (hf:X.fn x=true∨X.env.scope.names.lookup x=some .local:=by first | exact .inl rfl | exact .inr rfl | assumption):PG X (.Name x pos) (tDG X.K (gN i)):=by
 intro O9 s σ H v u Q I r h
 refine kB hN hi hx hf O9 s σ H v u Q I r ?_
 obtain ⟨Z,env,ρ,B,U,d,env',hp',S,rd,e,k⟩:=h
 obtain ⟨rfl,rfl⟩:=Qi e
 exact k _ ρ B H Gs.refl (S.set rd)
def kZ (K:Aa) (ρ:Ep) (B:Eo) (H:Hp) (ds:List DV) (J:It):Prop :=
 ∀ ρ1 B1 H1,Gs K ρ B H ρ1 B1 H1->(∀ b∈ρ1,B1 b)->(∀ a,B1 a->H1 a≠none)->(∀ (i:Nat) (d:DV),ds[i]?=some d->J.go i H1/\∀ x H',J.yld i H1 x H'->RepV K ρ1 B1 H' d x/\(H'=H1∨∃ p o,H1 p=none/\H'=upd H1 p o))/\J.stop ds.length H1
abbrev DIx:=En->M (List DV)
def tDI (K:Aa) (f:DIx):TI:=fun σ H R=>∃ Z env ρ B U ds hp',SOk K Z env σ ρ B U H/\f env U=some (ds,hp')/\∀ J ρ' B' H',Gr K ρ B H ρ' B' H'->WOk K ρ' B' hp' H'->kZ K ρ' B' H' ds J->R J H'
def DI (X:Cx) (tg iter:Expr) (f:DIx):Prop:=PI X tg iter (tDI X.K f)
def gc:DV->M (List DV)
 | .tup ds=>pure ds
 | _=>failure
def iTp (f:DEx):DIx:=fun env=>do gc (<- f env)
theorem xI {d:DV} {U hp':Hs} (h:gc d U=some (ds,hp')):d=.tup ds/\U=hp':=by
 cases d with
 | tup xs=>obtain ⟨rfl,rfl⟩:=Qi h;exact ⟨rfl,rfl⟩
 | _=>cases h
theorem QdB {K:Aa} {B:Eo} {a:Addr} (nb:¬ B a) (sq:SqL K H a xs) (rl:RepL K ρ B H ds xs):kZ K ρ B H ds (Itl K a):=fun ρ1 B1 H1 g _ _=>by
 have sq1:=g.sqL nb sq
 have rl1:=RepL.gs g _ _ rl
 refine ⟨fun i d e=>?_,xs,sq1,by rw [rl1.length];exact Ae _⟩
 obtain ⟨x,hx,r⟩:=rl1.get e
 refine ⟨⟨xs,x,sq1,hx⟩,fun y H' ⟨e',q⟩=>?_⟩
 subst e'
 have:=q xs sq1
 rw [hx] at this;cases this
 exact ⟨r,.inl rfl⟩
theorem Qfm {K:Aa} {B:Eo} {a:Addr} (nb:¬ B a) (sq:SqT K H a xs) (rl:RepL K ρ B H ds xs):kZ K ρ B H ds (Itt K a):=fun ρ1 B1 H1 g _ _=>by
 have sq1:=g.sqT nb sq
 have rl1:=RepL.gs g _ _ rl
 refine ⟨fun i d e=>?_,xs,sq1,by rw [rl1.length];exact Ae _⟩
 obtain ⟨x,hx,r⟩:=rl1.get e
 refine ⟨⟨xs,x,sq1,hx⟩,fun y H' ⟨e',q⟩=>?_⟩
 subst e'
 have:=q xs sq1
 rw [hx] at this;cases this
 exact ⟨r,.inl rfl⟩
def Z3 (lo:Int) (n:Nat):List DV:=(List.range n).map fun (i:Nat)=>.int (lo+(i:Int))
theorem QbO {K:Aa} {lo:Int} {n:Nat}:kZ K ρ B H (Z3 lo n) (Itr lo n):=fun ρ1 B1 H1 g _ _=>by
 refine ⟨fun i d e=>?_,by show n<=_;simp [Z3]⟩
 have hi:i < n:=by have:=(Ac.mp e).1;simpa [Z3] using this
 refine ⟨hi,fun y H' ⟨e',q⟩=>?_⟩
 subst e' q
 have:d=.int (lo+i):=by simp [Z3,hi] at e;exact e.symm
 subst this
 exact ⟨JW,.inl rfl⟩
variable {tg iter:Expr}
def _root_.L2.PI.imp {wi wi':TI} (h:PI X tg iter wi) (i:∀ σ H R,wi' σ H R->wi σ H R):PI X tg iter wi':=fun O9 s σ H R I q=>h O9 s σ H R I (i σ H R q)
theorem Kl (h:DE X iter f):DI X tg iter (iTp f):=(Qf4 h).imp fun σ H R zz1=>by
 obtain ⟨Z,env,ρ,B,U,ds,hp',S,e,k⟩:=zz1
 obtain ⟨d,hp1,e1,e2⟩:=Qe e
 obtain ⟨rfl,rfl⟩:=xI e2
 refine tD.run S e1 fun v ρ1 B1 H1 g1 S1 r1=>?_
 obtain ⟨a,xs,rfl,nb,sq,rl⟩:=r1.tupI
 exact ⟨a,rfl,⟨xs,sq⟩,k _ ρ1 B1 H1 g1 S1.wo (Qfm nb sq rl)⟩
def VJ (j:Int):Bool:=decide (-(2 ^ 62)<=j/\j < 2 ^ 62)
def QaS:List DV->M (List DV)
 | [.int j]=>do Qz (VJ j);pure (Z3 0 j.toNat)
 | _=>failure
def Qav (f:DAx):DIx:=fun env=>do QaS (<- f env)
theorem QaT {ds out:List DV} {U hp':Hs} (h:QaS ds U=some (out,hp')):∃ j:Int,ds=[.int j]/\VJ j=true/\out=Z3 0 j.toNat/\U=hp':=by
 unfold QaS at h
 split at h
 ·obtain ⟨u,hp1,e1,e2⟩:=Qe h
  obtain ⟨h1,rfl⟩:=QK e1
  obtain ⟨rfl,rfl⟩:=Qi e2
  exact ⟨_,rfl,h1,rfl,rfl⟩
 ·cases h
theorem RepL.ints1 {K:Aa} {j:Int} {vs:List V} (h:RepL K ρ B H [.int j] vs):vs=[.int j]:=by
 unfold RepL at h
 obtain ⟨x,r,rfl,h1,h2⟩:=h
 unfold RepL at h2
 rw [h1.intI,h2]
theorem RepL.ints2 {K:Aa} {i j:Int} {vs:List V} (h:RepL K ρ B H [.int i,.int j] vs):vs=[.int i,.int j]:=by
 unfold RepL at h
 obtain ⟨x,r,rfl,h1,h2⟩:=h
 rw [h1.intI,h2.ints1]
theorem xf {x:Expr} {p:Pos} {f:DAx} (hg:Gl X "range") (hm:X.mg "range" = none) (ha:DA X [x] f) (hs:starEach [x] X.env=[(false,eval x X.env)]:=by rfl):DI X tg (.Call (.Name "range" p) [x] [] pos) (Qav f) :=
 (QaO hg hm ha hs).imp fun σ H R zz1=>by
  obtain ⟨Z,env,ρ,B,U,ds,hp',S,e,k⟩:=zz1
  obtain ⟨d,hp1,e1,e2⟩:=Qe e
  obtain ⟨j,rfl,h1,rfl,rfl⟩:=QaT e2
  refine tDA.run S e1 fun vs ρ1 B1 H1 g1 S1 r1=>?_
  have h1':=Ee h1
  exact ⟨j,r1.ints1,h1'.1,h1'.2,k _ ρ1 B1 H1 g1 S1.wo QbO⟩
def qD (b:DV->DSx):List DV->DSx
  | [],env=>pure (.nx,env)
  | d::ds,env=>do
    let r <- b d env
    match r.1 with
    | .nx=>qD b ds r.2
    | .ct=>qD b ds r.2
    | .bk=>pure (.nx,r.2)
    | .rt x=>pure (.rt x,r.2)
def uO (f:DIx) (g:DGx) (body:DSx):DSx:=fun env=>do let ds <- f env;qD (fun d env=>do let env' <- g d env;body env') ds env
def gh {K:Aa} {B:Eo} {H:Hp} {p:Addr} (rb:∀ a∈ρ,B a) (h:H p=none):Gs K ρ B H ρ B (upd H p o):=(Gr.laid h).gs rb
theorem Kq {body:List Stmt} {fi:DIx} {g:DGx} {sb:DSx} (U:PassesOwn (model X.prog X.w) X.A X.env X.xe) (hc:X.calm=true) (hi:DI X tg iter fi) (hg:PG X tg (tDG X.K g)) (hb:DSs X body sb)
  (hs:∀ x,foldedSetIterable iter X.env x=pure x:=by intro _;rfl):DS X (.For tg iter body [] pos) (uO fi g sb) :=
 (Qcr U hc hi hg hb hs).imp fun D σ H zz1=>by
  obtain ⟨Z,env,ρ,B,U,fl,env',hp',S,e,k⟩:=zz1
  obtain ⟨ds,hp1,e1,e2⟩:=Qe e
  refine ⟨Z,env,ρ,B,U,ds,hp1,S,e1,fun J ρ1 B1 H1 g1 W1 it=>?_⟩
  have k1:=k.after (g1.gs S.wo.rb)
  refine ⟨fun i m σ H=>m=ds.length - i/\i<=ds.length/\∃ env ρ B U,SOk X.K Z env σ ρ B U H/\Gs X.K ρ1 B1 H1 ρ B H/\qD (fun d env=>do let env' <- g d env;sb env') (ds.drop i) env U=some ((fl,env'),hp'),
   ⟨ds.length,rfl,Be _,env,ρ1,B1,hp1,S.grow g1 W1,Gs.refl,by simpa using e2⟩,?_⟩
  rintro i m σ H ⟨rfl,hi,env2,ρ2,B2,hp2,S2,g2,e3⟩
  obtain ⟨itg,its⟩:=it ρ2 B2 H g2 S2.wo.rb S2.wo.bt
  by_cases hlt:i < ds.length
  ·have hd:ds[i]?=some ds[i]:=Ab hlt
   obtain ⟨go,yl⟩:=itg i _ hd
   rw [Bi hlt] at e3
   obtain ⟨⟨f1,env4⟩,hp4,e4,e5⟩:=Qe e3
   obtain ⟨env3,hp3,e6,e7⟩:=Qe e4
   refine .inr ⟨go,fun σ' H'=>∃ env ρ B U,SOk X.K Z env σ' ρ B U H'/\Gs X.K ρ1 B1 H1 ρ B H'/\qD (fun d env=>do let env' <- g d env;sb env') (ds.drop (i+1)) env U=some ((fl,env'),hp'),
    fun σ' H' q=>⟨ds.length - (i+1),by lia,rfl,hlt,q⟩,fun x H' y=>?_⟩
   obtain ⟨rx,hx⟩:=yl x H' y
   have S3:SOk X.K Z env2 σ ρ2 B2 hp2 H'/\Gs X.K ρ2 B2 H ρ2 B2 H':=by
    rcases hx with rfl | ⟨p,o,hn,rfl⟩
    ·exact ⟨S2,Gs.refl⟩
    ·exact ⟨S2.grow (Gr.laid hn) (S2.wo.laid hn),gh S2.wo.rb hn⟩
   refine ⟨Z,env2,ρ2,B2,hp2,ds[i],env3,hp3,S3.1,rx,e6,fun σ5 ρ5 B5 H5 g5 S5=>⟨Z,env3,ρ5,B5,hp3,f1,env4,hp4,S5,e7,fun σ6 ρ6 B6 H6 g6 S6=>?_⟩⟩
   have G6:=g2.trans (S3.2.trans (g5.trans g6))
   cases f1 with
   | nx=>exact ⟨env4,ρ6,B6,hp4,S6,G6,e5⟩
   | ct=>exact ⟨env4,ρ6,B6,hp4,S6,G6,e5⟩
   | bk=>obtain ⟨z,rfl⟩:=Qi e5;cases z;exact k1 σ6 ρ6 B6 H6 G6 S6
   | rt d=>obtain ⟨z,rfl⟩:=Qi e5;cases z;exact k1 σ6 ρ6 B6 H6 G6 S6
  ·have e:i=ds.length:=by lia
   subst e
   rw [List.drop_length] at e3
   obtain ⟨z,rfl⟩:=Qi e3;cases z
   exact .inl ⟨its,k1 σ ρ2 B2 H g2 S2⟩
end
section
variable {K:Aa} {Z:Ent} {env:En} {σ:St} {ρ ρ':Ep} {B B':Eo} {U hp':Hs} {H H':Hp}
def j6 (B:Eo) (p:Addr):Addr->Prop:=fun a=>B a∨a=p
theorem Gr.banned {p:Addr} (h:H p=none) (kf:K.lookup p=none):Gr K ρ B H ρ (j6 B p) (upd H p o) where
 pre:=Cm
 ban:=fun _ h=>.inl h
 new:=fun a z=>z.elim .inl fun e=>.inr (e▸⟨h,kf⟩)
 rnew:=fun _ h=>.inl h
 keep:=fun a u _ q=>by rw [QX (ZC q h)];exact q
 trk:=(Gr.laid (K:=K) (ρ:=ρ) (B:=B) h).trk
theorem WOk.banned {p:Addr} (W:WOk K ρ B U H) (h:H p=none) (kf:K.lookup p=none):WOk K ρ (j6 B p) U (upd H p o) where
 len:=W.len
 nd:=W.nd
 obj:=fun i a u e q=>ORep.gs ((Gr.banned h kf).gs W.rb) (QX (fun z=>W.bt a (W.rb a (Aw e)) (z▸h))) (W.obj i a u e q)
 rb:=fun a h=>.inl (W.rb a h)
 bt:=fun a z q=>by
  have q':=(Gr.laid (K:=K) (ρ:=ρ) (B:=B) h).trk a q
  rcases z with z | rfl
  ·exact W.bt a z q'
  ·rw [Q9] at q;cases q
 bk:=fun a z=>z.elim (W.bk a) fun e=>e▸kf
end
section
variable {X:Cx} {e a b c:Expr} {f fa fb:DEx} {ca cb:DTx} {pos:Pos} {st:Stmt} {sts rest:List Stmt} {s s':DSx}
def zT (i:Nat):DSx:=fun env=>pure (.nx,env.set i (.acc []))
def zf (i:Nat) (env:En):En:=match env[i]? with
 | some (.acc ds)=>env.set i (.val (.lst ds))
 | _=>env
def zV (i:Nat) (f:DSx):DSx:=fun env=>f (zf i env)
def zU (i:Nat) (f:DEx):DSx:=fun env=>do
 let d <- f env
 match env[i]? with
 | some (.acc ds)=>if ds.length < lim then pure (.nx,env.set i (.acc (ds++[d]))) else failure
 | _=>failure
def Qbo:Sl->Sl
 | .val d=>.val d
 | _=>.un
def cE (idx:List Nat) (env:En) (d:DV):En:=.val d::idx.map fun i=>Qbo ((env[i]?).getD .un)
variable {elt iter:Expr} {x:Str} {px:Pos} {ifs:List Expr} {scope:Scope} {cl:List (Str×Addr)} {caps:List Str} {idx:List Nat} {src:DIx} {te:DTx}
theorem cσ_ok {K:Aa} {Z:Ent} (S:SOk K Z env σ ρ B U H) (g:Gs K ρ B H ρ1 B1 H1) (W:WOk K ρ1 B1 hp1 H1) (r:RepV K ρ1 B1 H1 d v):
    SOk K ⟨ρ1,B1,H1⟩ (cE idx env d) (cσ idx σ (some v)) ρ1 B1 hp1 H1:=by
  refine ⟨Gr.refl,W.bt,W,fun i e h=>?_,fun i es h=>?_,fun i j es es' a h=>?_,by simp [cE,cσ]⟩
  . cases i with
    | zero =>
      have:d=e:=by simpa [cE] using h
      subst this
      exact ⟨v,by simp [cσ],r⟩
    | succ i =>
      cases q:idx[i]? with
      | none=>simp [cE,q] at h
      | some k =>
        have h':Qbo ((env[k]?).getD .un)=.val e:=by simpa [cE,q] using h
        cases z:env[k]? with
        | none=>rw [z] at h';cases h'
        | some sl =>
          rw [z] at h'
          cases sl with
          | un=>cases h'
          | acc _=>cases h'
          | val e' =>
            have:e'=e:=by simpa [Qbo] using h'
            subst this
            obtain ⟨u,h1,h2⟩:=S.slot k e' z
            exact ⟨u,by simp [cσ,q,h1],RepV.gs g _ _ h2⟩
  . exfalso
    cases i with
    | zero=>simp [cE] at h
    | succ i =>
      cases q:idx[i]? with
      | none=>simp [cE,q] at h
      | some k =>
        have h':Qbo ((env[k]?).getD .un)=.acc es:=by simpa [cE,q] using h
        cases z:(env[k]?).getD .un with
        | un=>rw [z] at h';cases h'
        | acc _=>rw [z] at h';cases h'
        | val _=>rw [z] at h';cases h'
  . exfalso
    cases i with
    | zero=>simp [cE] at h
    | succ i =>
      cases q:idx[i]? with
      | none=>simp [cE,q] at h
      | some k =>
        have h':Qbo ((env[k]?).getD .un)=.acc es:=by simpa [cE,q] using h
        cases z:(env[k]?).getD .un with
        | un=>rw [z] at h';cases h'
        | acc _=>rw [z] at h';cases h'
        | val _=>rw [z] at h';cases h'
def DTs (X:Cx) (ifs:List Expr) (t:DTx):Prop:=PTs X ifs (tDT X.K t)
def jo (h:DT X c te):DTs X [c] te:=Qea h
def Q7 (n:Nat) (body:DSx):List DV->M DV:=fun ds=>do
 let r <- body (ds.map .val++List.replicate (n - ds.length) .un)
 match r.1 with
 | .nx=>pure .non
 | .rt d=>pure d
 | _=>failure
def spD (K:Aa) (n:Nat) (F:Er):Sp:=fun vs H Q _=>vs.length=n/\∃ ρ B U ds d hp',WOk K ρ B U H/\RepL K ρ B H ds vs/\F ds U=some (d,hp')/\Fol K ρ B H d hp' Q
structure Has (P:Program) (w:World) (K:Aa) (mg:Ej) (O8:Heap) (x:Str) (k n:Nat) (F:Er):Prop where
 ex:∃ (g:Addr) (fd:FuncData) (ps:List Str),qy P w K mg O8 CX0 k g fd ps (spD K n F)/\Binds K fd ps []/\PySem.W.keepIn K (.ref g)=true/\mg x=some (.ref g)
theorem xC {K:Aa} {N:List Str} (W:WOk K ρ B U H) (r:RepL K ρ B H ds vs):
  SOk K ⟨ρ,B,H⟩ (ds.map .val++List.replicate (N.length - ds.length) .un) (L2.start N vs) ρ B U H:=by
 have hl:=r.length
 have at_:∀ {i:Nat} {z:Sl},(ds.map Sl.val++List.replicate (N.length - ds.length) Sl.un)[i]?=some z->z=.un∨∃ d,ds[i]?=some d/\z=.val d:=fun {i z} h=>by
  by_cases hi:i < ds.length
  ·rw [Ah (by simpa using hi),Bu,Ab hi] at h
   cases h
   exact .inr ⟨_,Ab hi,rfl⟩
  ·rw [Aq (by simpa using hi),List.getElem?_replicate] at h
   split at h
   ·cases h;exact .inl rfl
   ·cases h
 refine ⟨Gr.refl,W.bt,W,fun i d h=>?_,fun i es h=>?_,fun i j es es' a h=>?_,by unfold L2.start;simp;lia⟩
 ·rcases at_ h with z | ⟨d',q,z⟩
  ·cases z
  ·cases z
   obtain ⟨v,h1,h2⟩:=r.get q
   refine ⟨v,?_,h2⟩
   unfold L2.start
   have hi:i < vs.length:=(Ac.mp h1).1
   rw [Ah (by simpa using hi),Bu,h1]
   rfl
 ·rcases at_ h with z | ⟨d',q,z⟩<;>cases z
 ·rcases at_ h with z | ⟨d',q,z⟩<;>cases z
theorem Qfi {P:Program} {w:World} {K:Aa} {mg:Ej} {O8:Heap} {x:Str} {g:Addr} {k:Nat} {body:DSx} (F:Fun K x x stm g fd) (Sc:Qv N ps (Qp stm)) (hm:mg x=some (.ref g))
  (hb:∀ (kV doc pm:Value) (an:Option Addr) (cdv ct:Value) (us:List Value),us.length=ps.length->bindArgs (PySem.W.fnOf x x (JE stm) (ZG stm) (Qp stm) .none kV doc pm an cdv ct) ⟨us,[]⟩=pure (ps.zip us))
  (h:∀ (cdv:Value) (A:Around) (outer:List Env) (s:Shared) (H:Hp) (E:XK),Room k (A.deeper (envOfC x (Qp stm) s.heap.objs.size g cdv))->DSs (yh CX0 P w K mg O8 N x (Qp stm) g cdv A outer s H E).nox (ZG stm) body) :
  Has P w K mg O8 x (k+1) ps.length (Q7 N.length body):=by
 refine ⟨g,fd,ps,F.ok Sc (fun vs H Q E h=>h.1) (fun cdv A outer s H vs Q E hr sp=>?_),F.binds hb,F.kp,hm⟩
 obtain ⟨hn,ρ,B,U,ds,d,hp',W,r,e,k⟩:=sp
 obtain ⟨⟨fl,env'⟩,hp1,e1,e2⟩:=Qe e
 refine ⟨_,h cdv A outer s H E hr,⟨ρ,B,H⟩,_,ρ,B,U,fl,env',hp1,xC W r,e1,fun σ' ρ' B' H' g' S'=>?_⟩
 cases fl with
 | nx=>obtain ⟨rfl,rfl⟩:=Qi e2;exact k .non ρ' B' H' S'.gr S'.wo Y6
 | rt x=>obtain ⟨rfl,rfl⟩:=Qi e2;exact fun v rv=>k v ρ' B' H' S'.gr S'.wo rv
 | bk=>cases e2
 | ct=>cases e2
def Qt (n:Nat) (F:Er) (a:DAx):DEx:=fun env=>do
 let ds <- a env
 Qz (decide (ds.length=n))
 F ds
theorem QA {y:Str} {k j n:Nat} {F:Er} {e:Expr} {es:List Expr} {fa:DAx} {p:Pos} (h:Has X.prog X.w X.K X.mg X.O8 y j n F) (hr:Room k X.A) (hj:j<=k) (hx:Ys CX0 X E0) (ha:DA X (e::es) fa) (hg:Gl X y:=by rfl)
  (hdb:(y==("__debug__" : Str))=false:=by decide) (he:starEach (e::es) X.env=(false,eval e X.env)::starEach es X.env:=by rfl) (hpl:(backTo pos (starEach es X.env)).any (·.1)=false:=by rfl):DE X (.Call (.Name y p) (e::es) [] pos) (Qt n F fa):=by
 obtain ⟨g,fd,ps,F',hb,hk,hm⟩:=h.ex
 refine L2.PE.imp (QdU F' (hr.mono hj) hg hm hk hb .nil hx ha hdb he hpl) fun σ H Q zz1=>?_
 obtain ⟨Z,env,ρ,B,U,d,hp',S,e,k⟩:=zz1
 obtain ⟨ds,hp1,e1,e2⟩:=Qe e
 obtain ⟨_,hp2,e3,e4⟩:=Qe e2
 obtain ⟨hl,rfl⟩:=QK e3
 refine tDA.run S e1 fun vs ρ1 B1 H1 g1 S1 r1=>?_
 refine ⟨by rw [Bt,<- r1.length];exact Ee hl,ρ1,B1,hp1,ds,d,hp',S1.wo,by rw [Bt];exact r1,e4,k.after g1⟩
end
section
variable {X:Cx} {e a b c:Expr} {f fa fb fc:DEx} {ca cb:DTx} {pos:Pos}
def qo (C:Int->Int->Bool) (g:Int->Int->DV):DV->DV->M DV
 | .int i,.int j=>if C i j then pure (g i j) else failure
 | _,_=>failure
theorem xl {C:Int->Int->Bool} {g:Int->Int->DV} {x y d:DV} {U hp':Hs} (h:qo C g x y U=some (d,hp')):∃ i j,x=.int i/\y=.int j/\C i j=true/\d=g i j/\U=hp':=by
 unfold qo at h
 split at h
 ·rename_i i j
  by_cases hc:C i j=true
  ·rw [C9 hc] at h
   obtain ⟨rfl,rfl⟩:=Qi h
   exact ⟨i,j,rfl,rfl,hc,rfl,rfl⟩
  ·rw [C8 hc] at h;cases h
 ·cases h
theorem KP {g:Value->Value->Sem Value} {C:Int->Int->Bool} {P:Int->Int->Prop} {q:Int->Int->Int} (ho:OpR X g (rI P fun i j=>.int (q i j))) (hC:∀ i j,C i j=true->P i j):P2 X g (qo C fun i j=>.int (q i j)):=by
 intro O9 s σ H x y v u Q I rx ry h
 refine ho O9 s σ H x y v u Q I rx ry ?_
 obtain ⟨ρ,B,U,dx,dy,d,hp',W,r1,r2,e,k⟩:=h
 obtain ⟨i,j,rfl,rfl,hc,rfl,rfl⟩:=xl e
 exact ⟨i,j,r1.intI,r2.intI,hC i j hc,k _ ρ B H Gr.refl W JW⟩
theorem QdS {g:Value->Value->Sem Value} {q:Int->Int->Int} (ho:OpR X g (rI0 fun i j=>.int (q i j))):P2 X g (qo (fun _ _=>true) fun i j=>.int (q i j)):=by
 intro O9 s σ H x y v u Q I rx ry h
 refine ho O9 s σ H x y v u Q I rx ry ?_
 obtain ⟨ρ,B,U,dx,dy,d,hp',W,r1,r2,e,k⟩:=h
 obtain ⟨i,j,rfl,rfl,hc,rfl,rfl⟩:=xl e
 exact ⟨i,j,r1.intI,r2.intI,k _ ρ B H Gr.refl W JW⟩
theorem yt {g:Value->Value->Sem Value} {q:Int->Int->Bool} (ho:OpR X g (rI0 fun i j=>.bl (q i j))):P2 X g (qo (fun _ _=>true) fun i j=>.bl (q i j)):=by
 intro O9 s σ H x y v u Q I rx ry h
 refine ho O9 s σ H x y v u Q I rx ry ?_
 obtain ⟨ρ,B,U,dx,dy,d,hp',W,r1,r2,e,k⟩:=h
 obtain ⟨i,j,rfl,rfl,hc,rfl,rfl⟩:=xl e
 exact ⟨i,j,r1.intI,r2.intI,k _ ρ B H Gr.refl W Jf⟩
def Qe5 (i j:Int):Bool:=decide ((-(2 ^ 64) < i/\i < 2 ^ 64)∨(-(2 ^ 64) < j/\j < 2 ^ 64))
def QgE (_ j:Int):Bool:=decide (0 < j/\j < 1073741824)
def QgF (_ j:Int):Bool:=decide (0 < j)
def QhH (i j:Int):Bool:=decide (0<=j/\j<=1000000/\i.natAbs < 2 ^ 64)
def VQ:DV->DV->M DV:=qo (fun _ _=>true) fun i j=>.int (i - j)
def qM:DV->DV->M DV:=qo Qe5 fun i j=>.int (i * j)
def Qbv:DV->DV->M DV:=qo QgE fun i j=>.int (i / j)
def Vi:DV->DV->M DV:=qo QgF fun i j=>.int (i % j)
def qq:DV->DV->M DV:=qo QhH fun i j=>.int (i ^ j.toNat)
def ltD:DV->DV->M DV:=qo (fun _ _=>true) fun i j=>.bl (decide (i < j))
def leD:DV->DV->M DV:=qo (fun _ _=>true) fun i j=>.bl (decide (i<=j))
def gtD:DV->DV->M DV:=qo (fun _ _=>true) fun i j=>.bl (decide (j < i))
def geD:DV->DV->M DV:=qo (fun _ _=>true) fun i j=>.bl (decide (j<=i))
def xQ:P2 X (binaryOp .Sub) VQ:=QdS QfN
def jH:P2 X (binaryOp .Mult) qM:=KP QfL fun i j h=>Ee (p:=(-(2 ^ 64) < i/\i < 2 ^ 64)∨(-(2 ^ 64) < j/\j < 2 ^ 64)) h
def QeR:P2 X (binaryOp .FloorDiv) Qbv:=KP QdQ fun i j h=>Ee (p:=0 < j/\j < 1073741824) h
def xP:P2 X (binaryOp .Mod) Vi:=KP QfK fun _ _ h=>Ee h
def qO:P2 X (binaryOp .Pow) qq:=KP QfM fun i j h=>Ee (p:=0<=j/\j<=1000000/\i.natAbs < 2 ^ 64) h
def Vm:P2 X (compareOp .Lt) ltD:=yt Qg8
def QdT:P2 X (compareOp .LtE) leD:=yt Qg7
def QfO:P2 X (compareOp .Gt) gtD:=yt Qg6
def Qg9:P2 X (compareOp .GtE) geD:=yt Qg5
def Qg2:DV->M DV
 | .int i=>pure (.int (-i))
 | _=>failure
def zJ (f:DEx):DEx:=fun env=>do Qg2 (<- f env)
theorem Qcb:OpR X (binaryOp .Add) (fun x y H Q=>∃ a b ys,x=.ref a/\y=.ref b/\SqT X.K H a []/\SqT X.K H b ys/\ys.length<=sizeLine/\Q (.ref b) H):=by
 intro O9 s σ H x y v u Q I rx ry h
 obtain ⟨a,b,ys,rfl,rfl,ha,hb,hz,q⟩:=h
 cases rx
 cases ry
 obtain ⟨its,r1,p1,_⟩:=I.tuple ha
 obtain ⟨its2,r2,p2,_⟩:=I.tuple hb
 obtain ⟨m,F⟩:=I.fr
 have z:its=[]:=by cases r1;rfl
 subst z
 exact add_tuples F (Qb6 (g:=X.O8) (L:=X.env.locals)) p1 p2 (fun _=>⟨.ref b,H,I,rfl,q⟩) (fun n=>absurd rfl n) (fun n=>absurd rfl n) (by have:=r2.length;simp;lia)
def ZL:DV->DV->M DV
 | .int i,.int j=>pure (.int (i+j))
 | .tup xs,.tup ys=>do Qz (Yo (xs++ys));pure (.tup (xs++ys))
 | .lst xs,.lst ys=>do Qz (Yo (xs++ys));pure (.lst (xs++ys))
 | _,_=>failure
theorem Qef:OpR X (binaryOp .Add) (fun x y H Q=>∃ l b xs zs,x=.ref l/\y=.ref b/\SqL X.K H l xs/\SqL X.K H b zs/\xs.length+zs.length<=sizeLine/\∀ p,H p=none->Q (.ref p) (upd H p (.lst (xs++zs)))):=by
 intro O9 s σ H x y v u Q I rx ry h
 obtain ⟨l,b,xs,zs,rfl,rfl,hl,hb,hz,q⟩:=h
 cases rx
 cases ry
 obtain ⟨its,r1,⟨⟨k1,dd1,da1,sl1⟩,n1,e1,c1,d1,s1⟩,_⟩:=I.list hl
 obtain ⟨its2,r2,⟨⟨k2,dd2,da2,sl2⟩,n2,e2,c2,d2,s2⟩,_⟩:=I.list hb
 simp only at c1 d1 s1 c2 d2 s2
 subst c1 d1 s1 c2 d2 s2
 have ea:its.toArray++its2.toArray=(its++its2).toArray:=by simp
 have hz':its.length+its2.length<=sizeLine:=by rw [<- r1.length,<- r2.length];exact hz
 refine concat_meets (T := "list") ⟨_,e1,rfl⟩ ⟨_,e2,rfl⟩ noFill_list_add seq_list_add PySem.F.slot_list_add PySem.F.entry_list_add (PySem.F.args_list_add_2 _ _) (list_addW l b its.toArray its2.toArray n1 n2 none none sl1 sl2 (by simpa using hz')) ⟨e1,e2,?_⟩
 rw [ea]
 exact ⟨.ref _,_,I.lnew (t':=s.toks) (r1.append r2) (by rw [An];exact hz),rfl,q _ I.fresh⟩
theorem Z6:P2 X (binaryOp .Add) ZL:=by
 intro O9 s σ H x y v u Q I rx ry h
 obtain ⟨ρ,B,U,dx,dy,d,hp',W,r1,r2,e,k⟩:=h
 unfold ZL at e
 split at e
 ·obtain ⟨rfl,rfl⟩:=Qi e
  exact QfI O9 s σ H x y v u Q I rx ry ⟨_,_,r1.intI,r2.intI,k _ ρ B H Gr.refl W JW⟩
 ·rename_i xs ys
  obtain ⟨_,hp1,e1,e2⟩:=Qe e
  obtain ⟨hs,rfl⟩:=QK e1
  obtain ⟨rfl,rfl⟩:=Qi e2
  obtain ⟨a,vs,rfl,n1,q1,l1⟩:=r1.tupI
  obtain ⟨b,ws,rfl,n2,q2,l2⟩:=r2.tupI
  have hz:vs.length+ws.length<=sizeLine:=by
   have:=qS hs
   rw [An] at this
   rw [<- l1.length,<- l2.length];exact this
  by_cases hv:vs=[]
  ·subst hv
   have:xs=[]:=by have:=l1.length;cases xs with | nil=>rfl | cons _ _=>simp at this
   subst this
   exact Qcb O9 s σ H _ _ v u Q I rx ry ⟨a,b,ws,rfl,rfl,q1,q2,by simp at hz;exact hz,k _ ρ B H Gr.refl W (qY n2 q2 l2)⟩
  ·refine QdP O9 s σ H _ _ v u Q I rx ry ⟨a,b,vs,ws,rfl,rfl,q1,q2,hv,hz,fun hw=>?_,fun hw=>jr W (RepL.append l1 l2) k⟩
   subst hw
   have:ys=[]:=by have:=l2.length;cases ys with | nil=>rfl | cons _ _=>simp at this
   subst this
   rw [Bt] at k
   exact k _ ρ B H Gr.refl W (qY n1 q1 l1)
 ·rename_i xs ys
  obtain ⟨_,hp1,e1,e2⟩:=Qe e
  obtain ⟨hs,rfl⟩:=QK e1
  obtain ⟨rfl,rfl⟩:=Qi e2
  obtain ⟨a,vs,rfl,n1,q1,l1⟩:=r1.lstI
  obtain ⟨b,ws,rfl,n2,q2,l2⟩:=r2.lstI
  have hz:vs.length+ws.length<=sizeLine:=by
   have:=qS hs
   rw [An] at this
   rw [<- l1.length,<- l2.length];exact this
  exact Qef O9 s σ H _ _ v u Q I rx ry ⟨a,b,vs,ws,rfl,rfl,q1,q2,hz,jq W (RepL.append l1 l2) k⟩
 ·cases e
def isN:DV->Bool
 | .non=>true
 | _=>false
theorem gZ {K:Aa} {v:V} (r:RepV K ρ B H d v):decide (v=.non)=isN d:=by
 cases d with
 | non=>rw [r.nonI];rfl
 | bl b=>rw [r.blI];rfl
 | int b=>rw [r.intI];rfl
 | str b=>rw [r.strI];rfl
 | tup b=>obtain ⟨a,xs,rfl,_⟩:=r.tupI;rfl
 | lst b=>obtain ⟨a,xs,rfl,_⟩:=r.lstI;rfl
 | ref b=>obtain ⟨a,rfl,_⟩:=r.refI;rfl
def isD:DV->DV->M DV
 | x,.non=>pure (.bl (isN x))
 | .bl p,.bl q=>pure (.bl (p==q))
 | _,_=>failure
def Ud:DV->DV->M DV
 | x,.non=>pure (.bl (!isN x))
 | .bl p,.bl q=>pure (.bl (p != q))
 | _,_=>failure
theorem KQ:P2 X (compareOp .Is) isD:=by
 intro O9 s σ H x y v u Q I rx ry h
 obtain ⟨ρ,B,U,dx,dy,d,hp',W,r1,r2,e,k⟩:=h
 unfold isD at e
 split at e
 ·obtain ⟨rfl,rfl⟩:=Qi e
  refine QfJ O9 s σ H x y v u Q I rx ry ⟨r2.nonI,?_⟩
  rw [gZ r1]
  exact k _ ρ B H Gr.refl W Jf
 ·obtain ⟨rfl,rfl⟩:=Qi e
  obtain rfl:=r1.blI
  obtain rfl:=r2.blI
  cases rx;cases ry
  exact is_bool ⟨.bl _,H,I,rfl,k _ ρ B H Gr.refl W Jf⟩
 ·cases e
theorem ku:P2 X (compareOp .IsNot) Ud:=by
 intro O9 s σ H x y v u Q I rx ry h
 obtain ⟨ρ,B,U,dx,dy,d,hp',W,r1,r2,e,k⟩:=h
 unfold Ud at e
 split at e
 ·obtain ⟨rfl,rfl⟩:=Qi e
  refine QdR O9 s σ H x y v u Q I rx ry ⟨r2.nonI,?_⟩
  rw [gZ r1]
  exact k _ ρ B H Gr.refl W Jf
 ·obtain ⟨rfl,rfl⟩:=Qi e
  obtain rfl:=r1.blI
  obtain rfl:=r2.blI
  cases rx;cases ry
  exact isnot_bool ⟨.bl _,H,I,rfl,k _ ρ B H Gr.refl W Jf⟩
 ·cases e
theorem Kc {K:Aa} {i:Int} (r:RepL K ρ B H ds xs) (h:atI ds i=some d):∃ x,atI xs i=some x/\RepV K ρ B H d x:=by
  unfold atI at h ⊢
  rw [<- r.length]
  cases q:ixN ds.length i with
  | none=>rw [q] at h;cases h
  | some j =>
    rw [q] at h
    exact r.get h
def ixD:DV->DV->M DV
  | .tup ds,.int i=>match atI ds i with
    | some d=>pure d
    | none=>failure
  | .lst ds,.int i=>match atI ds i with
    | some d=>pure d
    | none=>failure
  | _,_=>failure
theorem Qhb:IxR X (tP2 X.K ixD):=by
  intro value slice O9 s σ H x y v u Q I rx ry h hsub
  obtain ⟨ρ,B,U,dx,dy,d,hp',W,r1,r2,e,k⟩:=h
  unfold ixD at e
  split at e
  . rename_i ds i
    cases q:atI ds i with
    | none=>rw [q] at e;cases e
    | some d' =>
      rw [q] at e
      obtain ⟨rfl,rfl⟩:=Qi e
      obtain ⟨a,xs,rfl,n1,q1,l1⟩:=r1.tupI
      obtain ⟨z,hz,rz⟩:=Kc l1 q
      exact Qfo value slice O9 s σ H _ _ v u Q I rx ry ⟨a,xs,i,z,rfl,r2.intI,q1,hz,k _ ρ B H Gr.refl W rz⟩ hsub
  . rename_i ds i
    cases q:atI ds i with
    | none=>rw [q] at e;cases e
    | some d' =>
      rw [q] at e
      obtain ⟨rfl,rfl⟩:=Qi e
      obtain ⟨a,xs,rfl,n1,q1,l1⟩:=r1.lstI
      obtain ⟨z,hz,rz⟩:=Kc l1 q
      exact kc value slice O9 s σ H _ _ v u Q I rx ry ⟨a,xs,i,z,rfl,r2.intI,q1,hz,k _ ρ B H Gr.refl W rz⟩ hsub
  . cases e
theorem Jn (ha:DE X a fa) (hb:DE X b fb) (hs:U9 b:=by intro _ _;rfl):DE X (.Subscript a b pos) (Qj ixD fa fb):=L2.PE.imp (QeS Qhb ha hb hs) fun _ _ _ h=>qC h
end
mutual
def toP:DV->PyData
 | .non=>.none
 | .bl b=>.bool b
 | .int i=>.int i
 | .str x=>.str x
 | .tup xs=>.tuple (toPs xs)
 | .lst xs=>.list (toPs xs)
 | .ref _=>.none
def toPs:List DV->List PyData
 | []=>[]
 | d::ds=>toP d::toPs ds
end
mutual
def UO:DV->Bool
 | .ref _=>false
 | .tup xs=>noRefs xs
 | .lst xs=>noRefs xs
 | _=>true
def noRefs:List DV->Bool
 | []=>true
 | d::ds=>UO d&&noRefs ds
end
section
variable {X:Cx} {O9:Ei} {σ:St} {H:Hp} {s:Shared} {ρ:Ep} {B:Eo}
mutual
theorem Vq (I:Inv X O9 σ H s):∀ (d:DV) (v:V) (u:Value),RepV X.K ρ B H d v->RelV v u->UO d=true->∃ as,Reads s.heap u (toP d) as
  | .non,_,_,r,ru,_=>by obtain rfl:=r.nonI;cases ru;exact ⟨[],by unfold toP;exact .none⟩
  | .bl b,_,_,r,ru,_=>by obtain rfl:=r.blI;cases ru;exact ⟨[],by unfold toP;exact .bool b⟩
  | .int i,_,_,r,ru,_=>by obtain rfl:=r.intI;obtain ⟨t,rfl⟩:=ru;exact ⟨[],by unfold toP;exact .int i t⟩
  | .str x,_,_,r,ru,_=>by obtain rfl:=r.strI;obtain ⟨t,rfl⟩:=ru;exact ⟨[],by unfold toP;exact .str x t⟩
  | .ref _,_,_,_,_,n=>by cases n
  | .tup ds,_,_,r,ru,n=>by
    obtain ⟨a,xs,rfl,_,sq,rl⟩:=r.tupI
    cases ru
    obtain ⟨its,rv,⟨o,e,hc,k,hd⟩,_⟩:=I.tuple sq
    obtain ⟨as,q⟩:=reads_all I ds xs its rl rv (by unfold UO at n;exact n)
    exact ⟨_,by unfold toP;exact reads_tuple_at e hc hd (by simpa using q)⟩
  | .lst ds,_,_,r,ru,n=>by
    obtain ⟨a,xs,rfl,_,sq,rl⟩:=r.lstI
    cases ru
    obtain ⟨its,rv,⟨o,k,e,hc,_,hd⟩,_⟩:=I.list sq
    obtain ⟨as,q⟩:=reads_all I ds xs its rl rv (by unfold UO at n;exact n)
    exact ⟨_,by unfold toP;exact reads_list_at e hc hd (by simpa using q)⟩
theorem reads_all (I:Inv X O9 σ H s):∀ (ds:List DV) (xs:List V) (us:List Value),RepL X.K ρ B H ds xs->Vals xs us->noRefs ds=true->∃ as,ReadsAll s.heap us (toPs ds) as
  | [],_,_,r,ru,_=>by unfold RepL at r;subst r;cases ru;exact ⟨[],by unfold toPs;exact .nil⟩
  | d::ds,_,_,r,ru,n=>by
    unfold RepL at r
    obtain ⟨x,xs,rfl,r1,r2⟩:=r
    cases ru with
    | cons q1 q2 =>
      unfold noRefs at n
      rw [Bc] at n
      obtain ⟨as,h1⟩:=Vq I d x _ r1 q1 n.1
      obtain ⟨bs,h2⟩:=reads_all I ds xs _ r2 q2 n.2
      exact ⟨_,by unfold toPs;exact .cons h1 h2⟩
end
end
def okP (d:DV):Bool:=UO d&&SeqAt.shaped (toP d)
def eqD:DV->DV->M DV:=fun x y=>do Qz (okP x&&okP y);pure (.bl (PyData.eqv (toP x) (toP y)))
def neD:DV->DV->M DV:=fun x y=>do Qz (okP x&&okP y);pure (.bl (!PyData.eqv (toP x) (toP y)))
section
variable {X:Cx} {e a b c:Expr} {f fa fb fc:DEx} {ca cb:DTx} {pos:Pos}
theorem Qcc (hu:X.A.units+64 < cLine):P2 X (compareOp .Eq) eqD:=by
 intro O9 s σ H x y v u Q I rx ry h
 obtain ⟨ρ,B,U,dx,dy,d,hp',W,r1,r2,e,k⟩:=h
 obtain ⟨_,hp1,e1,e2⟩:=Qe e
 obtain ⟨hs,rfl⟩:=QK e1
 obtain ⟨rfl,rfl⟩:=Qi e2
 simp only [okP,Bc] at hs
 obtain ⟨as,q1⟩:=Vq I dx x v r1 rx hs.1.1
 obtain ⟨bs,q2⟩:=Vq I dy y u r2 ry hs.2.1
 exact eq_dataH q1 q2 hs.1.2 hs.2.2 hu ⟨.bl _,H,I,rfl,k _ ρ B H Gr.refl W Jf⟩
def tPn (K:Aa) (g:Er):List V->Hp->VK->Prop:=fun xs H Q=>∃ ρ B U ds d hp',WOk K ρ B U H/\RepL K ρ B H ds xs/\g ds U=some (d,hp')/\Fol K ρ B H d hp' Q
def ZT (g:Er) (a:DAx):DEx:=fun env=>do g (<- a env)
theorem GJ {K:Aa} {g:Er} {fa:DAx} {σ:St} {H:Hp} {Q:VK} (h:tD K (ZT g fa) σ H Q):tCB (tPn K g) (tDA K fa) σ H Q:=by
 obtain ⟨Z,env,ρ,B,U,d,hp',S,e,k⟩:=h
 obtain ⟨ds,hp1,e1,e2⟩:=Qe e
 exact tDA.run S e1 fun vs ρ1 B1 H1 g1 S1 r1=>⟨ρ1,B1,hp1,ds,d,hp',S1.wo,r1,e2,k.after g1⟩
theorem J6 {x:Str} {id:String} {g:Er} {e:Expr} {es:List Expr} {fa:DAx} {p:Pos} (hc:CallR X (.builtin id) (tPn X.K g)) (hm:X.mg x=none) (hv:bootBuiltins x=some (.builtin id)) (ha:DA X (e::es) fa) (hg:Gl X x:=by rfl) (hn:x ≠ "__name__" := by decide) (hdb:(x==("__debug__" : Str))=false:=by decide)
  (he:starEach (e::es) X.env=(false,eval e X.env)::starEach es X.env:=by rfl) (hpl:(backTo pos (starEach es X.env)).any (·.1)=false:=by rfl):DE X (.Call (.Name x p) (e::es) [] pos) (ZT g fa) :=
 L2.PE.imp (Vo hc hg hm hv ha hn hdb he hpl) fun _ _ _ h=>GJ h
theorem gC {x:Str} {T:String} {g:Er} {e:Expr} {es:List Expr} {fa:DAx} {p:Pos} (hc:CallR X (.type T) (tPn X.K g)) (hm:X.mg x=none) (hv:bootBuiltins x=some (.type T)) (ha:DA X (e::es) fa) (hg:Gl X x:=by rfl) (hn:x ≠ "__name__" := by decide) (hdb:(x==("__debug__" : Str))=false:=by decide)
  (he:starEach (e::es) X.env=(false,eval e X.env)::starEach es X.env:=by rfl) (hpl:(backTo pos (starEach es X.env)).any (·.1)=false:=by rfl):DE X (.Call (.Name x p) (e::es) [] pos) (ZT g fa) :=
 L2.PE.imp (QaK hc hg hm hv ha hn hdb he hpl) fun _ _ _ h=>GJ h
theorem RepL.oneI {K:Aa} {vs:List V} (h:RepL K ρ B H [d] vs):∃ v,vs=[v]/\RepV K ρ B H d v:=by
 unfold RepL at h
 obtain ⟨x,r,rfl,h1,h2⟩:=h
 unfold RepL at h2;subst h2
 exact ⟨x,rfl,h1⟩
def qp:List DV->M DV
 | [.tup ds]=>pure (.int ds.length)
 | [.lst ds]=>pure (.int ds.length)
 | _=>failure
theorem gy:CallR X (.builtin "len") (tPn X.K qp):=by
 intro O9 s σ H xs us Q I r h
 obtain ⟨ρ,B,U,ds,d,hp',W,rl,e,k⟩:=h
 unfold qp at e
 split at e
 ·obtain ⟨rfl,rfl⟩:=Qi e
  obtain ⟨v,rfl,rv⟩:=rl.oneI
  obtain ⟨a,ys,rfl,_,sq,l⟩:=rv.tupI
  exact YZ O9 s σ H _ us Q I r ⟨a,ys,rfl,.inr sq,by rw [<- l.length];exact k _ ρ B H Gr.refl W JW⟩
 ·obtain ⟨rfl,rfl⟩:=Qi e
  obtain ⟨v,rfl,rv⟩:=rl.oneI
  obtain ⟨a,ys,rfl,_,sq,l⟩:=rv.lstI
  exact YZ O9 s σ H _ us Q I r ⟨a,ys,rfl,.inl sq,by rw [<- l.length];exact k _ ρ B H Gr.refl W JW⟩
 ·cases e
def KK:List DV->M DV
 | [.int i,.int j]=>pure (.int (if j < i then j else i))
 | _=>failure
theorem Qbn (hc:X.calm=true):CallR X (.builtin "min") (tPn X.K KK):=by
 intro O9 s σ H xs us Q I r h
 obtain ⟨ρ,B,U,ds,d,hp',W,rl,e,k⟩:=h
 unfold KK at e
 split at e
 ·obtain ⟨rfl,rfl⟩:=Qi e
  exact Qah hc O9 s σ H xs us Q I r ⟨_,_,rl.ints2,k _ ρ B H Gr.refl W JW⟩
 ·cases e
def Qgo:List DV->M DV
 | [.lst ds]=>pure (.tup ds)
 | [.tup ds]=>pure (.tup ds)
 | _=>failure
theorem Qde:CallR X (.type "tuple") (tPn X.K Qgo):=by
 intro O9 s σ H xs us Q I r h
 obtain ⟨ρ,B,U,ds,d,hp',W,rl,e,k⟩:=h
 unfold Qgo at e
 split at e
 ·obtain ⟨rfl,rfl⟩:=Qi e
  obtain ⟨v,rfl,rv⟩:=rl.oneI
  obtain ⟨a,ys,rfl,_,sq,l⟩:=rv.lstI
  exact Yu O9 s σ H _ us Q I r ⟨a,ys,rfl,.inl ⟨sq,jr W l k⟩⟩
 ·obtain ⟨rfl,rfl⟩:=Qi e
  obtain ⟨v,rfl,rv⟩:=rl.oneI
  obtain ⟨a,ys,rfl,nb,sq,l⟩:=rv.tupI
  exact Yu O9 s σ H _ us Q I r ⟨a,ys,rfl,.inr ⟨sq,k _ ρ B H Gr.refl W (qY nb sq l)⟩⟩
 ·cases e
def VR:DV->Option String
 | .non=>some "NoneType"
 | .bl _=>some "bool"
 | .int _=>some "int"
 | .str _=>some "str"
 | .tup _=>some "tuple"
 | .lst _=>some "list"
 | .ref _=>none
def Uc (t T:String):Bool:=t==T||(t == "bool" && T == "int")
def yi (T:String) (f:DEx):DEx:=fun env=>do
 match VR (<- f env) with
 | some t=>pure (.bl (Uc t T))
 | none=>failure
theorem QeF {T:String} (hT:T∈["int", "bool", "tuple", "str", "list"]):CallR X (.builtin "isinstance") (fun xs H Q=>∃ ρ B d x t,xs=[x,.ty T]/\RepV X.K ρ B H d x/\VR d=some t/\Q (.bl (Uc t T)) H):=by
  intro O9 s σ H xs us Q I r h
  obtain ⟨ρ,B,d,x,t,rfl,rv,ht,q⟩:=h
  obtain ⟨u,w',rfl,ru,rw'⟩:=vG r
  cases rw'
  have fin:∀ tk,EP X O9 σ Q (.bool (Uc t T)) { s with toks:=tk }:=fun tk=>⟨.bl _,H,I.tok _,rfl,q⟩
  have kit:PySem.W.kitOne X.K (.type t) (.type T)=some (Uc t T):=by
    have:t∈["NoneType", "bool", "int", "str", "tuple", "list"]:=by
      cases d<;>cases ht<;>simp
    simp only [Bk,Cf,or_false] at this hT
    rcases this with rfl | rfl | rfl | rfl | rfl | rfl<;>rcases hT with rfl | rfl | rfl | rfl | rfl<;>first | rfl | decide | with_unfolding_all rfl | kernel_rfl
  cases d with
  | non=>obtain rfl:=rv.nonI;cases ht;cases ru;exact PySem.W.kia_one PySem.W.kitx_none I.kIn True.intro kit (fun z=>nomatch z) fin
  | bl b=>obtain rfl:=rv.blI;cases ht;cases ru;exact PySem.W.kia_one PySem.W.kitx_bool I.kIn True.intro kit (fun z=>nomatch z) fin
  | int b=>obtain rfl:=rv.intI;cases ht;obtain ⟨tk,rfl⟩:=ru;exact PySem.W.kia_one PySem.W.kitx_int I.kIn True.intro kit (fun z=>nomatch z) fin
  | str b=>obtain rfl:=rv.strI;cases ht;obtain ⟨tk,rfl⟩:=ru;exact PySem.W.kia_one PySem.W.kitx_str I.kIn True.intro kit (fun z=>nomatch z) fin
  | ref b=>cases ht
  | tup b =>
    cases ht
    obtain ⟨a,ys,rfl,_,sq,_⟩:=rv.tupI
    cases ru
    obtain ⟨its,_,⟨o,e1,e2,_⟩,_⟩:=I.tuple sq
    exact PySem.W.kia_one PySem.W.kitx_tuple I.kIn ⟨o,e1,e2⟩ kit (fun z=>nomatch z) fin
  | lst b =>
    cases ht
    obtain ⟨a,ys,rfl,_,sq,_⟩:=rv.lstI
    cases ru
    obtain ⟨its,_,⟨o,k,e1,e2,_⟩,_⟩:=I.list sq
    exact PySem.W.kia_one PySem.W.kitx_list I.kIn ⟨o,e1,e2⟩ kit (fun z=>nomatch z) fin
theorem yJ {T:String} {p p':Pos} (hm:X.mg "isinstance" = none) (hm':X.mg (Str.ofString T)=none) (hv:bootBuiltins (Str.ofString T)=some (.type T)) (hT:T∈["int", "bool", "tuple", "str", "list"]) (h:DE X e f) (hg:Gl X "isinstance" := by rfl) (hg':Gl X (Str.ofString T):=by rfl)
    (hn:Str.ofString T ≠ "__name__" := by decide) (hdb:(Str.ofString T==("__debug__" : Str))=false:=by decide) (hs:starEach [e,.Name (Str.ofString T) p'] X.env=(false,eval e X.env)::starEach [.Name (Str.ofString T) p'] X.env:=by rfl)
    (hs2:starEach [.Name (Str.ofString T) p'] X.env=(false,eval (.Name (Str.ofString T) p') X.env)::starEach [] X.env:=by rfl) (hpl:(backTo pos (starEach [.Name (Str.ofString T) p'] X.env)).any (·.1)=false:=by rfl):DE X (.Call (.Name "isinstance" p) [e,.Name (Str.ofString T) p'] [] pos) (yi T f) :=
  L2.PE.imp (Vo (QeF hT) hg hm boot_isinstance (Y3 h (Y3 (kz (v:=.ty T) hg' hm' hv rfl hn hdb) pa_nil hs2) hs) (by decide) (by decide) hs hpl) fun σ H Q zz1=>by
    obtain ⟨Z,env,ρ,B,U,d,hp',S,e,k⟩:=zz1
    obtain ⟨x,hp1,e1,e2⟩:=Qe e
    refine tD.run S e1 fun v ρ1 B1 H1 g1 S1 r1=>?_
    cases q:VR x with
    | none=>rw [q] at e2;cases e2
    | some t =>
      rw [q] at e2
      obtain ⟨rfl,rfl⟩:=Qi e2
      exact ⟨ρ1,B1,x,v,t,rfl,r1,q,k _ ρ1 B1 H1 g1 S1.wo Jf⟩
def JK (g g':DV->DV->M DV) (fa fb fc:DEx):DEx:=fun env=>do
 let x <- fa env
 let y <- fb env
 let z <- g x y
 if <- asB z then
  let u <- fc env
  g' y u
 else pure (.bl false)
end
section
variable {X:Cx} {e a b c:Expr} {f fa fb fc:DEx} {ca cb:DTx} {pos:Pos}
theorem ud {K:Aa} {g g':DV->DV->M DV} (h:tD K (JK g g' fa fb fc) σ H Q):QcW (tP2 K g) (tP2 K g') (tD K fa) (tD K fb) (tD K fc) σ H Q:=by
  obtain ⟨Z,env,ρ,B,U,d,hp',S,e,k⟩:=h
  obtain ⟨x,hp1,e1,e⟩:=Qe e
  obtain ⟨y,hp2,e2,e⟩:=Qe e
  obtain ⟨z,hp3,e3,e⟩:=Qe e
  obtain ⟨t,hp4,e4,e⟩:=Qe e
  obtain ⟨rfl,rfl⟩:=qz e4
  refine tD.run S e1 fun v ρ1 B1 H1 g1 S1 r1=>tD.run S1 e2 fun u ρ2 B2 H2 g2 S2 r2=>?_
  refine ⟨ρ2,B2,hp2,x,y,_,_,S2.wo,RepV.grow S1.wo.rb g2 _ _ r1,r2,e3,fun w ρ3 B3 H3 g3 W3 r3=>⟨t,r3.blI,?_⟩⟩
  have S3:=S2.grow g3 W3
  cases t with
  | false =>
    obtain ⟨rfl,rfl⟩:=Qi e
    exact uq (k _ ρ3 B3 H3 (g1.trans (g2.trans g3)) W3 Jf)
  | true =>
    obtain ⟨q,hp5,e5,e6⟩:=Qe e
    refine ur (tD.run S3 e5 fun p ρ4 B4 H4 g4 S4 r4=>?_)
    exact ⟨ρ4,B4,hp5,y,q,d,hp',S4.wo,RepV.grow S3.wo.rb g4 _ _ (RepV.grow S2.wo.rb g3 _ _ r2),r4,e6,k.after (g1.trans (g2.trans (g3.trans g4)))⟩
theorem jn {op op':CmpOp} {g g':DV->DV->M DV} (ho:P2 X (compareOp op) g) (ho':P2 X (compareOp op') g') (ha:DE X a fa) (hb:DE X b fb) (hc:DE X c fc) (hm:lastMarks [op,op'] [b,c]=false:=by with_unfolding_all rfl):DT X (.Compare a [op,op'] [b,c] pos) (eB (JK g g' fa fb fc)) :=
 L2.PT.imp (Qcu ho ho' ha hb hc hm) fun σ H Q zz1=>by
  obtain ⟨Z,env,ρ,B,U,d,hp',S,e,k⟩:=zz1
  obtain ⟨x,hp1,e1,e2⟩:=Qe e
  obtain ⟨rfl,rfl⟩:=qz e2
  exact ud (tD.run S e1 fun v ρ1 B1 H1 g1 S1 r1=>⟨d,r1.blI,k ρ1 B1 H1 g1 S1.wo⟩)
abbrev DOx:=En->M (Option Int)
def tDO (K:Aa) (f:DOx):TO:=fun σ H Q=>∃ Z env ρ B U d hp',SOk K Z env σ ρ B U H/\f env U=some (d,hp')/\Qgz K ρ B H hp' (Q d)
def DO (X:Cx) (e:Option Expr) (f:DOx):Prop:=PO X e (tDO X.K f)
def ZP:DOx:=fun _=>pure none
def asI:DV->M Int
 | .int i=>pure i
 | _=>failure
theorem yA {d:DV} {c:Int} {U hp':Hs} (h:asI d U=some (c,hp')):d=.int c/\U=hp':=by
 cases d with
 | int b=>obtain ⟨rfl,rfl⟩:=Qi h;exact ⟨rfl,rfl⟩
 | _=>cases h
def ZQ (f:DEx):DOx:=fun env=>do let i <- asI (<- f env);pure (some i)
theorem JF:DO X none ZP:=fun O9 s σ H Q I zz1=>by
 obtain ⟨Z,env,ρ,B,U,d,hp',S,e,k⟩:=zz1
 obtain ⟨rfl,rfl⟩:=Qi e
 exact Qd2 O9 s σ H Q I (k ρ B H Gr.refl S.wo)
theorem JG (h:DE X e f):DO X (some e) (ZQ f):=fun O9 s σ H Q I zz1=>by
 obtain ⟨Z,env,ρ,B,U,d,hp',S,e,k⟩:=zz1
 obtain ⟨x,hp1,e1,e2⟩:=Qe e
 obtain ⟨i,hp2,e3,e4⟩:=Qe e2
 obtain ⟨rfl,rfl⟩:=yA e3
 obtain ⟨rfl,rfl⟩:=Qi e4
 exact Qd3 h O9 s σ H Q I (tD.run S e1 fun v ρ1 B1 H1 g1 S1 r1=>⟨i,r1.intI,k ρ1 B1 H1 g1 S1.wo⟩)
theorem tDO.run {K:Aa} {f:DOx} {Z:Ent} {d:Option Int} {Q:Option Int->Hp->Prop} (S:SOk K Z env σ ρ B U H) (e:f env U=some (d,hp1))
  (k:∀ ρ' B' H',Gr K ρ B H ρ' B' H'->SOk K Z env σ ρ' B' hp1 H'->Q d H'):tDO K f σ H Q :=
 ⟨Z,env,ρ,B,U,d,hp1,S,e,fun ρ' B' H' g W=>k ρ' B' H' g (S.grow g W)⟩
def yg (ds:List DV) (lo hi:Option Int):List DV:=(ds.drop (HT.sIx ds.length 0 lo)).take (HT.sIx ds.length ds.length hi - HT.sIx ds.length 0 lo)
theorem GB {K:Aa} {lo hi:Option Int} (r:RepL K ρ B H ds xs):RepL K ρ B H (yg ds lo hi) (GC xs lo hi):=by
 unfold yg GC
 rw [r.length]
 exact RepL.take _ (RepL.drop _ r)
def slD (d:DV) (lo hi:Option Int):M DV:=match d with
 | .lst ds=>pure (.lst (yg ds lo hi))
 | .tup ds=>pure (.tup (yg ds lo hi))
 | _=>failure
def eSl (f:DEx) (lo hi:DOx):DEx:=fun env=>do let d <- f env;let l <- lo env;let h <- hi env;slD d l h
def tPs (K:Aa):V->Option Int->Option Int->Hp->VK->Prop:=fun x lo hi H Q=>∃ ρ B U d r hp',WOk K ρ B U H/\RepV K ρ B H d x/\slD d lo hi U=some (r,hp')/\Fol K ρ B H r hp' Q
theorem vD {prog:Program} {w:World} {A:Around} {E:Eh} {s:Shared} {t sl:Addr} {items:Array Value} {lo hi:Option Int} {Q:Eh} (ht:IsTup s.heap t items) (hs:s.heap.IsSliceOf sl vl vu .none) (pl:IsPart vl lo) (pu:IsPart vu hi)
  (h0:HT.sIx items.size 0 lo=0) (h1:HT.sIx items.size items.size hi=items.size) (h:Q (.ref t) s):wpAny (model prog w) A (getItem (.ref t) (.ref sl)) Q E s:=by
 obtain ⟨os,hos,hcs,hds⟩:=id hs
 have hTs:s.TypeIs (.ref sl) "slice" := ⟨os,hos,hcs⟩
 unfold getItem
 try with_reducible refine wpAny_holding ?_
 first | refine C7 (Ea ?_) | skip
 refine C7 (wpAny_sequenceKey ht.typeIs (by decide) ?_)
 refine C7 (wpAny_callSpecial?_slot (name:=Str.ofString "__getitem__") ht.typeIs PyProof.Rows.slot_tuple_getitem (wpAny_call_entry PyProof.Rows.slot_tuple_getitem ht.typeIs entry_tuple_getitem ?_ (args_tuple_getitem _ _)))
 show wpAny _ _ (Builtin.Tuple.tupleItemsOf (.ref t) >>= _) _ _ s
 refine C7 (tupleItemsOf_ ht ?_)
 refine C7 (wpAny_typeOf hTs ?_)
 rw [C9 (by decide)]
 refine C7 (HT.sliceApplied_gen hs pl pu ?_)
 have yes:(((HT.sIx items.size 0 lo:Nat):Int)==0&&(1:Int)==1&&(HT.sIx items.size items.size hi - HT.sIx items.size 0 lo)==items.size)=true:=by rw [h0,h1];simp
 show wpAny _ _ (if (((HT.sIx items.size 0 lo:Nat):Int)==0&&(1:Int)==1&&(HT.sIx items.size items.size hi - HT.sIx items.size 0 lo)==items.size)=true then _ else _) _ _ s
 rw [C9 yes]
 have ex:∀ {Q':Bool->Shared->Prop} {A':Around} {E':Eh},Q' true s->wpAny (model prog w) A' (Builtin.Tuple.tupleIsExact (.ref t)) Q' E' s:=fun {Q' A' E'} q=>by
  unfold Builtin.Tuple.tupleIsExact
  exact C7 (wpAny_typeOf ht.typeIs (Ea (by rw [show (Value.type "tuple" == Value.type "tuple")=true from beq_self_eq_true _];exact q)))
 refine C7 (ex ?_)
 rw [C9 rfl]
 first
  | exact C7 (wpAny_rule (Ea ⟨_,rfl,Ea h⟩))
  | exact C7 (wpAny_rule (C7 (Ea (Ea ⟨_,rfl,Ea h⟩))))
theorem Qer:SlR X (fun x lo hi H Q=>∃ a xs,x=.ref a/\SqT X.K H a xs/\(HT.sIx xs.length 0 lo=0/\HT.sIx xs.length xs.length hi=xs.length)/\Q (.ref a) H):=by
 intro O9 s σ H x v vl vu lo hi sl Q I rx hs pl pu h
 obtain ⟨a,xs,rfl,hx,⟨h0,h1⟩,q⟩:=h
 cases rx
 obtain ⟨its,r,ht,hz⟩:=I.tuple hx
 have hlen:its.toArray.size=xs.length:=by rw [Ao];exact r.length.symm
 exact ⟨"tuple", _,PyProof.Rows.slot_tuple_getitem.lookup,ht.typeIs,vD ht hs pl pu (by rw [hlen];exact h0) (by rw [hlen];exact h1) ⟨.ref a,H,I,rfl,q⟩⟩
theorem Qal {α:Type} (ds:List α) (i j:Nat) (h0:i=0) (h1:j=ds.length):(ds.drop i).take (j - i)=ds:=by subst h0 h1;simp
theorem QhP:SlR X (tPs X.K):=by
  intro O9 s σ H x v vl vu lo hi sl Q I rx hs pl pu h
  obtain ⟨ρ,B,U,d,r,hp',W,rv,e,k⟩:=h
  cases d with
  | lst ds =>
    obtain ⟨rfl,rfl⟩:=Qi e
    obtain ⟨a,xs,rfl,nb,sq,rl⟩:=rv.lstI
    exact Qeq O9 s σ H _ v vl vu lo hi sl Q I rx hs pl pu ⟨a,xs,rfl,sq,jq W (GB rl) k⟩
  | tup ds =>
    obtain ⟨rfl,rfl⟩:=Qi e
    obtain ⟨a,xs,rfl,nb,sq,rl⟩:=rv.tupI
    by_cases hw:HT.sIx xs.length 0 lo=0/\HT.sIx xs.length xs.length hi=xs.length
    . refine Qer O9 s σ H _ v vl vu lo hi sl Q I rx hs pl pu ⟨a,xs,rfl,sq,hw,?_⟩
      have:yg ds lo hi=ds:=by unfold yg;exact Qal ds _ _ (by rw [rl.length];exact hw.1) (by rw [rl.length];exact hw.2)
      rw [this] at k
      exact k _ ρ B H Gr.refl W (qY nb sq rl)
    . exact Qgj O9 s σ H _ v vl vu lo hi sl Q I rx hs pl pu ⟨a,xs,rfl,sq,hw,jr W (GB rl) k⟩
  | non=>cases e
  | bl _=>cases e
  | int _=>cases e
  | str _=>cases e
  | ref _=>cases e
theorem YD {lo hi:Option Expr} {ol oh:DOx} (h:DE X e f) (hl:DO X lo ol) (hh:DO X hi oh):DE X (.Subscript e (.Slice lo hi none p2) pos) (eSl f ol oh) :=
 L2.PE.imp (Qck QhP h hl hh) fun σ H Q zz1=>by
  obtain ⟨Z,env,ρ,B,U,d,hp',S,e,k⟩:=zz1
  obtain ⟨x,hp1,e1,e⟩:=Qe e
  obtain ⟨l,hp2,e2,e⟩:=Qe e
  obtain ⟨u,hp3,e3,e⟩:=Qe e
  refine tD.run S e1 fun v ρ1 B1 H1 g1 S1 r1=>tDO.run S1 e2 fun ρ2 B2 H2 g2 S2=>tDO.run S2 e3 fun ρ3 B3 H3 g3 S3=>?_
  exact ⟨ρ3,B3,hp3,x,d,hp',S3.wo,RepV.grow S1.wo.rb (g2.trans g3) _ _ r1,e,k.after (g1.trans (g2.trans g3))⟩
theorem QgM {P:Program} {w:World} {K:Aa} {mg:Ej} {O8:Heap} {x:Str} {g:Addr} {k:Nat} {body:DSx} (F:Fun K x x stm g fd) (Sc:Qv N ps (Qp stm))
  (h:∀ (cdv:Value) (A:Around) (outer:List Env) (s:Shared) (H:Hp) (E:XK),Room k (A.deeper (envOfC x (Qp stm) s.heap.objs.size g cdv))->DSs (yh CX0 P w K mg O8 N x (Qp stm) g cdv A outer s H E).nox (ZG stm) body) :
  qy P w K mg O8 CX0 (k+1) g fd ps (spD K ps.length (Q7 N.length body)):=by
 refine F.ok Sc (fun vs H Q E h=>h.1) (fun cdv A outer s H vs Q E hr sp=>?_)
 obtain ⟨hn,ρ,B,U,ds,d,hp',W,r,e,k⟩:=sp
 obtain ⟨⟨fl,env'⟩,hp1,e1,e2⟩:=Qe e
 refine ⟨_,h cdv A outer s H E hr,⟨ρ,B,H⟩,_,ρ,B,U,fl,env',hp1,xC W r,e1,fun σ' ρ' B' H' g' S'=>?_⟩
 cases fl with
 | nx=>obtain ⟨rfl,rfl⟩:=Qi e2;exact k .non ρ' B' H' S'.gr S'.wo Y6
 | rt x=>obtain ⟨rfl,rfl⟩:=Qi e2;exact fun v rv=>k v ρ' B' H' S'.gr S'.wo rv
 | bk=>cases e2
 | ct=>cases e2
theorem vd {K:Aa}:∀ ns:List Int,RepL K ρ B H (ns.map DV.int) (ns.map V.int)
 | []=>RepL.nil
 | _::r=>RepL.cons JW (vd r)
theorem Qfw {K:Aa} {F:Er} {a:Addr} {ns:List Int} (h:∃ hp',F [.lst (ns.map .int)] []=some (.bl true,hp')) (hS:SqL K H a (ns.map V.int)):spD K 1 F [.ref a] H (fun v _=>v=.bl true) E:=by
 obtain ⟨hp',h⟩:=h
 refine ⟨rfl,[],fun _=>False,[],[.lst (ns.map .int)],.bl true,hp',⟨rfl,List.nodup_nil,fun i a o h=>by simp at h,fun a h=>absurd h (by simp),fun a h=>absurd h (fun z=>z),fun a h=>h.elim⟩,RepL.one (KS (fun z=>z) hS (vd ns)),h,fun v _ _ _ _ _ r=>r.blI⟩
end
end D
namespace L2
open PySem PySem.Spec PyProof.Rows
section
variable {prog:Program} {w:World} {A:Around} {E:Eh} {s:Shared}
theorem zd {p q:Addr} {n:Nat} {xs:Array Value} {Q:Eh} (a1:s.heap.IsTupleIter p q n) (a2:s.heap.IsTuple q xs) (a3:xs[n]?=some v)
  (k:∀ g,g.IsTupleIter p q (n+1)->Heap.SameBut p s.heap g->Q v { s with heap:=g }):wpAny (model prog w) A (Builtin.SmallTypes.nextOf (.ref p)) Q E s:=by
 obtain ⟨ob,b1,b2,b3⟩:=id a1
 obtain ⟨oq,b4,_,m,b5⟩:=a2
 unfold Builtin.SmallTypes.nextOf
 refine C7 (wpAny_callSpecial?_slot (name:=Str.ofString "__next__") a1.typeIs F.slot_tuple_iterator_next (wpAny_call_entry F.slot_tuple_iterator_next a1.typeIs F.entry_tuple_iterator_next ?_ (F.args_tuple_iterator_next_1 _)))
 show wpAny _ _ (field (.ref p) 0 >>= _) _ _ s
 refine C7 (wpAny_field b1 b3 (x:=.ref q) rfl ?_)
 show wpAny _ _ (if (Value.ref q==Value.none)=true then _ else _) _ _ s
 rw [C8 (show ¬ ((Value.ref q==Value.none)=true) from Bz)]
 show wpAny _ _ (field (.ref p) 1 >>= _) _ _ s
 refine C7 (wpAny_field b1 b3 (x:=.int n 0) rfl ?_)
 show wpAny _ _ (seqItems? (.ref q) >>= _) _ _ s
 refine C7 (wpAny_seqItems b4 b5 ?_)
 simp only [B7,a3]
 refine C7 (wpAny_setField b1 b3 (by simp) (Ea ⟨v,rfl,Ea (k _ ?_ (Heap.SameBut.update ..))⟩))
 exact ⟨_,Heap.get?_update_self _ b1 (Obj.isFreed_of_fields (Obj.data_mapFields b3 _)),(Obj.cls_mapFields ..).trans b2,by rw [Obj.data_mapFields b3];simp [rawInt]⟩
theorem Gd {p q:Addr} {n:Nat} {xs:Array Value} {Q:Eh} (hh:A.handled=none) (a1:s.heap.IsTupleIter p q n) (a2:s.heap.IsTuple q xs) (a3:xs[n]?=none)
  (k:∀ g x,Heap.ExtBut p s.heap g->(∃ o,g.get? x=some o/\o.cls=.type "StopIteration")->E (.ref x) { s with heap:=g }):wpAny (model prog w) A (Builtin.SmallTypes.nextOf (.ref p)) Q E s:=by
 obtain ⟨ob,b1,b2,b3⟩:=id a1
 obtain ⟨oq,b4,_,m,b5⟩:=a2
 unfold Builtin.SmallTypes.nextOf
 refine C7 (wpAny_callSpecial?_slot (name:=Str.ofString "__next__") a1.typeIs F.slot_tuple_iterator_next (wpAny_call_entry F.slot_tuple_iterator_next a1.typeIs F.entry_tuple_iterator_next ?_ (F.args_tuple_iterator_next_1 _)))
 show wpAny _ _ (field (.ref p) 0 >>= _) _ _ s
 refine C7 (wpAny_field b1 b3 (x:=.ref q) rfl ?_)
 show wpAny _ _ (if (Value.ref q==Value.none)=true then _ else _) _ _ s
 rw [C8 (show ¬ ((Value.ref q==Value.none)=true) from Bz)]
 show wpAny _ _ (field (.ref p) 1 >>= _) _ _ s
 refine C7 (wpAny_field b1 b3 (x:=.int n 0) rfl ?_)
 show wpAny _ _ (seqItems? (.ref q) >>= _) _ _ s
 refine C7 (wpAny_seqItems b4 b5 ?_)
 simp only [B7,a3]
 refine C7 (wpAny_rule (C7 (wpAny_setField b1 b3 (by simp) ?_)))
 show wpAny _ _ (newExc (.type "StopIteration") [] >>= _) _ _ _
 refine C7 ?_
 simp only [newExc,newTuple]
 refine C7 (wpAny_newObj_type ?_ (by size_fits))
 refine C7 (m:=firstArgMember _ _) (wpAny_of_eq (a:=Value.none) (by first | rfl | (simp only [firstArgMember];rfl)) ?_)
 refine wpAny_newObj_type ?_ (by size_fits)
 simp only [raiseNew]
 refine C7 (wpAny_handled ?_)
 first | rw [show A.in1.handled=none from hh] | rw [hh]
 refine C7 (Ea (wpAny_throw ?_))
 exact k _ _ (((Heap.SameBut.update ..).extBut.push _).push _) ⟨_,Av _ rfl,rfl⟩
structure ZA (z p o i j a b:Addr):Prop where
 pz:p≠z
 oz:o≠z
 iz:i≠z
 jz:j≠z
 po:p≠o
 pi:p≠i
 pj:p≠j
 oi:o≠i
 oj:o≠j
 ij:i≠j
 az:a≠z
 ao:a≠o
 ai:a≠i
 aj:a≠j
 bz:b≠z
 bo:b≠o
 bi:b≠i
 bj:b≠j
end
section
variable {X:Cx} {O9:Ei} {σ:L2.St} {H:Hp} {s:Shared} {h':Heap}
theorem Inv.turnL {t':Nat} {fp:Ep} (I:Inv X O9 σ H s) (hf:∀ b∈fp,U8 X O9 H b) (k:∀ b o,b∉fp->s.heap.get? b=some o->h'.get? b=some o):Inv X O9 σ H { s with heap:=h',toks:=t' }:=by
 refine I.step (g':=s.gens) (d':=s.drawn) (ch:=fp) (fun b hb=>⟨(hf b hb).2.2.2.1,(hf b hb).2.1,(hf b hb).2.2.2.2.1,(hf b hb).2.2.2.2.2⟩) (fun b o _ _ hc e _=>k b o hc e) (fun b o _ _ hc e _=>⟨o.slots,k b o hc e⟩) (fun _ _ _ _ n=>n)
  (fun b o hc e=>⟨o,k b o hc e⟩) (fun _ _ e=>e) (fun _ _ _ e=>e) (fun b ps e=>⟨#[],by rw [e];simp⟩) (fun m hm=>?_) (fun b u e=>?_) I.bare
 ·obtain ⟨o,es,ep,ho,r⟩:=hm
  exact ⟨o,es,ep,k _ o (fun z=>(hf _ z).2.1 rfl) ho,r⟩
 ·have nf:∀ c u,H c=some u->c∉fp:=fun c u q z=>by rw [(hf c z).1] at q;cases q
  refine (I.hok b u e).stay (fun c v hc q=>k c v ?_ q) (fun _ q=>q) fun _ _ q=>q
  rcases hc with z | z
  ·rw [z];exact nf b u e
  ·exact nf c _ z
theorem Inv.turnNew {t':Nat} {fp:Ep} {vs:List V} {us:List Value} (I:Inv X O9 σ H s) (hf:∀ b∈fp,U8 X O9 H b) (k:∀ b o,b∉fp->s.heap.get? b=some o->h'.get? b=some o)
  (hv:Vals vs us) (hz:vs.length<=sizeLine) (hT:IsTup h' s.heap.objs.size us.toArray):Inv X O9 σ (upd H s.heap.objs.size (.tup vs)) { s with heap:=h',toks:=t' }:=by
 have hn:H s.heap.objs.size=none:=I.hok.fresh (Ae _)
 refine I.step (g':=s.gens) (d':=s.drawn) (ch:=fp) (fun b hb=>⟨(hf b hb).2.2.2.1,(hf b hb).2.1,(hf b hb).2.2.2.2.1,(hf b hb).2.2.2.2.2⟩) (fun b o _ _ hc e _=>k b o hc e) (fun b o _ _ hc e _=>⟨o.slots,k b o hc e⟩)
  (fun b o _ e n=>by rw [QX (Bf (Ap e))];exact n) (fun b o hc e=>⟨o,k b o hc e⟩) (fun b xs e=>by rw [QX (ZC e hn)];exact e) (fun b o u e=>by rw [QX (ZC e hn)];exact e) (fun b ps e=>⟨#[],by rw [QX (ZC e hn),e];simp⟩) (fun m hm=>?_) (fun b u e=>?_) I.bare
 ·obtain ⟨o,es,ep,ho,r⟩:=hm
  exact ⟨o,es,ep,k _ o (fun z=>(hf _ z).2.1 rfl) ho,r⟩
 ·by_cases hb:b=s.heap.objs.size
  ·subst hb
   rw [Q9] at e;cases e
   exact ⟨hz,us,hv,hT⟩
  ·rw [QX hb] at e
   have nf:∀ c u,H c=some u->c∉fp:=fun c u q z=>by rw [(hf c z).1] at q;cases q
   refine (I.hok b u e).stay (fun c v hc q=>k c v ?_ q) (fun c q=>by rw [QX (ZC q hn)];exact q) fun c xs q=>by rw [QX (ZC q hn)];exact q
   rcases hc with z | z
   ·rw [z];exact nf b u e
   ·exact nf c _ z
end
def Itz (K:Aa) (a b:Addr):It :=
  ⟨fun i H=>∃ xs ys x y,SqT K H a xs/\SqT K H b ys/\xs[i]?=some x/\ys[i]?=some y,
   fun i H v H'=>∃ p x y,H p=none/\(∀ xs,SqT K H a xs->xs[i]?=some x)/\(∀ ys,SqT K H b ys->ys[i]?=some y)/\v=.ref p/\H'=upd H p (.tup [x,y]),
   fun i H=>∃ xs ys,SqT K H a xs/\SqT K H b ys/\(xs.length<=i∨ys.length<=i)⟩
abbrev zt1 (h:Heap) (a:Addr):Heap:=h.push { cls:=.type "tuple_iterator", data:=.fields #[.ref a,.int 0 0] }
abbrev zt2 (h:Heap) (a b:Addr):Heap:=(zt1 h a).push { cls:=.type "tuple_iterator", data:=.fields #[.ref b,.int 0 0] }
abbrev zt3 (h:Heap) (a b:Addr):Heap:=(zt2 h a b).push { cls:=.type "tuple", data:=.seq #[.ref h.objs.size,.ref (zt1 h a).objs.size] }
abbrev zt4 (h:Heap) (a b:Addr):Heap:=(zt3 h a b).push { cls:=.type "tuple", data:=.seq #[.none,.none] }
abbrev zt5 (h:Heap) (a b:Addr):Heap:=(zt4 h a b).push { cls:=.type "zip", data:=.fields #[.none,.bool false,.bool false,.ref (zt2 h a b).objs.size,.ref (zt3 h a b).objs.size] }
theorem QeB (a b:Addr) (xs ys:Array Value):Meets (Builtin.«zip.__new__» ⟨[.type "zip", .ref a,.ref b],[]⟩) (fun _ R s=>s.heap.IsTuple a xs/\s.heap.IsTuple b ys/\R (.ok (.ret (.ref (zt4 s.heap a b).objs.size))) { s with heap:=zt5 s.heap a b }) :=
 .of_wp fun prog w A R s h=>by
  obtain ⟨U,g,d,tk,os⟩:=s;obtain ⟨q1,q2,h⟩:=h
  have hsub:=sub_zip
  have t1:Heap.IsTuple (Shared.heap ⟨U,g,d,tk,os⟩) a xs:=q1
  have t2:Heap.IsTuple (Shared.heap ⟨U.push { cls:=.type "tuple_iterator", data:=.fields #[.ref a,.int 0 0] },g,d,tk,os⟩) b ys:=let ⟨ob,e,r⟩:=q2;⟨ob,Ad _ e,r⟩
  wp_walk using wpAny_pyIter_tuple t1,wpAny_pyIter_tuple t2
  exact ⟨_,rfl,h⟩
section
variable {X:Cx} {elts:List Expr} {kt:Nat} {p2:Pos}
def QgR (K:Aa) (ta:TA):TI:=fun σ H R=>ta σ H fun vs H1=>∃ a b xs ys,vs=[.ref a,.ref b]/\SqT K H1 a xs/\SqT K H1 b ys/\R (Itz K a b) H1
end
end L2
namespace D
open PySem PySem.Spec PyProof.Rows L2
def jW:List DV->List DV->List DV
 | x::xs,y::ys=>.tup [x,y]::jW xs ys
 | _,_=>[]
theorem vN:∀ {xs ys:List DV} {i:Nat} {d:DV},(jW xs ys)[i]?=some d->∃ x y,xs[i]?=some x/\ys[i]?=some y/\d=.tup [x,y]
  | x::xs,y::ys,0,d,h=>by simp [jW] at h;exact ⟨x,y,rfl,rfl,h.symm⟩
  | x::xs,y::ys,i+1,d,h=>by
    obtain ⟨a,b,h1,h2,h3⟩:=vN (xs:=xs) (ys:=ys) (i:=i) (by simpa [jW] using h)
    exact ⟨a,b,by simpa using h1,by simpa using h2,h3⟩
  | [],_,_,_,h=>by simp [jW] at h
  | _::_,[],_,_,h=>by simp [jW] at h
theorem vO:∀ (xs ys:List DV),(jW xs ys).length=min xs.length ys.length
 | x::xs,y::ys=>by simp only [jW,Ba,vO xs ys];lia
 | [],_=>by simp [jW]
 | _::_,[]=>by simp [jW]
def QbL (f g:DEx):DIx:=fun env=>do
 let x <- f env
 let xs <- gc x
 let y <- g env
 let ys <- gc y
 pure (jW xs ys)
theorem Qfn {K:Aa} {B:Eo} {a b:Addr} (na:¬ B a) (qa:SqT K H a xs) (ra:RepL K ρ B H ds xs) (nb:¬ B b) (qb:SqT K H b ys) (rb:RepL K ρ B H es ys):kZ K ρ B H (jW ds es) (Itz K a b):=fun ρ1 B1 H1 g r1 t1=>by
 have qa1:=g.sqT na qa
 have qb1:=g.sqT nb qb
 have ra1:=RepL.gs g _ _ ra
 have rb1:=RepL.gs g _ _ rb
 refine ⟨fun i d e=>?_,xs,ys,qa1,qb1,?_⟩
 ·obtain ⟨x,y,h1,h2,rfl⟩:=vN e
  obtain ⟨u,hu,ru⟩:=ra1.get h1
  obtain ⟨v,hv,rv⟩:=rb1.get h2
  refine ⟨⟨xs,ys,u,v,qa1,qb1,hu,hv⟩,fun z H' zz1=>?_⟩
  obtain ⟨p,u',v',hn,h3,h4,e1,e2⟩:=zz1
  subst e1 e2
  have e3:=h3 xs qa1
  have e4:=h4 ys qb1
  rw [hu] at e3;cases e3
  rw [hv] at e4;cases e4
  refine ⟨qY (fun z=>t1 p z hn) (SqT.of Q9) (RepL.gs (gh r1 hn) _ _ (RepL.cons ru (RepL.one rv))),.inr ⟨p,_,hn,rfl⟩⟩
 ·rw [vO,ra1.length,rb1.length]
  rcases Nat.le_total xs.length ys.length with q | q
  ·exact .inl (by rw [Nat.min_eq_left q];exact Ae _)
  ·exact .inr (by rw [Nat.min_eq_right q];exact Ae _)
section
variable {X:Cx} {elts:List Expr} {kt:Nat} {p2:Pos} {f g:DEx}
def Xe (f:DEx) (g:DGx):DSx:=fun env=>do let d <- f env;let env' <- g d env;pure (.nx,env')
theorem xg {tg e:Expr} {g:DGx} {pos:Pos} (he:DE X e f) (hg:PG X tg (tDG X.K g)) (hs:swapsWithSole [tg] e pos.line X.env=pure false:=by rfl) (hw:swappedStores [tg] e X.env=pure none:=by rfl)
  (h1:(assignEach [tg] X.env).map (·.2)=[assign tg X.env]:=by rfl):DS X (.Assign [tg] e pos) (Xe f g) :=
 L2.PS.imp (Qf8 he hg hs hw h1) fun D σ H zz1=>by
  obtain ⟨Z,env,ρ,B,U,fl,env',hp',S,e,k⟩:=zz1
  obtain ⟨d,hp1,e1,e⟩:=Qe e
  obtain ⟨env1,hp2,e2,e⟩:=Qe e
  obtain ⟨z,rfl⟩:=Qi e;cases z
  exact tD.run S e1 fun v ρ1 B1 H1 g1 S1 r1=>⟨Z,env,ρ1,B1,hp1,d,env',hp2,S1,r1,e2,fun σ' ρ' B' H' g' S'=>k σ' ρ' B' H' ((g1.gs S.wo.rb).trans g') S'⟩
end
theorem uM {lo:Int} {n i:Nat} {d:DV} (h:(Z3 lo n)[i]?=some d):i < n/\d=.int (lo+i):=by
 have hi:i < n:=by have:=(Ac.mp h).1;simpa [Z3] using this
 refine ⟨hi,?_⟩
 simp [Z3,hi] at h
 exact h.symm
theorem Y5 (lo:Int) (n:Nat):(Z3 lo n).length=n:=by simp [Z3]
theorem yr (i:Int):okP (.int i)=true:=by rfl
def gP (i j:Int):PyData.eqv (.int i) (.int j)=(i==j):=rfl
theorem ZH (i j:Int):eqD (.int i) (.int j)=pure (.bl (i==j)):=by
 simp only [eqD,yr,Bool.and_self,Qz,if_true,Eg,toP,gP]
theorem Jm (i j:Int):neD (.int i) (.int j)=pure (.bl (!(i==j))):=by
 simp only [neD,yr,Bool.and_self,Qz,if_true,Eg,toP,gP]
theorem Qe2 {α:Type} {xs:List α} {i:Int} (h0:0<=i) (h1:i < xs.length):atI xs i=xs[i.toNat]?:=by
 unfold atI ixN
 rw [C9 h0,C9 h1];rfl
theorem Kb (ns:List Int) {i:Int} (h0:0<=i) (h1:i < ns.length):atI (ns.map DV.int) i=some (.int (ns.getD i.toNat 0)):=by
 have hl:i.toNat < ns.length:=by lia
 rw [Qe2 h0 (by simpa using h1),Bu,Ab hl]
 simp [List.getD_eq_getElem?_getD,hl]
def opt:Option Int->DV
 | none=>.non
 | some i=>.int i
theorem XE (x y:Int) (h:0 < y):Vi (.int x) (.int y)=pure (.int (x % y)):=by simp [Vi,qo,QgF,h]
theorem GF (x y:Int) (h:0 < y) (h':y < 1073741824):Qbv (.int x) (.int y)=pure (.int (x / y)):=by simp [Qbv,qo,QgE,h,h']
theorem xu (x y:Int) (h:-(2 ^ 64) < x) (h':x < 2 ^ 64):qM (.int x) (.int y)=pure (.int (x * y)):=by
 simp only [qM,qo,Qe5,Ed (Or.inl (b:=(-(2 ^ 64) < y/\y < 2 ^ 64)) (And.intro h h')),if_true]
theorem uA (x y:Int) (h:-(2 ^ 64) < y) (h':y < 2 ^ 64):qM (.int x) (.int y)=pure (.int (x * y)):=by
 simp only [qM,qo,Qe5,Ed (Or.inr (a:=(-(2 ^ 64) < x/\x < 2 ^ 64)) (And.intro h h')),if_true]
def ZE (x y:Int):ZL (.int x) (.int y)=pure (.int (x+y)):=rfl
def ZW (x y:Int):VQ (.int x) (.int y)=pure (.int (x - y)):=rfl
def ZY (x y:Int):gtD (.int x) (.int y)=pure (.bl (decide (y < x))):=rfl
def Zw (x y:Int):ltD (.int x) (.int y)=pure (.bl (decide (x < y))):=rfl
def ZZ (x y:Int):leD (.int x) (.int y)=pure (.bl (decide (x<=y))):=rfl
def Z5 (x y:Int):geD (.int x) (.int y)=pure (.bl (decide (y<=x))):=rfl
def ZV (x:Int):Qg2 (.int x)=pure (.int (-x)):=rfl
def J3:qq (.int 10) (.int 30)=pure (.int 1000000000000000000000000000000):=rfl
def X6:qq (.int 10) (.int 21)=pure (.int 1000000000000000000000):=rfl
def zR:qq (.int 10) (.int 9)=pure (.int 1000000000):=rfl
theorem QcO {m:Int} (h0:0<=m) (h1:m<=1000000):VJ m=true:=Ed ⟨by lia,by lia⟩
def za {ds:List DV} (h:ds.length<=100000):Yo ds=true:=Ed h
theorem ZM {f g:DSx} (h:f env=pure (.nx,env1)):Qr f g env=g env1:=by simp only [Qr,h,Eg]
theorem Qel {f g:DSx} (h:f env=pure (.rt d,env1)):Qr f g env=pure (.rt d,env1):=by simp only [Qr,h,Eg]
theorem Z1 {i:Nat} {f:DEx} {env:En} (h:f env=pure d):QJ i f env=pure (.nx,env.set i (.val d)):=by simp only [QJ,h,Eg]
theorem Qhr {c:DTx} {f g:DSx} (h:c env=pure true):sIf c f g env=f env:=by simp only [sIf,h,Eg,if_true]
theorem Qhq {c:DTx} {f g:DSx} (h:c env=pure false):sIf c f g env=g env:=by simp only [sIf,h,Eg,Az,if_false]
theorem XR {f:DEx} (h:f env=pure d):QG f env=pure (.rt d,env):=by simp only [QG,h,Eg]
theorem Yj {n:Nat} {body:DSx} {ds:List DV} (h:body (ds.map .val++List.replicate (n - ds.length) .un)=pure (.rt d,env)):Q7 n body ds=pure d:=by simp only [Q7,h,Eg]
theorem QgI {f:DEx} {b:Bool} (h:f env=pure (.bl b)):eB f env=pure b:=by simp only [eB,h,Eg,asB]
theorem qU {g:DV->DV->M DV} {f f':DEx} (h:f env=pure x) (h':f' env=pure y) (hg:g x y=pure d):Qj g f f' env=pure d:=by simp only [Qj,h,h',Eg,hg]
theorem xi {F:Er} {f f':DEx} (h:f env=pure x) (h':f' env=pure y) (hF:F [x,y]=pure d):Qt 2 F (Qd f (Qd f' Qo)) env=pure d:=by simp [Qt,Qd,Qo,h,h',Qz,hF]
theorem Qbx {F:Er} {f f' f'':DEx} (h:f env=pure x) (h':f' env=pure y) (h'':f'' env=pure z) (hF:F [x,y,z]=pure d):Qt 3 F (Qd f (Qd f' (Qd f'' Qo))) env=pure d:=by simp [Qt,Qd,Qo,h,h',h'',Qz,hF]
section
variable {K:Aa} {ρ:Ep} {B:Eo} {U:Hs} {H:Hp}
theorem Gr.wnew {p:Addr} (h:H p=none) (kf:K.lookup p=none):Gr K ρ B H (ρ++[p]) (j6 B p) (upd H p o) where
 pre:=List.prefix_append _ _
 ban:=fun _ h=>.inl h
 new:=fun a z=>z.elim .inl fun e=>.inr (e▸⟨h,kf⟩)
 rnew:=fun a z=>(Ai.mp z).elim .inl fun q=>.inr (by rw [Ar.mp q];exact h)
 keep:=fun a u _ q=>by rw [QX (ZC q h)];exact q
 trk:=(Gr.laid (K:=K) (ρ:=ρ) (B:=B) h).trk
theorem WOk.wnew {p:Addr} (W:WOk K ρ B U H) (h:H p=none) (kf:K.lookup p=none) (hv:ORep K (ρ++[p]) (j6 B p) (upd H p o) p v):WOk K (ρ++[p]) (j6 B p) (U++[v]) (upd H p o) where
 len:=by simp [W.len]
 nd:=List.nodup_append.mpr ⟨W.nd,by simp,fun a ha b hb=>by rw [Ar.mp hb];exact fun z=>W.bt a (W.rb a ha) (z▸h)⟩
 obj:=fun i a u e q=>by
  by_cases hi:i < ρ.length
  ·rw [Ah hi] at e
   rw [Ah (by rw [<- W.len];exact hi)] at q
   exact ORep.gs ((Gr.wnew h kf).gs W.rb) (QX (fun z=>W.bt a (W.rb a (Aw e)) (z▸h))) (W.obj i a u e q)
  ·rw [Aq (by lia)] at e
   rw [Aq (by rw [<- W.len];lia)] at q
   have hi0:i - ρ.length=0:=by
    have:=(Ac.mp e).1
    simp at this;lia
   rw [hi0] at e
   rw [<- W.len,hi0] at q
   simp at e q
   subst e q
   exact hv
 rb:=fun a z=>(Ai.mp z).elim (fun q=>.inl (W.rb a q)) fun q=>.inr (Ar.mp q)
 bt:=fun a z q=>by
  have q':=(Gr.laid (K:=K) (ρ:=ρ) (B:=B) h).trk a q
  rcases z with z | rfl
  ·exact W.bt a z q'
  ·rw [Q9] at q;cases q
 bk:=fun a z=>z.elim (W.bk a) fun e=>e▸kf
theorem Gr.wset {i:Nat} {a:Addr} (ha:ρ[i]?=some a) (h:H a=some o):Gr K ρ B H ρ B (upd H a o') where
 pre:=Cm
 ban:=fun _ h=>h
 new:=fun _ h=>.inl h
 rnew:=fun _ h=>.inl h
 keep:=fun b u nb q=>by rw [QX (show b≠a from fun z=>nb (by rw [z];exact Aw ha))];exact q
 trk:=fun b q=>by
  by_cases e:b=a
  ·subst e;rw [Q9] at q;cases q
  ·rw [QX e] at q;exact q
theorem WOk.wset {i:Nat} {a:Addr} (W:WOk K ρ B U H) (ha:ρ[i]?=some a) (h:H a=some o) (hv:ORep K ρ B (upd H a o') a v):WOk K ρ B (U.set i v) (upd H a o') where
 len:=by simp [W.len]
 nd:=W.nd
 obj:=fun j b u e q=>by
  by_cases hj:j=i
  ·subst hj
   rw [ha] at e;cases e
   have hl:j < U.length:=by rw [<- W.len];exact (Ac.mp ha).1
   rw [Au hl] at q;cases q
   exact hv
  ·rw [Am (Ne.symm hj)] at q
   have hb:b≠a:=fun z=>hj (by
    subst z
    exact (List.getElem?_inj (Ac.mp e).1 W.nd).mp (e.trans ha.symm))
   exact ORep.gs ((Gr.wset ha h).gs W.rb) (QX hb) (W.obj j b u e q)
 rb:=W.rb
 bt:=fun b z q=>W.bt b z ((Gr.wset (K:=K) (B:=B) ha h).trk b q)
 bk:=W.bk
end
section
variable {X:Cx} {e a b c:Expr} {f fa fb fc:DEx} {pos:Pos}
def XX (o:OV):M DV:=fun h=>some (.ref h.length,h++[o])
def Ja (i:Nat):M OV:=fun h=>match h[i]? with
 | some o=>some (o,h)
 | none=>none
def xE (i:Nat) (o:OV):M Unit:=fun h=>some ((),h.set i o)
theorem ZI {i:Nat} {U hp':Hs} (h:Ja i U=some (o,hp')):U[i]?=some o/\U=hp':=by
 unfold Ja at h
 cases q:U[i]? with
 | none=>rw [q] at h;cases h
 | some z=>rw [q] at h;cases h;exact ⟨rfl,rfl⟩
def Yd (f:DAx):DEx:=fun env=>do let ds <- f env;Qz (Yo ds);XX (.lst ds)
theorem gS {K:Aa} {H:Hp} {U:Hs} {Q:VK} (W:WOk K ρ B U H) (r:RepL K ρ B H ds xs) (k:Fol K ρ B H (.ref U.length) (U++[.lst ds]) Q):∀ p,H p=none->gj K (upd H p (.lst xs))->Q (.ref p) (upd H p (.lst xs)):=fun p hp' kf=>by
 have kp:=kf p _ Q9
 have g:Gr K ρ B H (ρ++[p]) (j6 B p) (upd H p (.lst xs)):=Gr.wnew hp' kp
 refine k _ _ _ _ g (W.wnew hp' kp ⟨xs,Q9,RepL.grow W.rb g _ _ r⟩) ?_
 unfold RepV
 exact ⟨p,rfl,by rw [<- W.len];simp⟩
theorem gB {es:List Expr} {f:DAx} (h:DA X es f):DE X (.List es pos) (Yd f) :=
 L2.PE.imp (Qci h).kf fun σ H Q zz1=>by
  obtain ⟨Z,env,ρ,B,U,d,hp',S,e,k⟩:=zz1
  obtain ⟨xs,hp1,e1,e2⟩:=Qe e
  obtain ⟨_,hp2,e3,e4⟩:=Qe e2
  obtain ⟨hs,rfl⟩:=QK e3
  cases e4
  exact tDA.run S e1 fun vs ρ1 B1 H1 g1 S1 r1=>⟨by rw [<- r1.length];exact qS hs,gS S1.wo r1 (k.after g1)⟩
theorem RepV.refW {K:Aa} {ρ:Ep} {U:Hs} {i:Nat} {v:V} (W:WOk K ρ B U H) (r:RepV K ρ B H (.ref i) v) (h:U[i]?=some o):∃ a,v=.ref a/\ρ[i]?=some a/\ORep K ρ B H a o:=by
 obtain ⟨a,rfl,e⟩:=r.refI
 exact ⟨a,rfl,e,W.obj i a o e h⟩
def ixW:DV->DV->M DV
  | .ref n,.int i=>do
    match <- Ja n with
    | .lst ds=>match atI ds i with
      | some d=>pure d
      | none=>failure
    | _=>failure
  | x,y=>ixD x y
def Qa5:List DV->M DV
  | [.ref n]=>do
    match <- Ja n with
    | .lst ds=>pure (.tup ds)
    | _=>failure
  | xs=>Qgo xs
theorem Gw:CallR X (.type "tuple") (tPn X.K Qa5):=by
  intro O9 s σ H xs us Q I r h
  obtain ⟨ρ,B,U,ds,d,hp',W,rl,e,k⟩:=h
  unfold Qa5 at e
  split at e
  . rename_i n
    obtain ⟨o,hp1,e1,e2⟩:=Qe e
    obtain ⟨e3,rfl⟩:=ZI e1
    cases o with
    | dic _=>cases e2
    | ins _ _=>cases e2
    | lst zs =>
      obtain ⟨rfl,rfl⟩:=Qi e2
      obtain ⟨v,rfl,rv⟩:=rl.oneI
      obtain ⟨a,rfl,_,ys,h1,l1⟩:=RepV.refW W rv e3
      exact Yu O9 s σ H _ us Q I r ⟨a,ys,rfl,.inl ⟨SqL.of h1,jr W l1 k⟩⟩
  . exact Qde O9 s σ H xs us Q I r ⟨ρ,B,U,_,d,hp',W,rl,e,k⟩
end
def Runs {α:Type} (m:M α) (x:α):Prop:=∀ U,∃ hp',m U=some (x,hp')
section
variable {f g:DSx} {env env1 env2:En} {c ca cb:DTx} {e fa fb:DEx} {d x y:DV} {r:Fl×En}
end
theorem QbG {b:DV->DSx} (I:Nat->En->Hs->Prop):∀ (ds:List DV) (k:Nat) (env:En) (U:Hs),I k env U->(∀ (i:Nat) d,ds[i]?=some d->∀ env U,I (k+i) env U->∃ env' hp',b d env U=some ((.nx,env'),hp')/\I (k+i+1) env' hp')->∃ env' hp',qD b ds env U=some ((.nx,env'),hp')/\I (k+ds.length) env' hp'
  | [],k,env,U,h,_=>⟨env,U,rfl,h⟩
  | d::ds,k,env,U,h,hs=>by
    obtain ⟨env1,hp1,e1,h1⟩:=hs 0 d rfl env U h
    obtain ⟨env2,hp2,e2,h2⟩:=QbG I ds (k+1) env1 hp1 h1 fun i d' hd env' hp' h'=>by
      have:=hs (i+1) d' (by simpa using hd) env' hp' (by rw [show k+(i+1)=k+1+i by lia];exact h')
      rw [show k+(i+1)+1=k+1+i+1 by lia] at this
      exact this
    refine ⟨env2,hp2,?_,by rw [Ba,show k+(ds.length+1)=k+1+ds.length by lia];exact h2⟩
    show (b d env U).bind _=_
    rw [e1]
    exact e2
theorem Qh {α β:Type} {m:M α} {k:α->M β} {x:α} (h:m U=some (x,hp1)):(m >>= k) U=k x hp1:=by
 show (m U).bind (fun p=>k p.1 p.2)=_
 rw [h];rfl
def Qk {f g:DSx} (h:f env U=some ((.nx,env1),hp1)):Qr f g env U=g env1 hp1:=Qh h
def Q0 {i:Nat} {f:DEx} {env:En} (h:f env U=some (d,hp1)):QJ i f env U=some ((.nx,env.set i (.val d)),hp1):=Qh h
theorem QdD {i:Int} (h:atI ds i=some d):ixD (.tup ds) (.int i)=pure d:=by simp only [ixD,h]
theorem GD (ds:List DV) (m:Nat):D.yg ds none (some (m:Int))=ds.take m:=by
 unfold D.yg
 rw [HT.sIx_nat]
 show (ds.drop 0).take (min m ds.length - 0)=ds.take m
 simp
theorem Qbt (ds:List DV) (m:Nat):D.yg ds (some (m:Int)) none=ds.drop m:=by
 unfold D.yg
 rw [HT.sIx_nat]
 show (ds.drop (min m ds.length)).take (ds.length - min m ds.length)=ds.drop m
 rcases Nat.le_total m ds.length with h | h
 ·rw [Nat.min_eq_left h,Ci (by simp)]
 ·rw [Nat.min_eq_right h,Cn h,Cn (Ae _)]
  simp
theorem VH (ds:List DV) (m:Nat):slD (.tup ds) none (some (m:Int))=pure (.tup (ds.take m)):=by rw [<- GD];rfl
theorem VG (ds:List DV) (m:Nat):slD (.tup ds) (some (m:Int)) none=pure (.tup (ds.drop m)):=by rw [<- Qbt];rfl
theorem GL {f g:DEx} {ds:List DV} {m:Nat} (h:f env=pure (.tup ds)) (h':g env=pure (.int (m:Int))):eSl f ZP (ZQ g) env=pure (.tup (ds.take m)):=by
 simp only [eSl,ZP,ZQ,h,h',Eg,asI,VH]
theorem GK {f g:DEx} {ds:List DV} {m:Nat} (h:f env=pure (.tup ds)) (h':g env=pure (.int (m:Int))):eSl f (ZQ g) ZP env=pure (.tup (ds.drop m)):=by
 simp only [eSl,ZP,ZQ,h,h',Eg,asI,VG]
end D
namespace L2
open PySem PySem.Spec PyProof.Rows
section
variable {X:Cx}
def QhS:R2:=fun x y H Q=>∃ a kvs k v,x=.ref a/\y=kV k/\H a=some (.dK kvs)/\Xf kvs k=some v/\Q v H
theorem QdG (hu:X.A.units+1 < cLine):IxR X QhS:=by
 intro value slice O9 s σ H x y v u Q I rx ry h hs
 obtain ⟨a,kvs,k,z,rfl,rfl,hH,hv,q⟩:=h
 cases rx
 have g:DGet H a (kV k) (some z):=hv▸DGet.k hH
 exact tail_any (GE I g) PySem.F.slot_dict_getitem.lookup (Qam hu I g ry fun w' s' I' rw'=>⟨z,H,I',rw',q⟩) hs
theorem uC (hu:X.A.units+1 < cLine):OpR X (compareOp .In) (fun x y H Q=>∃ a kvs k,y=.ref a/\x=kV k/\H a=some (.dK kvs)/\Q (.bl (Xf kvs k).isSome) H):=by
 intro O9 s σ H x y v u Q I rx ry h
 obtain ⟨a,kvs,k,rfl,rfl,hH,q⟩:=h
 cases ry
 exact QhI hu I (DGet.k hH) rx fun s' I'=>⟨.bl _,H,I',rfl,q⟩
theorem Ue (hu:X.A.units+1 < cLine):OpR X (compareOp .NotIn) (fun x y H Q=>∃ a kvs k,y=.ref a/\x=kV k/\H a=some (.dK kvs)/\Q (.bl (!(Xf kvs k).isSome)) H):=by
 intro O9 s σ H x y v u Q I rx ry h
 obtain ⟨a,kvs,k,rfl,rfl,hH,q⟩:=h
 cases ry
 exact Qdh hu I (DGet.k hH) rx fun s' I'=>⟨.bl _,H,I',rfl,q⟩
def Qhn:V->V->V->Hp->(Hp->Prop)->Prop:=fun o i v H Q=>∃ a kvs k,o=.ref a/\i=kV k/\H a=some (.dK kvs)/\kvs.length < sizeLine/\Q (upd H a (.dK (qr kvs k v)))
theorem QcH (hu:X.A.units+1 < cLine):Qc8 X Qhn:=fun O9 s σ H o i v ov iv u Q I ro ri rv h=>by
 obtain ⟨a,kvs,k,rfl,rfl,hH,hl,q⟩:=h
 cases ro
 exact Qan hu I (DPut.k hH hl) ri rv fun s' I'=>⟨_,I',q⟩
def Qhm:V->List V->Hp->VK->Prop:=fun x vs H Q=>∃ a kvs k,x=.ref a/\H a=some (.dK kvs)/\((vs=[kV k]/\∃ v,Xf kvs k=some v/\Q v (upd H a (.dK (jm kvs k)))) ∨
 ∃ z,vs=[kV k,z]/\(∀ v,Xf kvs k=some v->Q v (upd H a (.dK (jm kvs k))))/\(Xf kvs k=none->Q z H))
theorem KL:MtR X "dict.pop" Qhm:=by
 intro O9 s σ H x vs v us Q I rx rv h
 obtain ⟨a,kvs,k,rfl,hH,h⟩:=h
 cases rx
 rcases h with ⟨rfl,w,hw,q⟩ | ⟨z,rfl,q1,q2⟩
 ·obtain ⟨u,rfl,ru⟩:=VU rv
  exact QeH I hH ru hw (.inl rfl) fun w' s' I' rw'=>⟨w,_,I',rw',q⟩
 ·obtain ⟨u,u2,rfl,ru,ru2⟩:=vG rv
  cases l:Xf kvs k with
  | some w=>exact QeH I hH ru l (.inr ⟨u2,rfl⟩) fun w' s' I' rw'=>⟨w,_,I',rw',q1 w l⟩
  | none=>exact Qfa I hH ru l fun s' I'=>⟨z,H,I',ru2,q2 l⟩
def Qhl:V->List V->Hp->VK->Prop:=fun x vs H Q=>∃ a kvs k,x=.ref a/\H a=some (.dK kvs)/\((vs=[kV k]/\Q ((Xf kvs k).getD .non) H)∨∃ z,vs=[kV k,z]/\Q ((Xf kvs k).getD z) H)
theorem ko (hu:X.A.units+1 < cLine):MtR X "dict.get" Qhl:=by
 intro O9 s σ H x vs v us Q I rx rv h
 obtain ⟨a,kvs,k,rfl,hH,h⟩:=h
 cases rx
 rcases h with ⟨rfl,q⟩ | ⟨z,rfl,q⟩
 ·obtain ⟨u,rfl,ru⟩:=VU rv
  exact Qe8 hu I (DGet.k hH) ru fun w' s' I' rw'=>⟨_,H,I',rw',q⟩
 ·obtain ⟨u,u2,rfl,ru,ru2⟩:=vG rv
  exact Qe9 hu I (DGet.k hH) ru ru2 fun w' s' I' rw'=>⟨_,H,I',rw',q⟩
def QgS (n:Nat) (i:Int):Nat:=if i < 0 then (i+(n:Int)).toNat else min i.toNat n
end
end L2
namespace D
open PySem PySem.Spec PyProof.Rows L2
def YE:DV->Option Key
 | .int i=>some (.inl i)
 | .str x=>some (.inr x)
 | _=>none
def J0 (kvs:List (Key×DV)) (k:Key):Option DV:=(kvs.find? fun kv=>decide (kv.1=k)).map (·.2)
def YG (kvs:List (Key×DV)) (k:Key) (d:DV):List (Key×DV) :=
 if (kvs.any fun kv=>decide (kv.1=k))=true then kvs.map (fun kv=>if kv.1=k then (kv.1,d) else kv) else kvs++[(k,d)]
def XA (kvs:List (Key×DV)) (k:Key):List (Key×DV):=kvs.filter fun kv=>decide (kv.1≠k)
section
variable {K:Aa} {ρ:Ep} {B:Eo} {H:Hp} {U:Hs}
theorem Xz {v:V} (h:YE d=some k) (r:RepV K ρ B H d v):v=kV k:=by
 cases d<;>simp [YE] at h<;>subst h
 ·exact r.intI
 ·exact r.strI
abbrev RepK (K:Aa) (ρ:Ep) (B:Eo) (H:Hp):List (Key×DV)->List (Key×V)->Prop:=Paired fun p q=>p.1=q.1/\RepV K ρ B H p.2 q.2
theorem kH:∀ {kvs:List (Key×DV)} {xs:List (Key×V)},xs.map (·.1)=kvs.map (·.1)->RepL K ρ B H (kvs.map (·.2)) (xs.map (·.2))->RepK K ρ B H kvs xs
  | [],[],_,_=>.nil
  | [],_::_,e,_=>by simp at e
  | _::_,[],e,_=>by simp at e
  | p::kvs,q::xs,e,r=>by
    simp only [Bb,List.cons.injEq] at e
    simp only [Bb] at r
    unfold RepL at r
    obtain ⟨x,t,e2,h1,h2⟩:=r
    simp only [List.cons.injEq] at e2
    obtain ⟨rfl,rfl⟩:=e2
    exact .cons ⟨e.1.symm,h1⟩ (kH e.2 h2)
theorem RepK.to {kvs:List (Key×DV)} {xs:List (Key×V)} (r:RepK K ρ B H kvs xs):xs.map (·.1)=kvs.map (·.1)/\RepL K ρ B H (kvs.map (·.2)) (xs.map (·.2)):=by
 induction r with
 | nil=>exact ⟨rfl,RepL.nil⟩
 | cons h _ ih=>exact ⟨by simp [ih.1,h.1],by simpa using RepL.cons h.2 ih.2⟩
theorem RepK.val (r:RepK K ρ B H kvs xs) (k:Key):(J0 kvs k=none/\Xf xs k=none)∨∃ d v,J0 kvs k=some d/\Xf xs k=some v/\RepV K ρ B H d v:=by
  induction r with
  | nil=>exact .inl ⟨rfl,rfl⟩
  | @cons p q _ _ h _ ih =>
    by_cases e:p.1=k
    . exact .inr ⟨p.2,q.2,by simp [J0,B8,e],by simp [Xf,B8,h.1▸e],h.2⟩
    . have e':¬ q.1=k:=h.1▸e
      simpa [J0,Xf,B8,e,e'] using ih
theorem RepK.any {kvs:List (Key×DV)} {xs:List (Key×V)} (r:RepK K ρ B H kvs xs) (k:Key):(kvs.any fun kv=>decide (kv.1=k))=xs.any fun kv=>decide (kv.1=k):=by
 induction r with
 | nil=>rfl
 | cons h _ ih=>simp only [Cs,ih,h.1]
theorem RepK.repl {kvs:List (Key×DV)} {xs:List (Key×V)} (r:RepK K ρ B H kvs xs) (k:Key) (rd:RepV K ρ B H d v):RepK K ρ B H (kvs.map fun kv=>if kv.1=k then (kv.1,d) else kv) (xs.map fun kv=>if kv.1=k then (kv.1,v) else kv):=by
  induction r with
  | nil=>exact .nil
  | @cons p q _ _ h _ ih =>
    refine .cons ?_ ih
    dsimp only
    by_cases e:p.1=k
    . rw [C9 e,C9 (h.1▸e)];exact ⟨h.1,rd⟩
    . rw [C8 e,C8 (h.1▸e)];exact h
theorem RepK.snoc {kvs:List (Key×DV)} {xs:List (Key×V)} (r:RepK K ρ B H kvs xs) (rd:RepV K ρ B H d v):RepK K ρ B H (kvs++[(k,d)]) (xs++[(k,v)]):=by
 induction r with
 | nil=>exact .cons ⟨rfl,rd⟩ .nil
 | cons h _ ih=>exact .cons h ih
theorem RepK.put (r:RepK K ρ B H kvs xs) (k:Key) (rd:RepV K ρ B H d v):RepK K ρ B H (YG kvs k d) (qr xs k v):=by
 unfold YG qr
 rw [r.any k]
 split
 ·exact r.repl k rd
 ·exact r.snoc rd
theorem RepK.drop (r:RepK K ρ B H kvs xs) (k:Key):RepK K ρ B H (XA kvs k) (jm xs k):=by
  induction r with
  | nil=>exact .nil
  | @cons p q _ _ h _ ih =>
    unfold XA jm at ih ⊢
    by_cases e:p.1=k
    . have e':q.1=k:=h.1▸e
      simpa [e,e'] using ih
    . have e':¬ q.1=k:=h.1▸e
      rw [List.filter_cons_of_pos (by simpa using e),List.filter_cons_of_pos (by simpa using e')];exact .cons h ih
def RepK.len {kvs:List (Key×DV)} {xs:List (Key×V)} (r:RepK K ρ B H kvs xs):kvs.length=xs.length:=Paired.length r
def RepK.gs (g:Gs K ρ B H ρ' B' H') (r:RepK K ρ B H kvs xs):RepK K ρ' B' H' kvs xs:=L2.Paired.mapP r fun _ _ h=>⟨h.1,RepV.gs g _ _ h.2⟩
theorem ORep.dic {a:Addr} (h:ORep K ρ B H a (.dic kvs)):∃ xs,H a=some (.dK xs)/\RepK K ρ B H kvs xs:=by
 obtain ⟨xs,e,ek,rl⟩:=h
 exact ⟨xs,e,kH ek rl⟩
def RepK.orep {a:Addr} (r:RepK K ρ B H kvs xs) (e:H a=some (.dK xs)):ORep K ρ B H a (.dic kvs):=⟨xs,e,r.to.1,r.to.2⟩
theorem VZ {n:Nat} {a:Addr} (W:WOk K ρ B U H) (i:ρ[n]?=some a) (e:H a=some (.dK xs)) (r:RepK K ρ B H kvs' xs'):Gr K ρ B H ρ B (upd H a (.dK xs'))/\WOk K ρ B (U.set n (.dic kvs')) (upd H a (.dK xs')):=by
 have g:Gr K ρ B H ρ B (upd H a (.dK xs')):=Gr.wset i e
 exact ⟨g,W.wset (o':=.dK xs') (v:=.dic kvs') i e ((r.gs (g.gs W.rb)).orep Q9)⟩
theorem jV {n:Nat} {a:Addr} (W:WOk K ρ B U H) (i:ρ[n]?=some a) (e:H a=some o) (r:RepL K ρ B H ds' xs'):Gr K ρ B H ρ B (upd H a (.lst xs'))/\WOk K ρ B (U.set n (.lst ds')) (upd H a (.lst xs')):=by
 have g:Gr K ρ B H ρ B (upd H a (.lst xs')):=Gr.wset i e
 exact ⟨g,W.wset (o':=.lst xs') (v:=.lst ds') i e ⟨xs',Q9,RepL.grow W.rb g _ _ r⟩⟩
end
section
variable {X:Cx} {e a b c:Expr} {f fa fb fc:DEx} {pos:Pos}
def Y2 (o:Option DV):M DV:=match o with
 | some d=>pure d
 | none=>failure
theorem qW {o:Option DV} {U hp':Hs} (h:Y2 o U=some (d,hp')):o=some d/\U=hp':=by
 cases o with
 | none=>cases h
 | some z=>obtain ⟨rfl,rfl⟩:=Qi h;exact ⟨rfl,rfl⟩
def J8 (d:DV):M Key:=match YE d with
 | some k=>pure k
 | none=>failure
theorem J2 {U hp':Hs} (h:J8 d U=some (k,hp')):YE d=some k/\U=hp':=by
 unfold J8 at h
 cases q:YE d with
 | none=>rw [q] at h;cases h
 | some z=>rw [q] at h;obtain ⟨rfl,rfl⟩:=Qi h;exact ⟨rfl,rfl⟩
def ixG:DV->DV->M DV
  | .ref n,y=>do
    match <- Ja n with
    | .lst ds=>do let i <- asI y;Y2 (atI ds i)
    | .dic kvs=>do let k <- J8 y;Y2 (J0 kvs k)
    | _=>failure
  | x,y=>ixD x y
theorem Qhc (hu:X.A.units+1 < cLine):IxR X (tP2 X.K ixG):=by
  intro value slice O9 s σ H x y v u Q I rx ry h hsub
  obtain ⟨ρ,B,U,dx,dy,d,hp',W,r1,r2,e,k⟩:=h
  unfold ixG at e
  split at e
  . rename_i n
    obtain ⟨o,hp1,e1,e2⟩:=Qe e
    obtain ⟨e3,rfl⟩:=ZI e1
    obtain ⟨a,rfl,i1,ro⟩:=RepV.refW W r1 e3
    cases o with
    | ins _ _=>cases e2
    | dic kvs =>
      obtain ⟨ky,hp2,e4,e5⟩:=Qe e2
      obtain ⟨hk,rfl⟩:=J2 e4
      obtain ⟨hv,rfl⟩:=qW e5
      obtain ⟨xs,h1,rk⟩:=ro.dic
      rcases rk.val ky with ⟨z,_⟩ | ⟨d',v',z,zv,rz⟩
      . rw [hv] at z;cases z
      . rw [hv] at z;cases z
        exact QdG hu value slice O9 s σ H _ _ v u Q I rx ry ⟨a,xs,ky,v',rfl,Xz hk r2,h1,zv,k _ ρ B H Gr.refl W rz⟩ hsub
    | lst ds =>
      obtain ⟨i,hp2,e4,e5⟩:=Qe e2
      obtain ⟨rfl,rfl⟩:=yA e4
      obtain ⟨hv,rfl⟩:=qW e5
      obtain ⟨xs,h1,l1⟩:=ro
      obtain ⟨z,hz,rz⟩:=Kc l1 hv
      exact kc value slice O9 s σ H _ _ v u Q I rx ry ⟨a,xs,i,z,rfl,r2.intI,SqL.of h1,hz,k _ ρ B H Gr.refl W rz⟩ hsub
  . exact Qhb value slice O9 s σ H x y v u Q I rx ry ⟨ρ,B,U,_,_,d,hp',W,r1,r2,e,k⟩ hsub
theorem QO (hu:X.A.units+1 < cLine) (ha:DE X a fa) (hb:DE X b fb) (hs:U9 b:=by intro _ _;rfl):DE X (.Subscript a b pos) (Qj ixG fa fb):=L2.PE.imp (QeS (Qhc hu) ha hb hs) fun _ _ _ h=>qC h
def Yb:List DV->M DV
  | [.ref n]=>do
    match <- Ja n with
    | .lst ds=>pure (.int ds.length)
    | .dic kvs=>pure (.int kvs.length)
    | _=>failure
  | xs=>qp xs
theorem zI:CallR X (.builtin "len") (tPn X.K Yb):=by
  intro O9 s σ H xs us Q I r h
  obtain ⟨ρ,B,U,ds,d,hp',W,rl,e,k⟩:=h
  unfold Yb at e
  split at e
  . rename_i n
    obtain ⟨o,hp1,e1,e2⟩:=Qe e
    obtain ⟨e3,rfl⟩:=ZI e1
    obtain ⟨v,rfl,rv⟩:=rl.oneI
    obtain ⟨a,rfl,_,ro⟩:=RepV.refW W rv e3
    cases o with
    | ins _ _=>cases e2
    | lst zs =>
      obtain ⟨rfl,rfl⟩:=Qi e2
      obtain ⟨ys,h1,l1⟩:=ro
      exact YZ O9 s σ H _ us Q I r ⟨a,ys,rfl,.inl (SqL.of h1),by rw [<- l1.length];exact k _ ρ B H Gr.refl W JW⟩
    | dic kvs =>
      obtain ⟨rfl,rfl⟩:=Qi e2
      obtain ⟨ys,h1,l1⟩:=ro.dic
      exact Qag O9 s σ H _ us Q I r ⟨a,ys,rfl,h1,by rw [<- l1.len];exact k _ ρ B H Gr.refl W JW⟩
  . exact gy O9 s σ H xs us Q I r ⟨ρ,B,U,_,d,hp',W,rl,e,k⟩
def QcF:DV->M (List DV)
  | .tup ds=>pure ds
  | .lst ds=>pure ds
  | .ref n=>do
    match <- Ja n with
    | .lst ds=>pure ds
    | _=>failure
  | _=>failure
theorem vm {U hp':Hs} {K:Aa} {v:V} (W:WOk K ρ B U H) (r:RepV K ρ B H d v) (h:QcF d U=some (ds,hp')):U=hp'/\∃ p xs,v=.ref p/\(SqL K H p xs∨SqT K H p xs)/\RepL K ρ B H ds xs:=by
  cases d with
  | tup xs =>
    obtain ⟨rfl,rfl⟩:=Qi h
    obtain ⟨a,ys,rfl,_,sq,l⟩:=r.tupI
    exact ⟨rfl,a,ys,rfl,.inr sq,l⟩
  | lst xs =>
    obtain ⟨rfl,rfl⟩:=Qi h
    obtain ⟨a,ys,rfl,_,sq,l⟩:=r.lstI
    exact ⟨rfl,a,ys,rfl,.inl sq,l⟩
  | ref n =>
    obtain ⟨o,hp1,e1,e2⟩:=Qe (show (Ja n >>= fun o=>(match o with | .lst ds=>pure ds | _=>failure:M (List DV))) U=some (ds,hp') from h)
    obtain ⟨e3,rfl⟩:=ZI e1
    cases o with
    | lst zs =>
      obtain ⟨rfl,rfl⟩:=Qi e2
      obtain ⟨a,rfl,_,ys,h1,l1⟩:=RepV.refW W r e3
      exact ⟨rfl,a,ys,rfl,.inl (SqL.of h1),l1⟩
    | dic _=>cases e2
    | ins _ _=>cases e2
  | non=>cases h
  | bl _=>cases h
  | int _=>cases h
  | str _=>cases h
def Qca (g:DV->M DV):List DV->M DV
 | [d]=>g d
 | _=>failure
def QdH:List DV->M DV:=Qca fun d=>do let ds <- QcF d;pure (.lst ds)
def QgX:List DV->M DV:=Qca fun d=>do let ds <- QcF d;XX (.lst ds)
theorem xw {g:DV->M DV} {ds:List DV} (h:Qca g ds U=some (d,hp')):∃ x,ds=[x]/\g x U=some (d,hp'):=by
 unfold Qca at h
 split at h
 ·exact ⟨_,rfl,h⟩
 ·cases h
theorem Qe7:CallR X (.type "list") (tPn X.K QdH):=by
 intro O9 s σ H xs us Q I r h
 obtain ⟨ρ,B,U,ds,d,hp',W,rl,e,k⟩:=h
 obtain ⟨x,rfl,e⟩:=xw e
 obtain ⟨zs,hp1,e1,e2⟩:=Qe e
 obtain ⟨rfl,rfl⟩:=Qi e2
 obtain ⟨v,rfl,rv⟩:=rl.oneI
 obtain ⟨rfl,p,ys,rfl,sq,l⟩:=vm W rv e1
 exact call_list_of O9 s σ H _ us Q I r ⟨p,ys,rfl,sq,jq W l k⟩
theorem _root_.L2.CallR.kf {f:Value} {r:List V->Hp->VK->Prop} (h:CallR X f r):CallR X f (fun xs H Q=>r xs H fun v H'=>gj X.K H'->Q v H'):=by
 intro O9 s σ H xs us Q I rv q
 refine thn (h O9 s σ H xs us _ I rv q) fun v s' ⟨x,H',I',rx,q'⟩=>⟨x,H',I',rx,q' (Inv.kfree I')⟩
theorem Qdd:CallR X (.type "list") (tPn X.K QgX):=by
 intro O9 s σ H xs us Q I r h
 obtain ⟨ρ,B,U,ds,d,hp',W,rl,e,k⟩:=h
 obtain ⟨x,rfl,e⟩:=xw e
 obtain ⟨zs,hp1,e1,e2⟩:=Qe e
 obtain ⟨v,rfl,rv⟩:=rl.oneI
 obtain ⟨rfl,p,ys,rfl,sq,l⟩:=vm W rv e1
 cases e2
 exact call_list_of.kf O9 s σ H _ us Q I r ⟨p,ys,rfl,sq,gS W l k⟩
end
def drf:Nat->Hs->DV->Option DV
  | 0,_,_=>none
  | n+1,U,d=>match d with
    | .ref i=>match U[i]? with
      | some (.lst ds)=>(ds.mapM (drf n U)).map .lst
      | _=>none
    | .tup ds=>(ds.mapM (drf n U)).map .tup
    | .lst ds=>(ds.mapM (drf n U)).map .lst
    | d=>some d
theorem Vf {α β:Type} {f:α->Option β} {x:α} {xs:List α} {ys:List β} (h:(x::xs).mapM f=some ys):∃ y zs,f x=some y/\xs.mapM f=some zs/\ys=y::zs:=by
  rw [List.mapM_cons] at h
  cases q:f x with
  | none=>rw [q] at h;cases h
  | some y =>
    cases q2:xs.mapM f with
    | none=>rw [q,q2] at h;cases h
    | some zs=>rw [q,q2] at h;exact ⟨y,zs,rfl,rfl,(Ak h).symm⟩
section
variable {X:Cx} {O9:Ei} {σ:St} {H:Hp} {s:Shared} {ρ:Ep} {B:Eo} {U:Hs}
theorem YH (I:Inv X O9 σ H s) (W:WOk X.K ρ B U H):∀ (n:Nat) (d d':DV) (v:V) (u:Value),drf n U d=some d'->RepV X.K ρ B H d v->RelV v u->∃ as,Reads s.heap u (toP d') as
  | 0,_,_,_,_,h,_,_=>by cases h
  | n+1,d,d',v,u,h,r,ru=>by
    have all:∀ (ds ds':List DV) (xs:List V) (us:List Value),ds.mapM (drf n U)=some ds'->RepL X.K ρ B H ds xs->Vals xs us->∃ as,ReadsAll s.heap us (toPs ds') as:=by
      intro ds
      induction ds with
      | nil =>
        intro ds' xs us h r ru
        rw [List.mapM_nil] at h;cases h
        unfold RepL at r;subst r;cases ru
        exact ⟨[],by unfold toPs;exact .nil⟩
      | cons x ds ih =>
        intro ds' xs us h r ru
        obtain ⟨y,zs,h1,h2,rfl⟩:=Vf h
        unfold RepL at r
        obtain ⟨z,t,rfl,r1,r2⟩:=r
        cases ru with
        | cons q1 q2 =>
          obtain ⟨as,a1⟩:=YH I W n x y z _ h1 r1 q1
          obtain ⟨bs,a2⟩:=ih zs t _ h2 r2 q2
          exact ⟨_,by unfold toPs;exact .cons a1 a2⟩
    have lst:∀ (ds ds':List DV) (a:Addr) (xs:List V),ds.mapM (drf n U)=some ds'->SqL X.K H a xs->RepL X.K ρ B H ds xs->∃ as,Reads s.heap (.ref a) (toP (.lst ds')) as:=by
      intro ds ds' a xs h sq rl
      obtain ⟨its,rv,⟨o,k,e,hc,_,hd⟩,_⟩:=I.list sq
      obtain ⟨as,q⟩:=all ds ds' xs its h rl rv
      exact ⟨_,by unfold toP;exact reads_list_at e hc hd (by simpa using q)⟩
    unfold drf at h
    cases d with
    | non=>cases h;obtain rfl:=r.nonI;cases ru;exact ⟨[],by unfold toP;exact .none⟩
    | bl b=>cases h;obtain rfl:=r.blI;cases ru;exact ⟨[],by unfold toP;exact .bool b⟩
    | int i=>cases h;obtain rfl:=r.intI;obtain ⟨t,rfl⟩:=ru;exact ⟨[],by unfold toP;exact .int i t⟩
    | str x=>cases h;obtain rfl:=r.strI;obtain ⟨t,rfl⟩:=ru;exact ⟨[],by unfold toP;exact .str x t⟩
    | tup ds =>
      obtain ⟨ds',h1,rfl⟩:=Cg.mp h
      obtain ⟨a,xs,rfl,_,sq,rl⟩:=r.tupI
      cases ru
      obtain ⟨its,rv,⟨o,e,hc,k,hd⟩,_⟩:=I.tuple sq
      obtain ⟨as,q⟩:=all ds ds' xs its h1 rl rv
      exact ⟨_,by unfold toP;exact reads_tuple_at e hc hd (by simpa using q)⟩
    | lst ds =>
      obtain ⟨ds',h1,rfl⟩:=Cg.mp h
      obtain ⟨a,xs,rfl,_,sq,rl⟩:=r.lstI
      cases ru
      exact lst ds ds' a xs h1 sq rl
    | ref i =>
      cases q:U[i]? with
      | none=>simp only [q] at h;cases h
      | some o =>
        simp only [q] at h
        cases o with
        | dic _=>cases h
        | ins _ _=>cases h
        | lst ds =>
          obtain ⟨ds',h1,rfl⟩:=Cg.mp h
          obtain ⟨a,rfl,_,xs,h2,l⟩:=RepV.refW W r q
          cases ru
          exact lst ds ds' a xs h1 (SqL.of h2) l
end
def v9 (d:DV):M DV:=fun U=>(drf 40 U d).map fun x=>(x,U)
theorem Ux {U hp':Hs} (h:v9 d U=some (d',hp')):drf 40 U d=some d'/\U=hp':=by
 obtain ⟨x,h1,h2⟩:=Cg.mp h
 cases h2;exact ⟨h1,rfl⟩
def yj (x y:DV):M Bool:=do
 let x' <- v9 x
 let y' <- v9 y
 Qz (SeqAt.shaped (toP x')&&SeqAt.shaped (toP y'))
 pure (PyData.eqv (toP x') (toP y'))
def eqG:DV->DV->M DV:=fun x y=>do let b <- yj x y;pure (.bl b)
def neG:DV->DV->M DV:=fun x y=>do let b <- yj x y;pure (.bl (!b))
section
variable {X:Cx} {e a b c:Expr} {f fa fb fc:DEx} {ca cb:DTx} {pos:Pos}
theorem Uz {k:Bool} {U hp':Hs} (h:yj x y U=some (k,hp')):∃ x' y',drf 40 U x=some x'/\drf 40 U y=some y'/\SeqAt.shaped (toP x')=true/\SeqAt.shaped (toP y')=true/\k=PyData.eqv (toP x') (toP y')/\U=hp':=by
 obtain ⟨x',hp1,e1,h⟩:=Qe h
 obtain ⟨y',hp2,e2,h⟩:=Qe h
 obtain ⟨_,hp3,e3,h⟩:=Qe h
 obtain ⟨q1,rfl⟩:=Ux e1
 obtain ⟨q2,rfl⟩:=Ux e2
 obtain ⟨hs,rfl⟩:=QK e3
 obtain ⟨rfl,rfl⟩:=Qi h
 rw [Bc] at hs
 exact ⟨x',y',q1,q2,hs.1,hs.2,rfl,rfl⟩
theorem jG (hu:X.A.units+64 < cLine):P2 X (compareOp .Eq) eqG:=by
 intro O9 s σ H x y v u Q I rx ry h
 obtain ⟨ρ,B,U,dx,dy,d,hp',W,r1,r2,e,k⟩:=h
 obtain ⟨b,hp1,e1,e2⟩:=Qe e
 obtain ⟨rfl,rfl⟩:=Qi e2
 obtain ⟨x',y',q1,q2,s1,s2,rfl,rfl⟩:=Uz e1
 obtain ⟨as,a1⟩:=YH I W _ _ _ _ _ q1 r1 rx
 obtain ⟨bs,a2⟩:=YH I W _ _ _ _ _ q2 r2 ry
 exact eq_dataH a1 a2 s1 s2 hu ⟨.bl _,H,I,rfl,k _ ρ B H Gr.refl W Jf⟩
theorem Vn (hu:X.A.units+64 < cLine):P2 X (compareOp .NotEq) neG:=by
 intro O9 s σ H x y v u Q I rx ry h
 obtain ⟨ρ,B,U,dx,dy,d,hp',W,r1,r2,e,k⟩:=h
 obtain ⟨b,hp1,e1,e2⟩:=Qe e
 obtain ⟨rfl,rfl⟩:=Qi e2
 obtain ⟨x',y',q1,q2,s1,s2,rfl,rfl⟩:=Uz e1
 obtain ⟨as,a1⟩:=YH I W _ _ _ _ _ q1 r1 rx
 obtain ⟨bs,a2⟩:=YH I W _ _ _ _ _ q2 r2 ry
 exact ne_dataH a1 a2 s1 s2 hu ⟨.bl _,H,I,rfl,k _ ρ B H Gr.refl W Jf⟩
def J1:DV->Bool
 | .non=>true
 | .bl _=>true
 | .int _=>true
 | .str _=>true
 | _=>false
def eqF:DV->DV->Bool
 | .non,.non=>true
 | .bl a,.bl b=>a==b
 | .bl a,.int b=>(if a then 1 else 0)==b
 | .int a,.bl b=>a==(if b then 1 else 0)
 | .int a,.int b=>a==b
 | .str a,.str b=>a==b
 | _,_=>false
def vOf:DV->V
 | .non=>.non
 | .bl b=>.bl b
 | .int i=>.int i
 | .str x=>.str x
 | _=>.non
theorem kT {K:Aa} {v:V} (h:J1 d=true) (r:RepV K ρ B H d v):v=vOf d:=by
 cases d<;>simp [J1] at h
 ·exact r.nonI
 ·exact r.blI
 ·exact r.intI
 ·exact r.strI
theorem GN (h:J1 d=true):Yf (vOf d)=true:=by cases d<;>simp [J1] at h<;>rfl
theorem Qdq {d e:DV} (h:J1 d=true) (h':J1 e=true):eqV (vOf d) (vOf e)=eqF d e:=by cases d<;>simp [J1] at h<;>cases e<;>simp [J1] at h'<;>rfl
theorem kS {K:Aa}:∀ {ds:List DV} {xs:List V},ds.all J1=true->RepL K ρ B H ds xs->xs=ds.map vOf
  | [],_,_,r=>by unfold RepL at r;exact r
  | d::ds,_,h,r=>by
    unfold RepL at r
    obtain ⟨x,t,rfl,r1,r2⟩:=r
    rw [C1,Bc] at h
    rw [kT h.1 r1,kS h.2 r2];rfl
def inB (d:DV) (ds:List DV):Bool:=ds.any fun y=>eqF y d
theorem gX {d:DV} (h:J1 d=true):∀ {ds:List DV},ds.all J1=true->inV (vOf d) (ds.map vOf)=inB d ds
  | [],_=>rfl
  | x::ds,h'=>by
    rw [C1,Bc] at h'
    have ih:=gX h h'.2
    unfold inV inB at ih ⊢
    rw [Bb,Cs,Cs,ih,Qdq h'.1 h]
theorem Gj:∀ {ds:List DV},ds.all J1=true->(ds.map vOf).all Yf=true
  | [],_=>rfl
  | x::ds,h=>by
    rw [C1,Bc] at h
    rw [Bb,C1,GN h.1,Gj h.2];rfl
def QdK (x:DV):DV->M Bool
  | .ref n=>do
    match <- Ja n with
    | .lst ds=>do Qz (J1 x&&ds.all J1);pure (inB x ds)
    | .dic kvs=>do let k <- J8 x;pure (J0 kvs k).isSome
    | _=>failure
  | .tup ds=>do Qz (J1 x&&ds.all J1);pure (inB x ds)
  | .lst ds=>do Qz (J1 x&&ds.all J1);pure (inB x ds)
  | _=>failure
def inG:DV->DV->M DV:=fun x y=>do let b <- QdK x y;pure (.bl b)
def QdM:DV->DV->M DV:=fun x y=>do let b <- QdK x y;pure (.bl (!b))
theorem Vg {k:Bool} {U hp':Hs} {K:Aa} (W:WOk K ρ B U H) (r1:RepV K ρ B H x vx) (r2:RepV K ρ B H y vy) (h:QdK x y U=some (k,hp')):U=hp' /\
    ((∃ p xs,vy=.ref p/\(SqL K H p xs∨SqT K H p xs)/\Yf vx=true/\xs.all Yf=true/\k=inV vx xs)∨∃ a kvs ky,vy=.ref a/\vx=kV ky/\H a=some (.dK kvs)/\k=(Xf kvs ky).isSome):=by
  have seq:∀ (ds:List DV) (xs:List V) (p:Addr),(do Qz (J1 x&&ds.all J1);pure (inB x ds):M Bool) U=some (k,hp')->RepL K ρ B H ds xs->(SqL K H p xs∨SqT K H p xs)->vy=.ref p->U=hp'/\(∃ p xs,vy=.ref p/\(SqL K H p xs∨SqT K H p xs)/\Yf vx=true/\xs.all Yf=true/\k=inV vx xs):=by
    intro ds xs p h rl sq ev
    obtain ⟨_,hp1,e1,e2⟩:=Qe h
    obtain ⟨hs,rfl⟩:=QK e1
    obtain ⟨rfl,rfl⟩:=Qi e2
    rw [Bc] at hs
    have ex:=kS hs.2 rl
    have e0:=kT hs.1 r1
    subst ex e0
    exact ⟨rfl,p,_,ev,sq,GN hs.1,Gj hs.2,(gX hs.1 hs.2).symm⟩
  cases y with
  | tup ds =>
    obtain ⟨a,xs,rfl,_,sq,rl⟩:=r2.tupI
    exact (seq ds xs a h rl (.inr sq) rfl).imp id .inl
  | lst ds =>
    obtain ⟨a,xs,rfl,_,sq,rl⟩:=r2.lstI
    exact (seq ds xs a h rl (.inl sq) rfl).imp id .inl
  | ref n =>
    obtain ⟨o,hp1,e1,e2⟩:=Qe h
    obtain ⟨e3,rfl⟩:=ZI e1
    obtain ⟨a,rfl,_,ro⟩:=RepV.refW W r2 e3
    cases o with
    | lst ds =>
      obtain ⟨xs,h1,rl⟩:=ro
      exact (seq ds xs a e2 rl (.inl (SqL.of h1)) rfl).imp id .inl
    | dic kvs =>
      obtain ⟨ky,hp2,e4,e5⟩:=Qe e2
      obtain ⟨hk,rfl⟩:=J2 e4
      obtain ⟨rfl,rfl⟩:=Qi e5
      obtain ⟨xs,h1,rk⟩:=ro.dic
      refine ⟨rfl,.inr ⟨a,xs,ky,rfl,Xz hk r1,h1,?_⟩⟩
      rcases rk.val ky with ⟨z1,z2⟩ | ⟨_,_,z1,z2,_⟩<;>rw [z1,z2]<;>rfl
    | ins _ _=>cases e2
  | non=>cases h
  | bl _=>cases h
  | int _=>cases h
  | str _=>cases h
theorem Qha (hu:X.A.units+1 < cLine):P2 X (compareOp .In) inG:=by
 intro O9 s σ H x y v u Q I rx ry h
 obtain ⟨ρ,B,U,dx,dy,d,hp',W,r1,r2,e,k⟩:=h
 obtain ⟨b,hp1,e1,e2⟩:=Qe e
 obtain ⟨rfl,rfl⟩:=Qi e2
 obtain ⟨rfl,h⟩:=Vg W r1 r2 e1
 have fin:=k _ ρ B H Gr.refl W (Jf (b:=b))
 rcases h with ⟨p,xs,rfl,sq,f1,f2,rfl⟩ | ⟨a,kvs,ky,rfl,rfl,h1,rfl⟩
 ·exact QaI O9 s σ H _ _ v u Q I rx ry ⟨p,xs,rfl,sq,f1,f2,fin⟩
 ·exact uC hu O9 s σ H _ _ v u Q I rx ry ⟨a,kvs,ky,rfl,rfl,h1,fin⟩
theorem QfP (hu:X.A.units+1 < cLine):P2 X (compareOp .NotIn) QdM:=by
 intro O9 s σ H x y v u Q I rx ry h
 obtain ⟨ρ,B,U,dx,dy,d,hp',W,r1,r2,e,k⟩:=h
 obtain ⟨b,hp1,e1,e2⟩:=Qe e
 obtain ⟨rfl,rfl⟩:=Qi e2
 obtain ⟨rfl,h⟩:=Vg W r1 r2 e1
 have fin:=k _ ρ B H Gr.refl W (Jf (b:=!b))
 rcases h with ⟨p,xs,rfl,sq,f1,f2,rfl⟩ | ⟨a,kvs,ky,rfl,rfl,h1,rfl⟩
 ·exact KO O9 s σ H _ _ v u Q I rx ry ⟨p,xs,rfl,sq,f1,f2,fin⟩
 ·exact Ue hu O9 s σ H _ _ v u Q I rx ry ⟨a,kvs,ky,rfl,rfl,h1,fin⟩
def xA (o i d:DV):M Unit:=match o with
  | .ref n=>do
    match <- Ja n with
    | .lst ds=>do
      let k <- asI i
      match ixN ds.length k with
      | some j=>xE n (.lst (ds.set j d))
      | none=>failure
    | .dic kvs=>do
      let k <- J8 i
      Qz (decide (kvs.length < lim))
      xE n (.dic (YG kvs k d))
    | _=>failure
  | _=>failure
def tP3 (K:Aa) (g:DV->DV->DV->M Unit):Qc9:=fun o i v H Q=>∃ ρ B U dO di dv hp',WOk K ρ B U H/\RepV K ρ B H dO o/\RepV K ρ B H di i/\RepV K ρ B H dv v/\g dO di dv U=some ((),hp')/\∀ ρ' B' H',Gr K ρ B H ρ' B' H'->WOk K ρ' B' hp' H'->Q H'
theorem RepL.set {K:Aa} (r:RepV K ρ B H d x):∀ {ds:List DV} {xs:List V} (i:Nat),RepL K ρ B H ds xs->RepL K ρ B H (ds.set i d) (xs.set i x)
  | [],_,i,h=>by unfold RepL at h;subst h;exact RepL.nil
  | _::ds,_,0,h=>by
    unfold RepL at h
    obtain ⟨y,t,rfl,_,h2⟩:=h
    exact RepL.cons r h2
  | _::ds,_,i+1,h=>by
    unfold RepL at h
    obtain ⟨y,t,rfl,h1,h2⟩:=h
    exact RepL.cons h1 (RepL.set r i h2)
theorem Qhd (hu:X.A.units+1 < cLine):Qc8 X (tP3 X.K xA):=by
  intro O9 s σ H o i v ov iv u Q I ro ri rv h
  obtain ⟨ρ,B,U,dO,di,dv,hp',W,r1,r2,r3,e,k⟩:=h
  cases dO with
  | ref n =>
    obtain ⟨ob,hp1,e1,e2⟩:=Qe e
    obtain ⟨e3,rfl⟩:=ZI e1
    obtain ⟨a,rfl,i1,rob⟩:=RepV.refW W r1 e3
    cases ob with
    | ins _ _=>cases e2
    | lst ds =>
      obtain ⟨j,hp2,e4,e5⟩:=Qe e2
      obtain ⟨rfl,rfl⟩:=yA e4
      obtain ⟨xs,h1,l1⟩:=rob
      cases q:ixN ds.length j with
      | none=>simp only [q] at e5;cases e5
      | some m =>
        simp only [q] at e5
        cases e5
        obtain ⟨g,W'⟩:=jV W i1 h1 (RepL.set r3 m l1)
        exact QcI O9 s σ H _ _ v ov iv u Q I ro ri rv ⟨a,xs,j,m,rfl,r2.intI,h1,by rw [<- l1.length];exact q,k ρ B _ g W'⟩
    | dic kvs =>
      obtain ⟨ky,hp2,e4,e5⟩:=Qe e2
      obtain ⟨hk,rfl⟩:=J2 e4
      obtain ⟨_,hp3,e6,e7⟩:=Qe e5
      obtain ⟨hl,rfl⟩:=QK e6
      cases e7
      obtain ⟨xs,h1,rk⟩:=rob.dic
      obtain ⟨g,W'⟩:=VZ W i1 h1 (rk.put ky r3)
      exact QcH hu O9 s σ H _ _ v ov iv u Q I ro ri rv ⟨a,xs,ky,rfl,Xz hk r2,h1,by rw [<- rk.len];exact Ay (Ee hl) KH,k ρ B _ g W'⟩
  | non=>cases e
  | bl _=>cases e
  | int _=>cases e
  | str _=>cases e
  | tup _=>cases e
  | lst _=>cases e
def gSb (f g:DEx):DGx:=fun d env=>do
 let o <- f env
 let i <- g env
 xA o i d
 pure env
theorem xc (hu:X.A.units+1 < cLine) (ho:DE X o fo) (hi:DE X i fi)
  (ha:∀ v,assign (.Subscript o i pos) X.env v=(do
   let ov <- holding [v] (eval o X.env)
   let iv <- holding [v,ov] (eval i X.env)
   standAt pos
   holding [v,ov,iv] (setItem ov iv v)
   release [v,ov,iv] []):=by intro _;rfl):PG X (.Subscript o i pos) (tDG X.K (gSb fo fi)):=by
 intro O9 s σ H v u Q I r h
 refine Qf3 ho hi (Qhd hu) ha O9 s σ H v u Q I r ?_
 obtain ⟨Z,env,ρ,B,U,d,env',hp',S,rd,e,k⟩:=h
 obtain ⟨x,hp1,e1,e⟩:=Qe e
 obtain ⟨y,hp2,e2,e⟩:=Qe e
 obtain ⟨z,hp3,e3,e⟩:=Qe e
 obtain ⟨rfl,rfl⟩:=Qi e
 refine tD.run S e1 fun vx ρ1 B1 H1 g1 S1 r1=>tD.run S1 e2 fun vy ρ2 B2 H2 g2 S2 r2=>?_
 exact ⟨ρ2,B2,hp2,x,y,d,hp3,S2.wo,RepV.grow S1.wo.rb g2 _ _ r1,r2,RepV.grow S.wo.rb (g1.trans g2) _ _ rd,e3,fun ρ3 B3 H3 g3 W3=>k _ ρ3 B3 H3 ((g1.trans (g2.trans g3)).gs S.wo.rb) (S2.grow g3 W3)⟩
def XD:String->DV->M Unit
  | "list", .lst _=>pure ()
  | "str", .str _=>pure ()
  | T,.ref n=>do
    match <- Ja n with
    | .lst _=>Qz (T == "list")
    | .dic _=>Qz (T == "dict")
    | _=>failure
  | _,_=>failure
theorem GX {T:String} {U hp':Hs} {K:Aa} {u:Unit} (W:WOk K ρ B U H) (r:RepV K ρ B H d v) (h:XD T d U=some (u,hp')):U=hp'/\tyV K T v H:=by
  unfold XD at h
  split at h
  . obtain ⟨_,rfl⟩:=Qi h
    obtain ⟨a,xs,rfl,_,sq,_⟩:=r.lstI
    exact ⟨rfl,.inl ⟨rfl,xs,sq⟩⟩
  . obtain ⟨_,rfl⟩:=Qi h
    obtain rfl:=r.strI
    exact ⟨rfl,rfl⟩
  . obtain ⟨o,hp1,e1,e2⟩:=Qe h
    obtain ⟨e3,rfl⟩:=ZI e1
    obtain ⟨a,rfl,_,ro⟩:=RepV.refW W r e3
    cases o with
    | lst ds =>
      obtain ⟨hT,rfl⟩:=QK e2
      obtain ⟨xs,h1,_⟩:=ro
      exact ⟨rfl,.inl ⟨by simpa using hT,xs,SqL.of h1⟩⟩
    | dic kvs =>
      obtain ⟨hT,rfl⟩:=QK e2
      obtain ⟨xs,h1,_⟩:=ro
      exact ⟨rfl,.inr (.inr (.inl ⟨by simpa using hT,.inl ⟨xs,h1⟩⟩))⟩
    | ins _ _=>cases e2
  . cases h
def tPm (K:Aa) (m:DV->List DV->M DV):V->List V->Hp->VK->Prop:=fun x vs H Q=>∃ ρ B U dx ds d hp',WOk K ρ B U H/\RepV K ρ B H dx x/\RepL K ρ B H ds vs/\m dx ds U=some (d,hp')/\Fol K ρ B H d hp' Q
def Xn (T:String) (m:DV->List DV->M DV) (f:DEx) (a:DAx):DEx:=fun env=>do
 let x <- f env
 XD T x
 let ds <- a env
 m x ds
theorem Kk {T id:String} {name:Str} {es:List Expr} {m:DV->List DV->M DV} {apos cpos:Pos} (hm:MtR X id (tPm X.K m)) (pa:PlainAttrs T) (slot:Slot T name id) (hty:typeOf (.builtin id)=pure (.type "method_descriptor")) (ho:DE X o fo) (ha:DA X (e::es) fs)
  (hbase:attributeBase o name X.env (eval o X.env)=eval o X.env:=by rfl)
  (hfew:((backTo cpos (starEach (e::es) X.env)).all (fun x=>!x.1)&&(backToKw cpos (keywordEach [] X.env)).all (fun x=>x.1.isSome)
   && decide ((e::es).length+([]:List Keyword).length+(if ([]:List Keyword).isEmpty then 0 else 1) < 30))=true:=by rfl)
  (hline:(apos.endLine==cpos.line)=true:=by rfl) (hs:starEach (e::es) X.env=(false,eval e X.env)::starEach es X.env:=by rfl) (hplain:(backTo cpos (starEach es X.env)).any (·.1)=false:=by rfl) :
  DE X (.Call (.Attribute o name apos) (e::es) [] cpos) (Xn T m fo fs) :=
 L2.PE.imp (Qhf pa slot hty hm ho ha hbase hfew hline hs hplain) fun σ H Q zz1=>by
  obtain ⟨Z,env,ρ,B,U,d,hp',S,e,k⟩:=zz1
  obtain ⟨x,hp1,e1,ea⟩:=Qe e
  obtain ⟨_,hp2,e2,eb⟩:=Qe ea
  obtain ⟨ds,hp3,e3,ec⟩:=Qe eb
  refine tD.run S e1 fun v ρ1 B1 H1 g1 S1 r1=>?_
  obtain ⟨z,ty⟩:=GX S1.wo r1 e2
  rw [<- z] at e3
  exact ⟨ty,tDA.run S1 e3 fun vs ρ2 B2 H2 g2 S2 r2=>⟨ρ2,B2,hp3,x,ds,d,hp',S2.wo,RepV.grow S1.wo.rb g2 _ _ r1,r2,ec,k.after (g1.trans g2)⟩⟩
theorem Qdk {T id:String} {name:Str} {m:DV->List DV->M DV} {apos cpos:Pos} (hm:MtR X id (tPm X.K m)) (pa:PlainAttrs T) (slot:Slot T name id) (hty:typeOf (.builtin id)=pure (.type "method_descriptor")) (ho:DE X o fo)
  (hbase:attributeBase o name X.env (eval o X.env)=eval o X.env:=by rfl) (hline:(apos.endLine==cpos.line)=true:=by rfl):DE X (.Call (.Attribute o name apos) [] [] cpos) (Xn T m fo Qo) :=
 L2.PE.imp (QfR pa slot hty hm ho hbase hline) fun σ H Q zz1=>by
  obtain ⟨Z,env,ρ,B,U,d,hp',S,e,k⟩:=zz1
  obtain ⟨x,hp1,e1,ea⟩:=Qe e
  obtain ⟨_,hp2,e2,eb⟩:=Qe ea
  obtain ⟨ds,hp3,e3,ec⟩:=Qe eb
  obtain ⟨z1,z2⟩:=Qi e3
  refine tD.run S e1 fun v ρ1 B1 H1 g1 S1 r1=>?_
  obtain ⟨z,ty⟩:=GX S1.wo r1 e2
  rw [<- z1,<- z2,<- z] at ec
  exact ⟨ty,ρ1,B1,hp1,x,[],d,hp',S1.wo,r1,RepL.nil,ec,k.after g1⟩
def onL (x:DV) (k:Nat->List DV->M DV):M DV:=match x with
  | .ref n=>do
    match <- Ja n with
    | .lst ds=>k n ds
    | _=>failure
  | _=>failure
def onD (x:DV) (k:Nat->List (Key×DV)->M DV):M DV:=match x with
  | .ref n=>do
    match <- Ja n with
    | .dic ds=>k n ds
    | _=>failure
  | _=>failure
theorem jF {x d:DV} {k:Nat->List DV->M DV} {U hp':Hs} (h:onL x k U=some (d,hp')):∃ n ds,x=.ref n/\U[n]?=some (.lst ds)/\k n ds U=some (d,hp'):=by
  cases x with
  | ref n =>
    obtain ⟨o,hp1,e1,e2⟩:=Qe h
    obtain ⟨e3,rfl⟩:=ZI e1
    cases o with
    | lst ds=>exact ⟨n,ds,rfl,e3,e2⟩
    | dic _=>cases e2
    | ins _ _=>cases e2
  | _=>cases h
theorem jD {x d:DV} {k:Nat->List (Key×DV)->M DV} {U hp':Hs} (h:onD x k U=some (d,hp')):∃ n ds,x=.ref n/\U[n]?=some (.dic ds)/\k n ds U=some (d,hp'):=by
  cases x with
  | ref n =>
    obtain ⟨o,hp1,e1,e2⟩:=Qe h
    obtain ⟨e3,rfl⟩:=ZI e1
    cases o with
    | dic ds=>exact ⟨n,ds,rfl,e3,e2⟩
    | lst _=>cases e2
    | ins _ _=>cases e2
  | _=>cases h
def JI (x:DV):List DV->M DV
 | [d]=>onL x fun n ds=>do Qz (decide (ds.length < lim));xE n (.lst (ds++[d]));pure .non
 | _=>failure
theorem QbX:MtR X "list.append" (tPm X.K JI):=by
 intro O9 s σ H x vs v us Q I rx rv h
 obtain ⟨ρ,B,U,dx,es,d,hp',W,r1,r2,e,k⟩:=h
 unfold JI at e
 split at e
 ·rename_i y
  obtain ⟨n,ds,rfl,h0,e⟩:=jF e
  obtain ⟨_,hp1,e1,e2⟩:=Qe e
  obtain ⟨hl,rfl⟩:=QK e1
  cases e2
  obtain ⟨a,rfl,i1,xs,h1,l1⟩:=RepV.refW W r1 h0
  obtain ⟨w,rfl,rw'⟩:=r2.oneI
  obtain ⟨g,W'⟩:=jV W i1 h1 (RepL.append l1 (RepL.one rw'))
  exact UN O9 s σ H _ _ v us Q I rx rv ⟨a,xs,w,rfl,rfl,h1,by rw [<- l1.length];exact Ay (Ee hl) KH,k _ ρ B _ g W' Y6⟩
 ·cases e
def Xr (x:DV):List DV->M DV
 | [.int i,d]=>onL x fun n ds=>do Qz (decide (ds.length < lim)&&VJ i);xE n (.lst (ds.take (QgS ds.length i)++d::ds.drop (QgS ds.length i)));pure .non
 | _=>failure
def Yi (x:DV):List DV->M DV
  | [y]=>onD x fun n kvs=>do
    let k <- J8 y
    let d <- Y2 (J0 kvs k)
    xE n (.dic (XA kvs k))
    pure d
  | [y,z]=>onD x fun n kvs=>do
    let k <- J8 y
    match J0 kvs k with
    | some d=>do xE n (.dic (XA kvs k));pure d
    | none=>pure z
  | _=>failure
theorem QfC:MtR X "dict.pop" (tPm X.K Yi):=by
 intro O9 s σ H x vs v us Q I rx rv h
 obtain ⟨ρ,B,U,dx,es,d,hp',W,r1,r2,e,k⟩:=h
 unfold Yi at e
 split at e
 ·rename_i y
  obtain ⟨n,kvs,rfl,h0,e⟩:=jD e
  obtain ⟨ky,hp1,e1,e⟩:=Qe e
  obtain ⟨hk,rfl⟩:=J2 e1
  obtain ⟨d',hp2,e2,e⟩:=Qe e
  obtain ⟨hv,rfl⟩:=qW e2
  cases e
  obtain ⟨a,rfl,i1,ro⟩:=RepV.refW W r1 h0
  obtain ⟨xs,h1,rk⟩:=ro.dic
  obtain ⟨w,rfl,rw'⟩:=r2.oneI
  obtain rfl:=Xz hk rw'
  obtain ⟨g,W'⟩:=VZ W i1 h1 (rk.drop ky)
  rcases rk.val ky with ⟨z,_⟩ | ⟨d'',v',z,zv,rz⟩
  ·rw [hv] at z;cases z
  ·rw [hv] at z;cases z
   exact KL O9 s σ H _ _ v us Q I rx rv ⟨a,xs,ky,rfl,h1,.inl ⟨rfl,v',zv,k _ ρ B _ g W' (RepV.grow W.rb g _ _ rz)⟩⟩
 ·rename_i y z
  obtain ⟨n,kvs,rfl,h0,e⟩:=jD e
  obtain ⟨ky,hp1,e1,e⟩:=Qe e
  obtain ⟨hk,rfl⟩:=J2 e1
  obtain ⟨a,rfl,i1,ro⟩:=RepV.refW W r1 h0
  obtain ⟨xs,h1,rk⟩:=ro.dic
  unfold RepL at r2
  obtain ⟨w,t,rfl,rw',r2⟩:=r2
  obtain rfl:=Xz hk rw'
  obtain ⟨w2,rfl,rw2⟩:=r2.oneI
  rcases rk.val ky with ⟨z1,zv⟩ | ⟨d'',v',z1,zv,rz⟩
  ·rw [z1] at e
   obtain ⟨rfl,rfl⟩:=Qi e
   exact KL O9 s σ H _ _ v us Q I rx rv ⟨a,xs,ky,rfl,h1,.inr ⟨w2,rfl,(fun v hv=>by rw [zv] at hv;cases hv),fun _=>k _ ρ B H Gr.refl W rw2⟩⟩
  ·rw [z1] at e
   cases e
   obtain ⟨g,W'⟩:=VZ W i1 h1 (rk.drop ky)
   exact KL O9 s σ H _ _ v us Q I rx rv ⟨a,xs,ky,rfl,h1,.inr ⟨w2,rfl,(fun v hv=>by rw [zv] at hv;cases hv;exact k _ ρ B _ g W' (RepV.grow W.rb g _ _ rz)),fun hn=>by rw [zv] at hn;cases hn⟩⟩
 ·cases e
def X4 (x:DV):List DV->M DV
  | [y]=>onD x fun n kvs=>do
    let k <- J8 y
    pure ((J0 kvs k).getD .non)
  | [y,z]=>onD x fun n kvs=>do
    let k <- J8 y
    pure ((J0 kvs k).getD z)
  | _=>failure
theorem QfB (hu:X.A.units+1 < cLine):MtR X "dict.get" (tPm X.K X4):=by
 intro O9 s σ H x vs v us Q I rx rv h
 obtain ⟨ρ,B,U,dx,es,d,hp',W,r1,r2,e,k⟩:=h
 unfold X4 at e
 split at e
 ·rename_i y
  obtain ⟨n,kvs,rfl,h0,e⟩:=jD e
  obtain ⟨ky,hp1,e1,e⟩:=Qe e
  obtain ⟨hk,rfl⟩:=J2 e1
  obtain ⟨rfl,rfl⟩:=Qi e
  obtain ⟨a,rfl,i1,ro⟩:=RepV.refW W r1 h0
  obtain ⟨xs,h1,rk⟩:=ro.dic
  obtain ⟨w,rfl,rw'⟩:=r2.oneI
  obtain rfl:=Xz hk rw'
  refine ko hu O9 s σ H _ _ v us Q I rx rv ⟨a,xs,ky,rfl,h1,.inl ⟨rfl,k _ ρ B H Gr.refl W ?_⟩⟩
  rcases rk.val ky with ⟨z1,zv⟩ | ⟨d'',v',z1,zv,rz⟩<;>rw [z1,zv]
  ·exact Y6
  ·exact rz
 ·rename_i y z
  obtain ⟨n,kvs,rfl,h0,e⟩:=jD e
  obtain ⟨ky,hp1,e1,e⟩:=Qe e
  obtain ⟨hk,rfl⟩:=J2 e1
  obtain ⟨rfl,rfl⟩:=Qi e
  obtain ⟨a,rfl,i1,ro⟩:=RepV.refW W r1 h0
  obtain ⟨xs,h1,rk⟩:=ro.dic
  unfold RepL at r2
  obtain ⟨w,t,rfl,rw',r2⟩:=r2
  obtain rfl:=Xz hk rw'
  obtain ⟨w2,rfl,rw2⟩:=r2.oneI
  refine ko hu O9 s σ H _ _ v us Q I rx rv ⟨a,xs,ky,rfl,h1,.inr ⟨w2,rfl,k _ ρ B H Gr.refl W ?_⟩⟩
  rcases rk.val ky with ⟨z1,zv⟩ | ⟨d'',v',z1,zv,rz⟩<;>rw [z1,zv]
  ·exact rw2
  ·exact rz
 ·cases e
end
end D
namespace L2
open PySem PySem.Spec PyProof.Rows
theorem Inv.kfresh {X:Cx} {s:Shared} (I:Inv X O9 σ H s):X.K.lookup s.heap.objs.size=none:=by
 cases q:X.K.lookup s.heap.objs.size with
 | none=>rfl
 | some o=>exact absurd (Ap (I.kIn _ o q)) (Cw _)
def Qgm (K:Aa) (trs:List (TE×TE)):TE:=fun σ H Q=>∀ p,H p=none->K.lookup p=none->K8 trs σ (upd H p (.dK [])) fun ps H2=>H2 p=some (.dK [])/\∃ kvs:List (Key×V),ps=kvs.map (fun kv=>(kV kv.1,kv.2))/\kvs.length<=15/\Q (.ref p) (upd H2 p (.dK (XN [] kvs)))
theorem Qcg {keys:List (Option Expr)} {values:List Expr} {trs:List (TE×TE)} (h:PPs X pos keys values trs) (hall:keys.all (·.isSome)=true) (hl:keys.length=values.length) (h0:keys≠[])
  (h15:keys.length<=15):PE X (.Dict keys values pos) (Qgm X.K trs):=by
 intro O9 s σ H Q I q
 have hn:=I.hok.fresh (Ae s.heap.objs.size)
 have I1:=I.laid (a:=s.heap.objs.size) (o:=.dK []) (h':=s.heap.push { cls:=.type "dict", data:=.dict #[] }) (t':=s.toks) (fun _ _ q=>Ad _ q) (Ae _) (GG s.heap I.big)
 refine wpAny_Dict_walk (knd:=Zu X.prog X.w) hall hl h0 h15 (thn (h O9 _ σ _ _ I1 (q _ hn I.kfresh)) fun ws s2 zz1=>?_)
 obtain ⟨ps,H2,I2,rel,e,kvs,ep,lk,q2⟩:=zz1
 subst ep
 obtain ⟨rs,c,rk⟩:=yE (P:=X.prog) (w:=X.w) rel
 obtain ⟨z,hd,vs0,r0,dd⟩:=yO I2.hok e
 cases r0
 refine ⟨rs,c,dd,fun h' dd' hs=>⟨.ref s.heap.objs.size,_,?_,rfl,q2⟩⟩
 have hz:(XN [] kvs).length<=sizeLine:=by
  have h1:=zr kvs []
  rw [List.length_nil] at h1
  rw [sizeLine_eq];lia
 have he:∃ q,h'.get? s.heap.objs.size=some q:=let ⟨q,_,_,hq,_⟩:=dd';⟨q,hq⟩
 exact jk I2 (by rw [e];exact True.intro) hs he (Km hz hd (rk.merge .nil) dd')
theorem QaL {X:Cx}:PE X (.Dict [] [] pos) (fun _ H Q=>∀ p,H p=none->X.K.lookup p=none->Q (.ref p) (upd H p (.dK []))):=fun O9 s σ H Q I h =>
 wpAny_Dict_empty ⟨.ref s.heap.objs.size,_,I.laid (a:=s.heap.objs.size) (o:=.dK []) (t':=s.toks) (fun _ _ q=>Ad _ q) (Ae _) (GG s.heap I.big),rfl,h _ (I.hok.fresh (Ae _)) I.kfresh⟩
end L2
namespace D
open PySem PySem.Spec PyProof.Rows L2
section
variable {X:Cx} {e a b c:Expr} {f fa fb fc:DEx} {ca cb:DTx} {pos:Pos}
def evP:List (DEx×DEx)->En->M (List (Key×DV))
  | [],_=>pure []
  | (f,g)::r,env=>do
    let x <- f env
    let k <- J8 x
    let y <- g env
    let ps <- evP r env
    pure ((k,y)::ps)
def Vh (kvs more:List (Key×DV)):List (Key×DV):=more.foldl (fun acc kv=>YG acc kv.1 kv.2) kvs
def X0 (ps:List (DEx×DEx)):DEx:=fun env=>do
 let kvs <- evP ps env
 Qz (decide (kvs.length<=15))
 XX (.dic (Vh [] kvs))
def QeZ (K:Aa) (ps:List (DEx×DEx)):List (TE×TE):=ps.map fun p=>(tD K p.1,tD K p.2)
structure DPs (X:Cx) (pos:Pos) (keys:List (Option Expr)) (values:List Expr) (ps:List (DEx×DEx)):Prop where
 out:PPs X pos keys values (QeZ X.K ps)
def Qff:DPs X pos [] [] []:=⟨Qd4⟩
def Kn {k v:Expr} {ks:List (Option Expr)} {vs:List Expr} {ps:List (DEx×DEx)} (hk:DE X k fa) (hv:DE X v fb) (hr:DPs X pos ks vs ps):DPs X pos (some k::ks) (v::vs) ((fa,fb)::ps):=⟨Qcq hk hv hr.out⟩
theorem RepK.merge {K:Aa} (r:RepK K ρ B H more ms):∀ {kvs:List (Key×DV)} {xs:List (Key×V)},RepK K ρ B H kvs xs->RepK K ρ B H (Vh kvs more) (XN xs ms):=by
  induction r with
  | nil=>intro kvs xs r;exact r
  | @cons p q _ _ h _ ih =>
    intro kvs xs r
    unfold Vh XN at ih ⊢
    rw [List.foldl_cons,List.foldl_cons,h.1]
    exact ih (r.put q.1 h.2)
theorem gQ {K:Aa}:∀ (ps:List (DEx×DEx)) {Z:Ent} {env:En} {σ:St} {ρ:Ep} {B:Eo} {U hp1:Hs} {H:Hp} {kvs:List (Key×DV)} {R:List (V×V)->Hp->Prop},SOk K Z env σ ρ B U H->evP ps env U=some (kvs,hp1) ->
    (∀ xs ρ' B' H',Gr K ρ B H ρ' B' H'->SOk K Z env σ ρ' B' hp1 H'->RepK K ρ' B' H' kvs xs->R (xs.map fun kv=>(kV kv.1,kv.2)) H')->K8 (QeZ K ps) σ H R
  | [],_,_,_,_,_,_,_,_,_,_,S,e,k=>by
    obtain ⟨rfl,rfl⟩:=Qi e
    exact k [] _ _ _ Gr.refl S .nil
  | (f,g)::r,_,_,_,_,_,_,_,_,_,_,S,e,k=>by
    obtain ⟨x,hp2,e1,e⟩:=Qe e
    obtain ⟨ky,hp3,e2,e⟩:=Qe e
    obtain ⟨hk,rfl⟩:=J2 e2
    obtain ⟨y,hp4,e3,e⟩:=Qe e
    obtain ⟨ps,hp5,e4,e⟩:=Qe e
    obtain ⟨rfl,rfl⟩:=Qi e
    refine tD.run S e1 fun v ρ1 B1 H1 g1 S1 r1=>tD.run S1 e3 fun u ρ2 B2 H2 g2 S2 r2=>gQ r S2 e4 fun xs ρ3 B3 H3 g3 S3 r3=>?_
    obtain rfl:=Xz hk r1
    exact k ((ky,u)::xs) ρ3 B3 H3 (g1.trans (g2.trans g3)) S3 (.cons ⟨rfl,RepV.grow S2.wo.rb g3 _ _ r2⟩ r3)
theorem Qdl {keys:List (Option Expr)} {values:List Expr} {ps:List (DEx×DEx)} (h:DPs X pos keys values ps) (hall:keys.all (·.isSome)=true:=by rfl) (hl:keys.length=values.length:=by rfl) (h0:keys≠[]:=by exact List.cons_ne_nil _ _) (h15:keys.length<=15:=by exact Nat.le_of_ble_eq_true rfl):DE X (.Dict keys values pos) (X0 ps) :=
 L2.PE.imp (Qcg h.out hall hl h0 h15) fun σ H Q zz1=>by
  obtain ⟨Z,env,ρ,B,U,d,hp',S,e,k⟩:=zz1
  obtain ⟨kvs,hp1,e1,e2⟩:=Qe e
  obtain ⟨_,hp2,e3,e4⟩:=Qe e2
  obtain ⟨hs,rfl⟩:=QK e3
  cases e4
  intro p hn hk
  have g0:Gr X.K ρ B H ρ (j6 B p) (upd H p (.dK [])):=Gr.banned hn hk
  have W0:=S.wo.banned (o:=.dK []) hn hk
  have np:p∉ρ:=fun z=>S.wo.bt p (S.wo.rb p z) hn
  refine gQ ps (S.grow g0 W0) e1 fun xs ρ1 B1 H1 g1 S1 r1=>?_
  have np1:p∉ρ1:=fun z=>(g1.rnew p z).elim np fun q=>by rw [Q9] at q;cases q
  have hp1':H1 p=some (.dK []):=g1.keep p _ np Q9
  refine ⟨hp1',xs,rfl,by rw [<- r1.len];exact Ee hs,?_⟩
  have G:=g0.trans g1
  have trk:∀ b,(upd H1 p (.dK (XN [] xs))) b=none->H1 b=none:=fun b q=>by
   by_cases e:b=p
   ·subst e;rw [Q9] at q;cases q
   ·rw [QX e] at q;exact q
  have bp:B1 p:=g1.ban p (.inr rfl)
  have g2:Gs X.K ρ1 B1 H1 (ρ1++[p]) B1 (upd H1 p (.dK (XN [] xs))):=⟨List.prefix_append _ _,fun _ h=>.inl h,fun b o nb h=>by rw [QX (show b≠p from fun z=>nb (by rw [z];exact bp))];exact h,trk⟩
  have G':Gr X.K ρ B H (ρ1++[p]) B1 (upd H1 p (.dK (XN [] xs))) :=
   ⟨G.pre.trans (List.prefix_append _ _),G.ban,G.new,fun a z=>(Ai.mp z).elim (G.rnew a) fun q=>.inr (by rw [Ar.mp q];exact hn),
    fun a o na h=>by rw [QX (show a≠p from fun z=>by rw [z,hn] at h;cases h)];exact G.keep a o na h,fun a q=>G.trk a (trk a q)⟩
  have W1:=S1.wo
  have oD:ORep X.K (ρ1++[p]) B1 (upd H1 p (.dK (XN [] xs))) p (.dic (Vh [] kvs)):=((RepK.merge r1 (kvs:=[]) (xs:=[]) .nil).gs g2).orep Q9
  have W2:WOk X.K (ρ1++[p]) B1 (hp1++[.dic (Vh [] kvs)]) (upd H1 p (.dK (XN [] xs))):=by
   refine ⟨by simp [W1.len],List.nodup_append.mpr ⟨W1.nd,by simp,fun a ha b hb=>by rw [Ar.mp hb];exact fun z=>np1 (z▸ha)⟩,fun i a u e q=>?_,fun a z=>(Ai.mp z).elim (W1.rb a) fun q=>by rw [Ar.mp q];exact bp,fun a z q=>W1.bt a z (trk a q),W1.bk⟩
   by_cases hi:i < ρ1.length
   ·rw [Ah hi] at e
    rw [Ah (by rw [<- W1.len];exact hi)] at q
    exact ORep.gs g2 (QX (fun z=>np1 (by rw [<- z];exact Aw e))) (W1.obj i a u e q)
   ·rw [Aq (by lia)] at e
    rw [Aq (by rw [<- W1.len];lia)] at q
    have hi0:i - ρ1.length=0:=by
     have:=(Ac.mp e).1
     simp at this;lia
    rw [hi0] at e
    rw [<- W1.len,hi0] at q
    simp at e q
    subst e q
    exact oD
  refine k _ _ _ _ G' W2 ?_
  unfold RepV
  exact ⟨p,rfl,by rw [<- W1.len];simp⟩
def JY:DEx:=fun _=>XX (.dic [])
theorem yL:DE X (.Dict [] [] pos) JY:=L2.PE.imp QaL fun σ H Q zz1=>by
 obtain ⟨Z,env,ρ,B,U,d,hp',S,e,k⟩:=zz1
 cases e
 intro p hn hk
 have g:Gr X.K ρ B H (ρ++[p]) (j6 B p) (upd H p (.dK [])):=Gr.wnew hn hk
 refine k _ _ _ _ g (S.wo.wnew hn hk (RepK.orep (xs:=[]) .nil Q9)) ?_
 unfold RepV
 exact ⟨p,rfl,by rw [<- S.wo.len];simp⟩
abbrev NX:=Nat->M (Option DV)
def Qbc (K:Aa) (ρ:Ep) (B:Eo) (H:Hp) (nxt:NX) (J:It):Prop :=
  ∀ ρ1 B1 hp1 H1, Gs K ρ B H ρ1 B1 H1 -> WOk K ρ1 B1 hp1 H1 -> ∀ (i : Nat) (o : Option DV) (hp2 : Hs), nxt i hp1 = some (o, hp2) -> hp2 = hp1 /\ match o with
    | none=>J.stop i H1
    | some d=>J.go i H1/\∀ x H',J.yld i H1 x H'->RepV K ρ1 B1 H' d x/\(H'=H1∨∃ p o,H1 p=none/\H'=upd H1 p o)
abbrev DXx:=En->M NX
def tDX (K:Aa) (f:DXx):TI:=fun σ H R=>∃ Z env ρ B U nxt hp',SOk K Z env σ ρ B U H/\f env U=some (nxt,hp')/\∀ J ρ' B' H',Gr K ρ B H ρ' B' H'->WOk K ρ' B' hp' H'->Qbc K ρ' B' H' nxt J->R J H'
def DX (X:Cx) (tg iter:Expr) (f:DXx):Prop:=PI X tg iter (tDX X.K f)
def nxD (ds:List DV):NX:=fun i=>if i<=ds.length then pure ds[i]? else failure
def nxW (n:Nat):NX:=fun i=>do
 match <- Ja n with
 | .lst ds=>pure ds[i]?
 | _=>failure
theorem Qb9 {K:Aa} (h:kZ K ρ B H ds J):Qbc K ρ B H (nxD ds) J:=fun ρ1 B1 hp1 H1 g W i o hp2 e=>by
  unfold nxD at e
  by_cases hi:i<=ds.length
  . rw [C9 hi] at e
    obtain ⟨rfl,rfl⟩:=Qi e
    obtain ⟨h1,h2⟩:=h ρ1 B1 H1 g W.rb W.bt
    refine ⟨rfl,?_⟩
    cases q:ds[i]? with
    | none =>
      have:i=ds.length:=by have:=List.getElem?_eq_none_iff.mp q;lia
      subst this
      exact h2
    | some d=>exact h1 i d q
  . rw [C8 hi] at e;cases e
theorem QfG {K:Aa} {ρ:Ep} {n:Nat} {a:Addr} (ha:ρ[n]?=some a) (kf:∀ H1:Hp,∀ xs ys,H1 a=some (.lst xs)->SqL K H1 a ys->ys=xs):Qbc K ρ B H (nxW n) (Itl K a):=fun ρ1 B1 hp1 H1 g W i o hp2 e=>by
  obtain ⟨ob,hp3,e1,e2⟩:=Qe e
  obtain ⟨e3,rfl⟩:=ZI e1
  have ha1:=kE g.pre ha
  cases ob with
  | dic _=>cases e2
  | ins _ _=>cases e2
  | lst ds =>
    obtain ⟨rfl,rfl⟩:=Qi e2
    obtain ⟨xs,h1,l1⟩:=W.obj n a _ ha1 e3
    refine ⟨rfl,?_⟩
    cases q:ds[i]? with
    | none=>exact ⟨xs,SqL.of h1,by rw [<- l1.length];exact List.getElem?_eq_none_iff.mp q⟩
    | some d =>
      obtain ⟨x,hx,rx⟩:=l1.get q
      refine ⟨⟨xs,x,SqL.of h1,hx⟩,fun y H' ⟨eH,hy⟩=>?_⟩
      subst eH
      have:=hy xs (SqL.of h1)
      rw [hx] at this;cases this
      exact ⟨rx,.inl rfl⟩
theorem QcR {K:Aa} {a:Addr} (hk:K.lookup a=none) (H:Hp) (xs ys:List V) (h:H a=some (.lst xs)) (h':SqL K H a ys):ys=xs:=by
 rcases h' with (h' | ⟨o,h'⟩) | ⟨o,_,_,h',_⟩
 ·rw [h] at h';cases h';rfl
 ·rw [h] at h';cases h'
 ·rw [hk] at h';cases h'
def xOf (f:DIx):DXx:=fun env=>do let ds <- f env;pure (nxD ds)
def xLs (f:DEx):DXx:=fun env=>do
  match <- f env with
  | .lst ds=>pure (nxD ds)
  | .ref n=>do
    match <- Ja n with
    | .lst _=>pure (nxW n)
    | _=>failure
  | _=>failure
variable {tg iter:Expr}
theorem gK (h:DI X tg iter g):DX X tg iter (xOf g):=L2.PI.imp h fun σ H R zz1=>by
 obtain ⟨Z,env,ρ,B,U,nxt,hp',S,e,k⟩:=zz1
 obtain ⟨ds,hp1,e1,e2⟩:=Qe e
 obtain ⟨rfl,rfl⟩:=Qi e2
 exact ⟨Z,env,ρ,B,U,ds,hp1,S,e1,fun J ρ' B' H' g W it=>k J ρ' B' H' g W (Qb9 it)⟩
theorem gJ (h:DE X iter f):DX X tg iter (xLs f):=L2.PI.imp (Qd0 (L2.PE.kf h)) fun σ H R zz1=>by
  obtain ⟨Z,env,ρ,B,U,nxt,hp',S,e,k⟩:=zz1
  obtain ⟨d,hp1,e1,e2⟩:=Qe e
  refine tD.run S e1 fun v ρ1 B1 H1 g1 S1 r1 kf=>?_
  cases d with
  | lst ds =>
    obtain ⟨rfl,rfl⟩:=Qi e2
    obtain ⟨a,xs,rfl,nb,sq,rl⟩:=r1.lstI
    exact ⟨a,rfl,⟨xs,sq⟩,k _ ρ1 B1 H1 g1 S1.wo (Qb9 (QdB nb sq rl))⟩
  | ref n =>
    obtain ⟨o,hp2,e3,e4⟩:=Qe (show (Ja n >>= fun o=>(match o with | .lst _=>pure (nxW n) | _=>failure:M NX)) hp1=some (nxt,hp') from e2)
    obtain ⟨e5,e6⟩:=ZI e3
    cases o with
    | lst ds =>
      obtain ⟨rfl,z⟩:=Qi e4
      rw [<- z,<- e6] at k
      obtain ⟨a,rfl,i1,xs,h1,_⟩:=RepV.refW S1.wo r1 e5
      exact ⟨a,rfl,⟨xs,SqL.of h1⟩,k _ ρ1 B1 H1 g1 S1.wo (QfG i1 (QcR (kf a _ h1)))⟩
    | dic _=>cases e4
    | ins _ _=>cases e4
  | non=>cases e2
  | bl _=>cases e2
  | int _=>cases e2
  | str _=>cases e2
  | tup _=>cases e2
def yk (nxt:NX) (b:DV->DSx):Nat->Nat->DSx
  | 0,_,_=>failure
  | m+1,i,env=>do
    match <- nxt i with
    | none=>pure (.nx,env)
    | some d=>do
      let r <- b d env
      match r.1 with
      | .nx=>yk nxt b m (i+1) r.2
      | .ct=>yk nxt b m (i+1) r.2
      | .bk=>pure (.nx,r.2)
      | .rt x=>pure (.rt x,r.2)
def kL (f:DXx) (g:DGx) (body:DSx):DSx:=fun env=>do let nxt <- f env;yk nxt (fun d env=>do let env' <- g d env;body env') 100000 0 env
theorem Qdp {body:List Stmt} {fi:DXx} {g:DGx} {sb:DSx} (U:PassesOwn (model X.prog X.w) X.A X.env X.xe) (hc:X.calm=true) (hi:DX X tg iter fi) (hg:PG X tg (tDG X.K g)) (hb:DSs X body sb)
    (hs:∀ x,foldedSetIterable iter X.env x=pure x:=by intro _;rfl):DS X (.For tg iter body [] pos) (kL fi g sb) :=
  (Qcr U hc hi hg hb hs).imp fun D σ H zz1=>by
    obtain ⟨Z,env,ρ,B,U,fl,env',hp',S,e,k⟩:=zz1
    obtain ⟨nxt,hp1,e1,e2⟩:=Qe e
    refine ⟨Z,env,ρ,B,U,nxt,hp1,S,e1,fun J ρ1 B1 H1 g1 W1 it=>?_⟩
    have k1:=k.after (g1.gs S.wo.rb)
    refine ⟨fun i m σ H=>∃ env ρ B U,SOk X.K Z env σ ρ B U H/\Gs X.K ρ1 B1 H1 ρ B H/\yk nxt (fun d env=>do let env' <- g d env;sb env') m i env U=some ((fl,env'),hp'),
      ⟨100000,env,ρ1,B1,hp1,S.grow g1 W1,Gs.refl,e2⟩,?_⟩
    rintro i m σ H ⟨env2,ρ2,B2,hp2,S2,g2,e3⟩
    cases m with
    | zero=>cases e3
    | succ m =>
      obtain ⟨o,hpo,eo,e3⟩:=Qe e3
      obtain ⟨rfl,ito⟩:=it ρ2 B2 hp2 H g2 S2.wo i o hpo eo
      cases o with
      | none =>
        obtain ⟨z,rfl⟩:=Qi e3;cases z
        exact .inl ⟨ito,k1 σ ρ2 B2 H g2 S2⟩
      | some d =>
        obtain ⟨go,yl⟩:=ito
        obtain ⟨⟨f1,env4⟩,hp4,e4,e5⟩:=Qe e3
        obtain ⟨env3,hp3,e6,e7⟩:=Qe e4
        refine .inr ⟨go,fun σ' H'=>∃ env ρ B U,SOk X.K Z env σ' ρ B U H'/\Gs X.K ρ1 B1 H1 ρ B H'/\yk nxt (fun d env=>do let env' <- g d env;sb env') m (i+1) env U=some ((fl,env'),hp'),
          fun σ' H' q=>⟨m,Nat.lt_succ_self m,q⟩,fun x H' y=>?_⟩
        obtain ⟨rx,hx⟩:=yl x H' y
        have S3:SOk X.K Z env2 σ ρ2 B2 hpo H'/\Gs X.K ρ2 B2 H ρ2 B2 H':=by
          rcases hx with rfl | ⟨p,o,hn,rfl⟩
          . exact ⟨S2,Gs.refl⟩
          . exact ⟨S2.grow (Gr.laid hn) (S2.wo.laid hn),gh S2.wo.rb hn⟩
        refine ⟨Z,env2,ρ2,B2,hpo,d,env3,hp3,S3.1,rx,e6,fun σ5 ρ5 B5 H5 g5 S5=>⟨Z,env3,ρ5,B5,hp3,f1,env4,hp4,S5,e7,fun σ6 ρ6 B6 H6 g6 S6=>?_⟩⟩
        have G6:=g2.trans (S3.2.trans (g5.trans g6))
        cases f1 with
        | nx=>exact ⟨env4,ρ6,B6,hp4,S6,G6,e5⟩
        | ct=>exact ⟨env4,ρ6,B6,hp4,S6,G6,e5⟩
        | bk=>obtain ⟨z,rfl⟩:=Qi e5;cases z;exact k1 σ6 ρ6 B6 H6 G6 S6
        | rt d=>obtain ⟨z,rfl⟩:=Qi e5;cases z;exact k1 σ6 ρ6 B6 H6 G6 S6
def JP (nxt:NX) (g:DV->M Bool) (f:DV->M DV):Nat->Nat->M (List DV)
  | 0,_=>failure
  | m+1,i=>do
    match <- nxt i with
    | none=>pure []
    | some d=>do
      if <- g d then
        let y <- f d
        let ys <- JP nxt g f m (i+1)
        pure (y::ys)
      else JP nxt g f m (i+1)
def J7 (nw:Bool) (src:DXx) (idx:List Nat) (t:DTx) (f:DEx):DEx:=fun env=>do
 let nxt <- src env
 let out <- JP nxt (fun d=>t (cE idx env d)) (fun d=>f (cE idx env d)) lim 0
 if nw then XX (.lst out) else pure (.lst out)
variable {elt:Expr} {x:Str} {px:Pos} {ifs:List Expr} {scope:Scope} {cl:List (Str×Addr)} {caps:List Str} {idx:List Nat} {src:DXx} {te:DTx} {nw:Bool}
theorem yS {K:Aa} (h:tD K (J7 nw src idx te f) σ H Q):kQ K (tDX K src) (tDT K te) (tD K f) idx σ H Q:=by
  obtain ⟨Z,env,ρ,B,U,d,hp',S,e,k⟩:=h
  obtain ⟨nxt,hp1,e1,e2⟩:=Qe e
  obtain ⟨out,hp3,e5,e6⟩:=Qe e2
  refine ⟨Z,env,ρ,B,U,nxt,hp1,S,e1,fun J ρ1 B1 H1 g1 W1 it D hD hK=>?_⟩
  have g1s:=g1.gs S.wo.rb
  refine ⟨fun i m ys H2=>H2 D=some (.lst ys)/\i+m=lim/\∃ ρ2 B2 hp2 don rst,Gr K ρ1 B1 H1 ρ2 B2 H2/\WOk K ρ2 B2 hp2 H2/\B2 D/\D∉ρ2/\RepL K ρ2 B2 H2 don ys/\don.length<=i /\
    JP nxt (fun d=>te (cE idx env d)) (fun d=>f (cE idx env d)) m i hp2=some (rst,hp3)/\don++rst=out,?_,?_⟩
  . exact ⟨lim,Q9,C4 _,ρ1,j6 B1 D,hp1,[],out,Gr.banned hD hK,W1.banned hD hK,.inr rfl,fun z=>W1.bt D (W1.rb D z) hD,RepL.nil,Ae _,e5,rfl⟩
  . rintro i m ys H2 ⟨hDs,him,ρ2,B2,hp2,don,rst,g2,W2,bD,nD,rd,dn,e7,e8⟩
    refine ⟨hDs,?_⟩
    cases m with
    | zero=>cases e7
    | succ m =>
      obtain ⟨o,hpo,eo,e7⟩:=Qe e7
      obtain ⟨rfl,ito⟩:=it ρ2 B2 hp2 H2 (g2.gs W1.rb) W2 i o hpo eo
      cases o with
      | some d0 =>
        obtain ⟨go,yl⟩:=ito
        obtain ⟨b,hp4,e9,e10⟩:=Qe e7
        refine .inr ⟨go,fun x H3 y=>?_⟩
        obtain ⟨rx,hx⟩:=yl x H3 y
        have S3:Gr K ρ2 B2 H2 ρ2 B2 H3/\WOk K ρ2 B2 hpo H3:=by
          rcases hx with rfl | ⟨p,o,hn,rfl⟩
          . exact ⟨Gr.refl,W2⟩
          . exact ⟨Gr.laid hn,W2.laid hn⟩
        have g3:=g2.trans S3.1
        have C3:=cσ_ok (idx:=idx) S (g1s.trans (g3.gs W1.rb)) S3.2 rx
        refine tDT.run C3 e9 fun ρ4 B4 H4 g4 S4=>?_
        have hD4:H4 D=some (.lst ys):=g4.keep D _ nD (S3.1.keep D _ nD hDs)
        have nD4:D∉ρ4:=fun z=>(g4.rnew D z).elim nD fun q=>by rw [S3.1.keep D _ nD hDs] at q;cases q
        cases b with
        | false =>
          exact uq ⟨m,Nat.lt_succ_self m,hD4,by lia,ρ4,B4,hp4,don,rst,g3.trans g4,S4.wo,g4.ban D bD,nD4,RepL.grow W2.rb (S3.1.trans g4) _ _ rd,by lia,e10,e8⟩
        | true =>
          obtain ⟨z,hp5,e11,e12⟩:=Qe e10
          obtain ⟨zs,hp6,e13,e14⟩:=Qe e12
          obtain ⟨rfl,rfl⟩:=Qi e14
          refine ur (tD.run S4 e11 fun v ρ5 B5 H5 g5 S5 r5=>?_)
          have hD5:H5 D=some (.lst ys):=g5.keep D _ nD4 hD4
          have nD5:D∉ρ5:=fun z=>(g5.rnew D z).elim nD4 fun q=>by rw [hD4] at q;cases q
          have bD5:B5 D:=g5.ban D (g4.ban D bD)
          have G5:=g3.trans (g4.trans g5)
          have rd5:=RepL.grow W2.rb (S3.1.trans (g4.trans g5)) _ _ rd
          have trk:∀ b,(upd H5 D (.lst (ys++[v]))) b=none->H5 b=none:=fun b q=>by
            by_cases e:b=D
            . subst e;rw [Q9] at q;cases q
            . rw [QX e] at q;exact q
          have g6:Gs K ρ5 B5 H5 ρ5 B5 (upd H5 D (.lst (ys++[v]))):=⟨Cm,fun _ h=>.inl h,fun b o nb h=>by rw [QX (show b≠D from fun z=>nb (by rw [z];exact bD5))];exact h,trk⟩
          refine ⟨hD5,?_,m,Nat.lt_succ_self m,Q9,by lia,ρ5,B5,hp5,don++[z],zs,?_,?_,bD5,nD5,RepL.gs g6 _ _ (RepL.append rd5 (RepL.one r5)),by simp;lia,e13,by rw [<- e8];simp⟩
          . have h1:=rd5.length
            have h2:lim < sizeLine:=by decide
            lia
          . exact ⟨G5.pre,G5.ban,G5.new,G5.rnew,fun b o nb h=>by rw [QX (show b≠D from fun q=>by rw [q,hD] at h;cases h)];exact G5.keep b o nb h,fun b q=>G5.trk b (trk b q)⟩
          . exact ⟨S5.wo.len,S5.wo.nd,fun j b o q1 q2=>ORep.gs g6 (QX (show b≠D from fun z=>nD5 (by rw [<- z];exact Aw q1))) (S5.wo.obj j b o q1 q2),S5.wo.rb,fun b z q=>S5.wo.bt b z (trk b q),S5.wo.bk⟩
      | none =>
        obtain ⟨z,z'⟩:=Qi e7
        subst z
        subst z'
        refine .inl ⟨ito,?_⟩
        rw [Bt] at e8
        subst e8
        cases nw with
        | false =>
          obtain ⟨rfl,rfl⟩:=Qi (show (pure (.lst don):M DV) hpo=some (d,hp') from e6)
          have gU:Gs K ρ2 B2 H2 ρ2 (fun b=>B2 b/\b≠D) H2:=⟨Cm,fun _ h=>.inl h.1,fun _ _ _ h=>h,fun _ h=>h⟩
          refine k (.ref D) ρ2 (fun b=>B2 b/\b≠D) H2 (g1.trans ⟨g2.pre,fun b z=>⟨g2.ban b z,fun q=>W1.bt b z (q▸hD)⟩,fun b z=>g2.new b z.1,g2.rnew,g2.keep,g2.trk⟩)
            ⟨W2.len,W2.nd,fun j b o q1 q2=>ORep.gs gU rfl (W2.obj j b o q1 q2),fun b z=>⟨W2.rb b z,fun q=>nD (q▸z)⟩,fun b z=>W2.bt b z.1,fun b z=>W2.bk b z.1⟩ (KS (fun z=>z.2 rfl) (SqL.of hDs) (RepL.gs gU _ _ rd))
        | true =>
          cases (show some (DV.ref hpo.length,hpo++[OV.lst don])=some (d,hp') from e6)
          have gU:Gs K ρ2 B2 H2 (ρ2++[D]) B2 H2:=⟨List.prefix_append _ _,fun _ h=>.inl h,fun _ _ _ h=>h,fun _ h=>h⟩
          refine k (.ref D) (ρ2++[D]) B2 H2 (g1.trans ⟨g2.pre.trans (List.prefix_append _ _),g2.ban,g2.new,fun a z=>(Ai.mp z).elim (g2.rnew a) fun q=>.inr (by rw [Ar.mp q];exact hD),g2.keep,g2.trk⟩)
            ⟨by simp [W2.len],List.nodup_append.mpr ⟨W2.nd,by simp,fun a ha b hb=>by rw [Ar.mp hb];exact fun z=>nD (z▸ha)⟩,fun j b o q1 q2=>?_,fun b z=>(Ai.mp z).elim (W2.rb b) fun q=>by rw [Ar.mp q];exact bD,W2.bt,W2.bk⟩ ?_
          . by_cases hi:j < ρ2.length
            . rw [Ah hi] at q1
              rw [Ah (by rw [<- W2.len];exact hi)] at q2
              exact ORep.gs gU rfl (W2.obj j b o q1 q2)
            . rw [Aq (by lia)] at q1
              rw [Aq (by rw [<- W2.len];lia)] at q2
              have hi0:j - ρ2.length=0:=by
                have:=(Ac.mp q1).1
                simp at this;lia
              rw [hi0] at q1
              rw [<- W2.len,hi0] at q2
              simp at q1 q2
              subst q1 q2
              exact ⟨ys,hDs,RepL.gs gU _ _ rd⟩
          . unfold RepV
            exact ⟨D,rfl,by rw [<- W2.len];simp⟩
theorem yI (S:Ge X x scope cl caps idx) (hc:X.calm=true) (hi:DX X (.Name x px) iter src)
  (ht:∀ C s₀ H₀ ex,DTs (XJ X scope cl C (x::caps) s₀ H₀ ex) ifs te) (he:∀ C s₀ H₀ ex,DE (XJ X scope cl C (x::caps) s₀ H₀ ex) elt f)
  (hs:∀ x,foldedSetIterable iter X.env x=pure x:=by intro _;rfl):DE X (.ListComp elt [⟨.Name x px,iter,ifs,0⟩] scope pos) (J7 nw src idx te f) :=
 L2.PE.imp (QdW (tt:=tDT X.K te) (te:=tD X.K f) S hc hi ht he hs) fun _ _ _ h=>yS h
theorem GI (i:Nat) {y:Str} {py spos:Pos} (hN:X.N.Nodup) (S:Ge X x scope cl caps idx) (hc:X.calm=true) (hi:DX X (.Name x px) iter src)
  (ht:∀ C s₀ H₀ ex,DTs (XJ X scope cl C (x::caps) s₀ H₀ ex) ifs te) (he:∀ C s₀ H₀ ex,DE (XJ X scope cl C (x::caps) s₀ H₀ ex) elt f)
  (hy:X.N[i]?=some y:=by rfl) (hx:Loc X.env.scope y:=by first | exact Or.inl rfl | exact Or.inr rfl)
  (hsw:swapsWith (.ListComp elt [⟨.Name x px,iter,ifs,0⟩] scope pos) (some (.Name y py)) spos.line X.env=pure true:=by with_unfolding_all rfl)
  (hf:X.fn y=true∨X.env.scope.names.lookup y=some .local:=by first | exact .inl rfl | exact .inr rfl | assumption)
  (hs:∀ x,foldedSetIterable iter X.env x=pure x:=by intro _;rfl):DS X (.Assign [.Name y py] (.ListComp elt [⟨.Name x px,iter,ifs,0⟩] scope pos) spos) (QJ i (J7 nw src idx te f)) :=
 L2.PS.imp (Qd6 (tt:=tDT X.K te) (te:=tD X.K f) S hc hi ht he hN hy hx hsw hf hs) fun _ _ _ h=>vh (fun _ _ _ q=>yS q) h
end
def WP {α:Type} (m:M α) (U:Hs) (Q:α->Hs->Prop):Prop:=∃ x hp',m U=some (x,hp')/\Q x hp'
section
variable {α β:Type} {m:M α} {k:α->M β} {U:Hs} {Q:α->Hs->Prop} {R:β->Hs->Prop}
theorem WP_pure {x:α}:WP (pure x) U Q↔Q x U:=⟨fun ⟨y,h,e,q⟩=>by obtain ⟨rfl,rfl⟩:=Qi e;exact q,fun q=>⟨x,U,rfl,q⟩⟩
theorem yp:WP (m >>= k) U R↔WP m U fun x h=>WP (k x) h R:=⟨fun ⟨y,h,e,q⟩=>by obtain ⟨x,h1,e1,e2⟩:=Qe e;exact ⟨x,h1,e1,y,h,e2,q⟩,fun ⟨x,h1,e1,y,h,e2,q⟩=>⟨y,h,(Qh e1).trans e2,q⟩⟩
def WP.mono {Q':α->Hs->Prop} (h:WP m U Q) (hq:∀ x h,Q x h->Q' x h):WP m U Q':=let ⟨x,h1,e,q⟩:=h;⟨x,h1,e,hq x h1 q⟩
def WP.of {x:α} (e:m U=some (x,hp')) (q:Q x hp'):WP m U Q:=⟨x,hp',e,q⟩
end
section
variable {U:Hs} {env:En} {Q:Fl×En->Hs->Prop}
theorem gu {b:DV->DSx} (I:Nat->En->Hs->Prop) (ds:List DV) (h0:I 0 env U) (hs:∀ (i:Nat) d,ds[i]?=some d->∀ env U,I i env U->WP (b d env) U fun r h=>match r.1 with
    | .nx=>I (i+1) r.2 h
    | .ct=>I (i+1) r.2 h
    | .bk=>Q (.nx,r.2) h
    | .rt x=>Q (.rt x,r.2) h) (he:∀ env U,I ds.length env U->Q (.nx,env) U):WP (qD b ds env) U Q:=by
  suffices h:∀ (m i:Nat) env U,m+i=ds.length->I i env U->WP (qD b (ds.drop i) env) U Q by simpa using h ds.length 0 env U rfl h0
  intro m
  induction m with
  | zero =>
    intro i env U e hI
    have:i=ds.length:=by lia
    subst this
    rw [List.drop_length]
    exact WP_pure.mpr (he env U hI)
  | succ m ih =>
    intro i env U e hI
    have hlt:i < ds.length:=by lia
    rw [Bi hlt,qD,yp]
    refine (hs i ds[i] (Ab hlt) env U hI).mono fun r h q=>?_
    obtain ⟨fl,env1⟩:=r
    cases fl with
    | nx=>exact ih (i+1) env1 h (by lia) q
    | ct=>exact ih (i+1) env1 h (by lia) q
    | bk=>exact WP_pure.mpr q
    | rt x=>exact WP_pure.mpr q
theorem Qda {nxt:NX} {b:DV->DSx} (ds:List DV) (I:Nat->En->Hs->Prop) (hl:ds.length < 100000) (hn:∀ (i:Nat) env U,i<=ds.length->I i env U->nxt i U=some (ds[i]?,U)) (h0:I 0 env U) (hs:∀ (i:Nat) d,ds[i]?=some d->∀ env U,I i env U->WP (b d env) U fun r h=>match r.1 with
    | .nx=>I (i+1) r.2 h
    | .ct=>I (i+1) r.2 h
    | .bk=>Q (.nx,r.2) h
    | .rt x=>Q (.rt x,r.2) h) (he:∀ env U,I ds.length env U->Q (.nx,env) U):WP (yk nxt b 100000 0 env) U Q:=by
  suffices h:∀ (m i n:Nat) env U,m+i=ds.length->m < n->I i env U->WP (yk nxt b n i env) U Q from h ds.length 0 100000 env U rfl hl h0
  intro m
  induction m with
  | zero =>
    intro i n env U e hn' hI
    have:i=ds.length:=by lia
    subst this
    obtain ⟨n,rfl⟩:∃ k,n=k+1:=⟨n - 1,by lia⟩
    rw [yk,yp]
    refine WP.of (hn _ env U (Ae _) hI) ?_
    rw [show ds[ds.length]?=none by simp]
    exact WP_pure.mpr (he env U hI)
  | succ m ih =>
    intro i n env U e hn' hI
    have hlt:i < ds.length:=by lia
    obtain ⟨n,rfl⟩:∃ k,n=k+1:=⟨n - 1,by lia⟩
    rw [yk,yp]
    refine WP.of (hn i env U (by lia) hI) ?_
    simp only [Ab hlt]
    rw [yp]
    refine (hs i ds[i] (Ab hlt) env U hI).mono fun r h q=>?_
    obtain ⟨fl,env1⟩:=r
    cases fl with
    | nx=>exact ih (i+1) n env1 h (by lia) (by lia) q
    | ct=>exact ih (i+1) n env1 h (by lia) (by lia) q
    | bk=>exact WP_pure.mpr q
    | rt x=>exact WP_pure.mpr q
theorem qN (ds:List DV) (i:Nat) (h:i<=ds.length) (U:Hs):nxD ds i U=some (ds[i]?,U):=by unfold nxD;rw [C9 h];rfl
theorem Qbe {b:DV->DSx} (ds:List DV) (I:Nat->En->Hs->Prop) (hl:ds.length < 100000) (h0:I 0 env U) (hs:∀ (i:Nat) d,ds[i]?=some d->∀ env U,I i env U->WP (b d env) U fun r h=>match r.1 with
  | .nx=>I (i+1) r.2 h
  | .ct=>I (i+1) r.2 h
  | .bk=>Q (.nx,r.2) h
  | .rt x=>Q (.rt x,r.2) h) (he:∀ env U,I ds.length env U->Q (.nx,env) U):WP (yk (nxD ds) b 100000 0 env) U Q :=
 Qda ds I hl (fun i env U h _=>qN ds i h U) h0 hs he
end
theorem vY {nxt:NX} {t:DV->M Bool} {f:DV->M DV} {p:Int->Bool} {g:Int->Int} (ns:List Int) (hn:∀ i,i<=ns.length->nxt i U=some ((ns.map DV.int)[i]?,U)) (ht:∀ x,t (.int x) U=some (p x,U)) (hf:∀ x,f (.int x) U=some (.int (g x),U)) (hl:ns.length < 100000):
    JP nxt t f 100000 0 U=some (((ns.filter p).map g).map .int,U):=by
  suffices h:∀ (m i n:Nat),m+i=ns.length->m < n->JP nxt t f n i U=some ((((ns.drop i).filter p).map g).map .int,U) by simpa using h ns.length 0 100000 rfl hl
  intro m
  induction m with
  | zero =>
    intro i n e hn'
    obtain ⟨n,rfl⟩:∃ k,n=k+1:=⟨n - 1,by lia⟩
    have:i=ns.length:=by lia
    subst this
    have e1:=hn ns.length (Ae _)
    rw [show (ns.map DV.int)[ns.length]?=none by simp] at e1
    rw [JP,Qh e1,List.drop_length]
    rfl
  | succ m ih =>
    intro i n e hn'
    obtain ⟨n,rfl⟩:∃ k,n=k+1:=⟨n - 1,by lia⟩
    have hlt:i < ns.length:=by lia
    have e1:=hn i (by lia)
    rw [Bu,Ab hlt] at e1
    have hi:=ih (i+1) n (by lia) (by lia)
    rw [JP,Qh e1]
    simp only [Option.map_some]
    rw [Qh (ht ns[i]),Bi hlt]
    cases q:p ns[i] with
    | false=>rw [List.filter_cons_of_neg (by simp [q])];simpa using hi
    | true =>
      rw [List.filter_cons_of_pos q]
      simp only [if_true]
      rw [Qh (hf ns[i]),Qh hi]
      rfl
def gH (n:Nat) (U:Hs) (i:Int):drf (n+1) U (.int i)=some (.int i):=rfl
def gI (n:Nat) (U:Hs) (b:Str):drf (n+1) U (.str b)=some (.str b):=rfl
theorem qV {α:Type} {f:α->Option α}:∀ {xs:List α},(∀ x∈xs,f x=some x)->xs.mapM f=some xs
  | [],_=>rfl
  | x::xs,h=>by
    rw [List.mapM_cons,h x (by simp),qV fun y hy=>h y (Ax _ hy)];rfl
theorem gG (h:drf 40 U d=some d'):v9 d U=some (d',U):=by unfold v9;rw [h];rfl
theorem gO (hx:drf 40 U x=some x') (hy:drf 40 U y=some y') (s1:okP x'=true) (s2:okP y'=true):yj x y U=some (PyData.eqv (toP x') (toP y'),U):=by
 unfold yj
 simp only [okP,Bc] at s1 s2
 rw [Qh (gG hx),Qh (gG hy)]
 simp only [s1.2,s2.2,Bool.and_self,Qz,if_true,Eg]
 rfl
def GM (i j:Int) (U:Hs):yj (.int i) (.int j) U=some (i==j,U):=gO (gH 39 U i) (gH 39 U j) (yr i) (yr j)
theorem U3 (p:Key×DV) (r:List (Key×DV)) (j:Key):J0 (p::r) j=if p.1=j then some p.2 else J0 r j:=by
 by_cases e:p.1=j
 ·simp [J0,B8,e]
 ·simp [J0,B8,e]
theorem vb (kvs:List (Key×DV)) (k:Key) (d:DV):(YG kvs k d).length<=kvs.length+1:=by
 unfold YG;split<;>simp
theorem ZX {n:Nat} {U:Hs} (h:U[n]?=some o):Ja n U=some (o,U):=by unfold Ja;rw [h]
theorem jJ {n:Nat} {kvs:List (Key×DV)} {U:Hs} (h:U[n]?=some (.dic kvs)) (hk:YE i=some k) (hl:kvs.length < 100000):xA (.ref n) i d U=some ((),U.set n (.dic (YG kvs k d))):=by
 show (Ja n >>= _) U=_
 rw [Qh (ZX h)]
 have e1:J8 i U=some (k,U):=by unfold J8;rw [hk];rfl
 have e2:Qz (decide (kvs.length < lim)) U=some ((),U):=by rw [show decide (kvs.length < lim)=true from Ed hl];rfl
 show (J8 i >>= fun k=>Qz (decide (kvs.length < lim)) >>= fun _=>xE n (.dic (YG kvs k d))) U=_
 rw [Qh e1,Qh e2];rfl
theorem yw {f:DEx} {g:DGx} (h:f env U=some (d,hp1)) (h':g d env hp1=some (env',hp2)):Xe f g env U=some ((.nx,env'),hp2):=by
 unfold Xe
 rw [Qh h,Qh h'];rfl
theorem Zg {α:Type} {m:M α} {x:α} (h:m=pure x) (U:Hs):m U=some (x,U):=by rw [h];rfl
theorem QcB {c:DTx} {b:Bool} (h:c env U=some (b,hp1)):sIf c f g env U=if b=true then f env hp1 else g env hp1:=by
 unfold sIf
 rw [Qh h]
 cases b<;>rfl
theorem QV {f:DEx} {b:Bool} (h:f env U=some (.bl b,hp1)):eB f env U=some (b,hp1):=by
 unfold eB
 rw [Qh h];rfl
theorem Ql {g:DV->DV->M DV} {f f':DEx} (h:f env U=some (x,hp1)) (h':f' env hp1=some (y,hp2)) (hg:g x y hp2=some (d,hp3)):Qj g f f' env U=some (d,hp3):=by
 unfold Qj
 rw [Qh h,Qh h',hg]
theorem QM {f:DEx} (h:f env U=some (d,hp1)):QG f env U=some ((.rt d,env),hp1):=by
 unfold QG
 rw [Qh h];rfl
theorem Q3 {f g:DSx} (h:f env U=some ((.rt d,env1),hp1)):Qr f g env U=some ((.rt d,env1),hp1):=by
 unfold Qr
 rw [Qh h];rfl
theorem JV {f:DEx} (h:f env U=some (d,hp1)):Z7 f env U=some ((.nx,env),hp1):=by
 unfold Z7
 rw [Qh h];rfl
theorem QI {n:Nat} {body:DSx} {ds:List DV} (h:body (ds.map .val++List.replicate (n - ds.length) .un) U=some ((.rt d,env),hp1)):Q7 n body ds U=some (d,hp1):=by
 unfold Q7
 rw [Qh h];rfl
theorem JH {c:DTx} {b:Bool} (h:c env U=some (b,hp1)):Jo c env U=some (!b,hp1):=by
 unfold Jo
 rw [Qh h];rfl
end D
namespace TS
open PySem PyProof.Rows
def gal:Bool->Keyed->Array Keyed->Nat->Nat->Nat->StateT SortSt Sem (Option Nat):=sortPriv% PySem.Builtin.gallop
def mLo:Array Keyed->Array Keyed->StateT SortSt Sem (Array Keyed):=sortPriv% PySem.Builtin.mergeLo
def mHi:Array Keyed->Array Keyed->StateT SortSt Sem (Array Keyed):=sortPriv% PySem.Builtin.mergeHi
def zY:Nat->StateT SortSt Sem Unit:=sortPriv% PySem.Builtin.setMinGallop
def mAt:Nat->StateT SortSt Sem Bool:=mergeAt'
structure Cmp where
 key:Keyed->Int
 kd:SortKind
 S:Keyed->Prop
 prog:Program
 w:World
 A:Around
 E:Value->Shared->Prop
 s:Shared
 lt:∀ (st:SortSt) (p q:Keyed) (Q:Option Bool->SortSt->Prop),S p->S q->kindOf st=kd->Q (some (decide (key p < key q))) st->wpS (model prog w) A E s (lt' p q) Q st
variable {C:Cmp}
abbrev W (C:Cmp) {σ α:Type} (m:StateT σ Sem α) (Q:α->σ->Prop) (st:σ):Prop:=wpS (model C.prog C.w) C.A C.E C.s m Q st
def kx (C:Cmp) (xs:Array Keyed) (i:Nat):Int:=((xs[i]?).map C.key).getD 0
structure Ok (C:Cmp) (st:SortSt):Prop where
 kind:kindOf st=C.kd
 fine:failedOf st=none
 mem:∀ p∈(arrOf st).toList,C.S p
theorem Zr {xs:Array Keyed} {i:Nat} {Q:Keyed->SortSt->Prop} {st:SortSt} (hi:i < xs.size) (h:Q xs[i] st):W C (elem' xs i) Q st:=by
 rw [elem'_eq,getElem?_pos xs i hi];exact Ec h
theorem Jp (xs:Array Keyed) {i:Nat} (hi:i < xs.size):kx C xs i=C.key xs[i]:=by unfold kx;rw [getElem?_pos xs i hi];rfl
theorem xq {st:SortSt} {i j:Nat} {Q:Option Bool->SortSt->Prop} (g:Ok C st) (hi:i < (arrOf st).size) (hj:j < (arrOf st).size) (h:Q (some (decide (kx C (arrOf st) i < kx C (arrOf st) j))) st):W C (ltAt' i j) Q st:=by
 rw [ltAt'_eq]
 refine Eb (wpS_get (Eb (Zr hi (Eb (Zr hj ?_)))))
 refine C.lt st _ _ Q (g.mem _ (by simp)) (g.mem _ (by simp)) g.kind ?_
 rw [<- Jp _ hi,<- Jp _ hj];exact h
theorem Qfj (left:Bool) (key:Keyed) (arr:Array Keyed) (O8 n hint:Nat):gal left key arr O8 n hint=(do
  let bey (i:Nat):StateT SortSt Sem (Option Bool):=do
   let x <- elem' arr (O8+i)
   if left then lt' x key else return (<- lt' key x).map (!·)
  let mut last:=0
  let mut ofs:=1
  let mut lo:=0
  let mut hi:=0
  let some right <- bey hint | return none
  if right then
   let most:=n - hint
   for _ in [0:n] do
    if ofs≥most then break
    let some more <- bey (hint+ofs) | return none
    if !more then break
    last:=ofs
    ofs:=2 * ofs+1
   lo:=hint+last+1
   hi:=hint+min ofs most
  else
   let most:=hint+1
   for _ in [0:n] do
    if ofs≥most then break
    let some found <- bey (hint - ofs) | return none
    if found then break
    last:=ofs
    ofs:=2 * ofs+1
   lo:=hint+1 - min ofs most
   hi:=hint - last
  for _ in [0:n] do
   if lo≥hi then break
   let m:=lo+(hi - lo) / 2
   let some more <- bey m | return none
   if more then lo:=m+1 else hi:=m
  return some hi):=rfl
def Qe3 (left:Bool) (key:Keyed) (arr:Array Keyed) (O8 i:Nat):StateT SortSt Sem (Option Bool):=do
 let x <- elem' arr (O8+i)
 if left then lt' x key else return (<- lt' key x).map (!·)
def QgD (left:Bool) (key:Keyed) (arr:Array Keyed) (O8 n l h:Nat):StateT SortSt Sem (Option Nat):=do
 let mut lo:=l
 let mut hi:=h
 for _ in [0:n] do
  if lo≥hi then break
  let m:=lo+(hi - lo) / 2
  let some more <- Qe3 left key arr O8 m | return none
  if more then lo:=m+1 else hi:=m
 return some hi
theorem YF {left:Bool} {key:Keyed} {arr:Array Keyed} {O8 n hint:Nat} {Q:Option Nat->SortSt->Prop} {st:SortSt} (T:Nat->Bool) (hk:kindOf st=C.kd) (hkey:C.S key) (hS:∀ p∈arr.toList,C.S p) (hb:O8+n<=arr.size) (hh:hint < n)
    (hT:∀ i,i < n->T i=if left then decide (kx C arr (O8+i) < C.key key) else !decide (C.key key < kx C arr (O8+i))) (mono:∀ i j,i<=j->j < n->T j=true->T i=true)
    (h:∀ hi,hi<=n->(∀ i,i < hi->T i=true)->(∀ i,hi<=i->i < n->T i=false)->Q (some hi) st):W C (gal left key arr O8 n hint) Q st:=by
  have bey:∀ (i:Nat) (R:Option Bool->SortSt->Prop),i < n->R (some (T i)) st->W C (Qe3 left key arr O8 i) R st:=by
    intro i R hi hR
    have hlt:O8+i < arr.size:=by lia
    unfold Qe3
    refine Eb (Zr hlt ?_)
    have hm:C.S arr[O8+i]:=hS _ (by simp)
    rw [hT i hi,Jp _ hlt] at hR
    cases left with
    | true =>
      simp only [if_true] at hR ⊢
      exact C.lt st _ _ R hm hkey hk hR
    | false =>
      simp only [Az,if_false] at hR ⊢
      exact Eb (C.lt st _ _ _ hkey hm hk (Ec hR))
  have bin:∀ lo hi,lo<=hi->hi<=n->(∀ i,i < lo->T i=true)->(∀ i,hi<=i->i < n->T i=false)->W C (QgD left key arr O8 n lo hi) Q st:=by
    intro lo hi hlh hin hl hr
    unfold QgD
    dsimp only
    refine Eb (wpS_mono (wpS_forRange (I:=fun x c st'=>st'=st/\∃ lo hi,c=(none,lo,hi)/\lo<=hi/\hi<=n/\hi - lo<=n - x/\(∀ i,i < lo->T i=true)/\(∀ i,hi<=i->i < n->T i=false))
      (Q:=fun c st'=>st'=st/\∃ hi lo,c=(none,lo,hi)/\hi<=n/\(∀ i,i < hi->T i=true)/\(∀ i,hi<=i->i < n->T i=false)) ?step ?fin ⟨rfl,lo,hi,rfl,hlh,hin,by lia,hl,hr⟩) ?post)
    case post =>
      rintro c st' ⟨rfl,hi,lo,rfl,h1,h2,h3⟩
      exact Ec (h hi h1 h2 h3)
    case fin =>
      rintro c st' ⟨rfl,lo,hi,rfl,h1,h2,h3,h4,h5⟩
      have:lo=hi:=by lia
      subst this
      exact ⟨rfl,lo,lo,rfl,h2,h4,h5⟩
    case step =>
      rintro x c st' _ hx ⟨rfl,lo,hi,rfl,h1,h2,h3,h4,h5⟩
      dsimp only
      by_cases q:lo≥hi
      . rw [C9 q]
        have:lo=hi:=by lia
        subst this
        exact Ec ⟨rfl,lo,lo,rfl,h2,h4,h5⟩
      . rw [C8 q]
        refine Eb (bey _ _ (by lia) ?_)
        dsimp only
        cases hm:T (lo+(hi - lo) / 2) with
        | true =>
          simp only [if_true]
          refine Ec ⟨rfl,_,hi,rfl,by lia,h2,by lia,fun i hi'=>?_,h5⟩
          exact mono i (lo+(hi - lo) / 2) (by lia) (by lia) hm
        | false =>
          simp only [Az,if_false]
          refine Ec ⟨rfl,lo,_,rfl,by lia,by lia,by lia,h4,fun i h6 h7=>?_⟩
          cases ht:T i with
          | false=>rfl
          | true=>rw [mono _ i h6 h7 ht] at hm;cases hm
  rw [Qfj]
  dsimp only
  refine Eb (bey hint _ hh ?_)
  dsimp only
  cases hr:T hint with
  | true =>
    simp only [if_true]
    refine Eb (wpS_mono (wpS_forRange (I:=fun x c st'=>st'=st/\∃ last ofs,c=(none,last,ofs)/\last < ofs/\x+1<=ofs/\hint+last < n/\T (hint+last)=true)
      (Q:=fun c st'=>st'=st/\∃ last ofs,c=(none,last,ofs)/\last < ofs/\hint+last < n/\T (hint+last)=true/\(n - hint<=ofs∨T (hint+ofs)=false)) ?step ?fin ⟨rfl,0,1,rfl,by lia,by lia,by lia,hr⟩) ?post)
    case fin =>
      rintro c st' ⟨rfl,last,ofs,rfl,h1,h2,h3,h4⟩
      exact ⟨rfl,last,ofs,rfl,h1,h3,h4,.inl (by lia)⟩
    case step =>
      rintro x c st' _ hx ⟨rfl,last,ofs,rfl,h1,h2,h3,h4⟩
      dsimp only
      by_cases q:ofs≥n - hint
      . rw [C9 q]
        exact Ec ⟨rfl,last,ofs,rfl,h1,h3,h4,.inl q⟩
      . rw [C8 q]
        refine Eb (bey _ _ (by lia) ?_)
        dsimp only
        cases hm:T (hint+ofs) with
        | true =>
          simp only [Bool.not_true,Az,if_false]
          exact Ec ⟨rfl,ofs,2 * ofs+1,rfl,by lia,by lia,by lia,hm⟩
        | false =>
          simp only [Bool.not_false,if_true]
          exact Ec ⟨rfl,last,ofs,rfl,h1,h3,h4,.inr hm⟩
    case post =>
      rintro c st' ⟨rfl,last,ofs,rfl,h1,h2,h3,h4⟩
      dsimp only
      refine bin (hint+last+1) (hint+min ofs (n - hint)) (by lia) (by lia) (fun i hi=>mono i (hint+last) (by lia) h2 h3) fun i h5 h6=>?_
      rcases h4 with q | q
      . lia
      . cases ht:T i with
        | false=>rfl
        | true=>rw [mono _ i (by lia) h6 ht] at q;cases q
  | false =>
    simp only [Az,if_false]
    refine Eb (wpS_mono (wpS_forRange (I:=fun x c st'=>st'=st/\∃ last ofs,c=(none,last,ofs)/\last < ofs/\x+1<=ofs/\last<=hint/\T (hint - last)=false)
      (Q:=fun c st'=>st'=st/\∃ last ofs,c=(none,last,ofs)/\last < ofs/\last<=hint/\T (hint - last)=false/\(hint+1<=ofs∨(ofs<=hint/\T (hint - ofs)=true))) ?step ?fin ⟨rfl,0,1,rfl,by lia,by lia,by lia,hr⟩) ?post)
    case fin =>
      rintro c st' ⟨rfl,last,ofs,rfl,h1,h2,h3,h4⟩
      exact ⟨rfl,last,ofs,rfl,h1,h3,h4,.inl (by lia)⟩
    case step =>
      rintro x c st' _ hx ⟨rfl,last,ofs,rfl,h1,h2,h3,h4⟩
      dsimp only
      by_cases q:ofs≥hint+1
      . rw [C9 q]
        exact Ec ⟨rfl,last,ofs,rfl,h1,h3,h4,.inl q⟩
      . rw [C8 q]
        refine Eb (bey _ _ (by lia) ?_)
        dsimp only
        cases hm:T (hint - ofs) with
        | true =>
          simp only [if_true]
          exact Ec ⟨rfl,last,ofs,rfl,h1,h3,h4,.inr ⟨by lia,hm⟩⟩
        | false =>
          simp only [Az,if_false]
          exact Ec ⟨rfl,ofs,2 * ofs+1,rfl,by lia,by lia,by lia,hm⟩
    case post =>
      rintro c st' ⟨rfl,last,ofs,rfl,h1,h2,h3,h4⟩
      dsimp only
      refine bin (hint+1 - min ofs (hint+1)) (hint - last) (by lia) (by lia) (fun i hi=>?_) fun i h5 h6=>?_
      . rcases h4 with q | ⟨q1,q2⟩
        . lia
        . exact mono i (hint - ofs) (by lia) (by lia) q2
      . cases ht:T i with
        | false=>rfl
        | true=>rw [mono _ i h5 h6 ht] at h3;cases h3
variable {C:Cmp}
def Srt (C:Cmp) (l:List Keyed):Prop:=l.Pairwise fun p q=>C.key p<=C.key q
def Sm (st st':SortSt):Prop:=kindOf st'=kindOf st/\arrOf st'=arrOf st/\pendingOf st'=pendingOf st/\failedOf st'=failedOf st
def Sm.refl (st:SortSt):Sm st st:=⟨rfl,rfl,rfl,rfl⟩
theorem jR {g:Nat} {st₀ st:SortSt} {Q:Unit->SortSt->Prop} (hs:Sm st₀ st) (h:∀ st',Sm st₀ st'->Q () st'):W C (zY g) Q st:=by
 show W C (modify (fun s=>SortSt.mk' (kindOf s) (arrOf s) (pendingOf s) g (failedOf s)):StateT SortSt Sem Unit) Q st
 exact wpS_modify (h _ hs)
def xB {x:String} {st:SortSt} {Q:Unit->SortSt->Prop} (h:Q () st):W C (liftM (rule x):StateT SortSt Sem Unit) Q st:=wpS_lift (wpAny_rule ⟨rfl,h⟩)
structure MI (C:Cmp) (A B out:List Keyed) (i j:Nat):Prop where
 perm:(out++(A.drop i++B.drop j)).Perm (A++B)
 srt:Srt C out
 low:∀ x∈out,∀ y∈A.drop i++B.drop j,C.key x<=C.key y
section
variable {A B out:List Keyed} {i j:Nat}
def Srt.drop (h:Srt C A) (n:Nat):Srt C (A.drop n):=List.Pairwise.sublist (List.drop_sublist _ _) h
def Srt.take (h:Srt C A) (n:Nat):Srt C (A.take n):=List.Pairwise.sublist (List.take_sublist _ _) h
def Srt.app (h:Srt C A) (h':Srt C B) (hb:∀ x∈A,∀ y∈B,C.key x<=C.key y):Srt C (A++B):=Bv.mpr ⟨h,h',hb⟩
theorem MI.takeA (m:MI C A B out i j) (hA:Srt C A) (k:Nat) (h:∀ x∈(A.drop i).take k,∀ y∈B.drop j,C.key x<=C.key y):MI C A B (out++(A.drop i).take k) (i+k) j:=by
 have e:A.drop i=(A.drop i).take k++A.drop (i+k):=by rw [<- Cu,B0]
 have hd:=hA.drop i
 rw [e] at hd
 obtain ⟨_,_,h3⟩:=Bv.mp hd
 refine ⟨?_,m.srt.app ((hA.drop i).take k) fun x hx y hy=>m.low x hx y (A7 _ (Bx hy)),fun x hx y hy=>?_⟩
 ·have:=m.perm
  rw [e] at this
  simpa [A8] using this
 ·rcases Ai.mp hx with q | q
  ·refine m.low x q y ?_
   rcases Ai.mp hy with z | z
   ·exact A7 _ (by rw [e];exact Aj _ z)
   ·exact Aj _ z
  ·rcases Ai.mp hy with z | z
   ·exact h3 x q y z
   ·exact h x q y z
theorem MI.takeB (m:MI C A B out i j) (hB:Srt C B) (k:Nat) (h:∀ x∈(B.drop j).take k,∀ y∈A.drop i,C.key x<=C.key y):MI C A B (out++(B.drop j).take k) i (j+k):=by
 have e:B.drop j=(B.drop j).take k++B.drop (j+k):=by rw [<- Cu,B0]
 have hd:=hB.drop j
 rw [e] at hd
 obtain ⟨_,_,h3⟩:=Bv.mp hd
 refine ⟨?_,m.srt.app ((hB.drop j).take k) fun x hx y hy=>m.low x hx y (Aj _ (Bx hy)),fun x hx y hy=>?_⟩
 ·refine List.Perm.trans ?_ m.perm
  rw [A8]
  refine List.Perm.append_left _ ?_
  generalize (B.drop j).take k=ch at e ⊢
  rw [e,<- A8,<- A8]
  exact List.Perm.append_right _ List.perm_append_comm
 ·rcases Ai.mp hx with q | q
  ·refine m.low x q y ?_
   rcases Ai.mp hy with z | z
   ·exact A7 _ z
   ·exact Aj _ (by rw [e];exact Aj _ z)
  ·rcases Ai.mp hy with z | z
   ·exact h x q y z
   ·exact h3 x q y z
def Fin (C:Cmp) (A B r:List Keyed):Prop:=Srt C r/\r.Perm (A++B)
theorem MI.endB (m:MI C A B out i j) (hA:Srt C A) (h:B.length<=j):Fin C A B (out++A.drop i++B.drop j):=by
 have e:B.drop j=[]:=Cn h
 refine ⟨?_,by have:=m.perm;simpa [A8] using this⟩
 rw [e,Bt]
 exact m.srt.app (hA.drop i) fun x hx y hy=>m.low x hx y (A7 _ hy)
theorem MI.endA (m:MI C A B out i j) (hB:Srt C B) (h:A.length<=i):Fin C A B (out++A.drop i++B.drop j):=by
 have e:A.drop i=[]:=Cn h
 refine ⟨?_,by have:=m.perm;simpa [A8] using this⟩
 rw [e,Bt]
 exact m.srt.app (hB.drop j) fun x hx y hy=>m.low x hx y (Aj _ hy)
theorem MI.lastA (m:MI C A B out i j) (hA:Srt C A) (hB:Srt C B) (hl:∀ x∈A.drop (A.length - 1),∀ y∈B,C.key y<=C.key x) (h:i+1=A.length):Fin C A B (out++B.drop j++A.drop i):=by
 have e:A.length - 1=i:=by lia
 rw [e] at hl
 refine ⟨?_,?_⟩
 ·refine (m.srt.app (hB.drop j) fun x hx y hy=>m.low x hx y (Aj _ hy)).app (hA.drop i) fun x hx y hy=>?_
  rcases Ai.mp hx with q | q
  ·exact m.low x q y (A7 _ hy)
  ·exact hl y hy x (Cd q)
 ·refine List.Perm.trans ?_ m.perm
  rw [A8]
  exact List.Perm.append_left _ List.perm_append_comm
end
theorem QfA (a b:Array Keyed):mLo a b=(do
  rule "list.sort.merge-lo"
  let all:=a.size+b.size
  let fin (res:Array Keyed) (i j:Nat):=res++a.extract i a.size++b.extract j b.size
  let lst (res:Array Keyed) (i j:Nat):=res++b.extract j b.size++a.extract i a.size
  let mut res:Array Keyed:=#[<- elem' b 0]
  let mut i:=0
  let mut j:=1
  if j==b.size then return fin res i j
  if i+1==a.size then return lst res i j
  let mut mg:=gallopOf (<- get)
  for _ in [0:all] do
   let mut ac:=0
   let mut bc:=0
   for _ in [0:all] do
    let some bw <- lt' (<- elem' b j) (<- elem' a i) | return fin res i j
    if bw then
     res:=res.push (<- elem' b j);j:=j+1;bc:=bc+1;ac:=0
     if j==b.size then return fin res i j
     if bc≥mg then break
    else
     res:=res.push (<- elem' a i);i:=i+1;ac:=ac+1;bc:=0
     if i+1==a.size then return lst res i j
     if ac≥mg then break
   rule "list.sort.gallop"
   mg:=mg+1
   for _ in [0:all] do
    if mg > 1 then mg:=mg - 1
    zY mg
    let some k <- gal false (<- elem' b j) a i (a.size - i) 0 | return fin res i j
    ac:=k
    if k > 0 then
     res:=res++a.extract i (i+k);i:=i+k
     if i+1==a.size then return lst res i j
     if i==a.size then return fin res i j
    res:=res.push (<- elem' b j);j:=j+1
    if j==b.size then return fin res i j
    let some k <- gal true (<- elem' a i) b j (b.size - j) 0 | return fin res i j
    bc:=k
    if k > 0 then
     res:=res++b.extract j (j+k);j:=j+k
     if j==b.size then return fin res i j
    res:=res.push (<- elem' a i);i:=i+1
    if i+1==a.size then return lst res i j
    if ac < 7&&bc < 7 then break
   mg:=mg+1
   zY mg
  unsupported "internal:list.sort.merge-bound"):=rfl
abbrev GS:=Option (Array Keyed)×Array Keyed×Nat×Nat×Nat×Nat×Nat
def lo4 (a b:Array Keyed) (mg ac bc:Nat) (res:Array Keyed) (i j:Nat):StateT SortSt Sem (ForInStep GS):=do
 let x <- elem' a i
 if (i+1+1==a.size)=true then pure (.done (some (res.push x++b.extract j b.size++a.extract (i+1) a.size),res.push x,i+1,j,mg,ac,bc))
 else if (decide (ac < 7)&&decide (bc < 7))=true then pure (.done (none,res.push x,i+1,j,mg,ac,bc)) else pure (.yield (none,res.push x,i+1,j,mg,ac,bc))
def lo3 (a b:Array Keyed) (mg ac bc:Nat) (res:Array Keyed) (i j:Nat):StateT SortSt Sem (ForInStep GS):=do
 let y <- elem' a i
 let z <- gal true y b j (b.size - j) 0
 match z with
 | some k=>(if k > 0 then (if (j+k==b.size)=true then pure (.done (some (res++b.extract j (j+k)++a.extract i a.size++b.extract (j+k) b.size),res++b.extract j (j+k),i,j+k,mg,ac,k)) else lo4 a b mg ac k (res++b.extract j (j+k)) i (j+k)) else lo4 a b mg ac k res i j:StateT SortSt Sem (ForInStep GS))
 | _=>pure (.done (some (res++a.extract i a.size++b.extract j b.size),res,i,j,mg,ac,bc))
def lo2 (a b:Array Keyed) (mg ac bc:Nat) (res:Array Keyed) (i j:Nat):StateT SortSt Sem (ForInStep GS):=do
 let y <- elem' b j
 if (j+1==b.size)=true then pure (.done (some (res.push y++a.extract i a.size++b.extract (j+1) b.size),res.push y,i,j+1,mg,ac,bc))
 else lo3 a b mg ac bc (res.push y) i (j+1)
def lo1 (a b:Array Keyed) (mg ac bc:Nat) (res:Array Keyed) (i j:Nat):StateT SortSt Sem (ForInStep GS):=do
 zY mg
 let y <- elem' b j
 let z <- gal false y a i (a.size - i) 0
 match z with
 | some k=>(if k > 0 then (if (i+k+1==a.size)=true then pure (.done (some (res++a.extract i (i+k)++b.extract j b.size++a.extract (i+k) a.size),res++a.extract i (i+k),i+k,j,mg,k,bc))
   else if (i+k==a.size)=true then pure (.done (some (res++a.extract i (i+k)++a.extract (i+k) a.size++b.extract j b.size),res++a.extract i (i+k),i+k,j,mg,k,bc))
   else lo2 a b mg k bc (res++a.extract i (i+k)) (i+k) j) else lo2 a b mg k bc res i j:StateT SortSt Sem (ForInStep GS))
 | _=>pure (.done (some (res++a.extract i a.size++b.extract j b.size),res,i,j,mg,ac,bc))
section
variable {a b res:Array Keyed} {i j k:Nat}
theorem Xh (a:Array Keyed) (i:Nat):(a.extract i a.size).toList=a.toList.drop i:=by
 simp [Array.toList_extract,List.extract_eq_take_drop]
 exact Ci (by simp)
theorem UA (a:Array Keyed) (i k:Nat):(a.extract i (i+k)).toList=(a.toList.drop i).take k:=by
 simp [Array.toList_extract,List.extract_eq_take_drop]
theorem XO (a:Array Keyed) {i:Nat} (h:i < a.size):(a.toList.drop i).take 1=[a[i]]:=by
 rw [Bi (by simpa using h)];simp
theorem qK {x:Keyed} (h:x∈(a.toList.drop i).take k):∃ t,t < k/\∃ q:i+t < a.size,x=a[i+t]:=by
 obtain ⟨t,ht,e⟩:=List.getElem_of_mem h
 have h1:t < k:=by simp at ht;lia
 have h2:i+t < a.size:=by simp at ht;lia
 exact ⟨t,h1,h2,by rw [<- e];simp [Cy,List.getElem_drop]⟩
theorem xr {x:Keyed} (h:x∈a.toList.drop i):∃ t,i<=t/\∃ q:t < a.size,x=a[t]:=by
 obtain ⟨t,ht,e⟩:=List.getElem_of_mem h
 have h2:i+t < a.size:=by simp at ht;lia
 exact ⟨i+t,by lia,h2,by rw [<- e];simp [List.getElem_drop]⟩
theorem Y9 (h:Srt C a.toList) {s t:Nat} (hst:s<=t) (ht:t < a.size):C.key (a[s]'(by lia))<=C.key a[t]:=by
 rcases Bh s t with q | q
 ·have:=List.pairwise_iff_getElem.mp h s t (by simp;lia) (by simpa using ht) q
  simpa using this
 ·have:s=t:=by lia
  subst this;exact Bo _
theorem VM (h:Srt C a.toList) {s t:Nat} (hst:s<=t) (ht:t < a.size):kx C a s<=kx C a t:=by
 rw [Jp a (by lia),Jp a ht];exact Y9 h hst ht
end
structure Two (C:Cmp) (a b:Array Keyed):Prop where
 sa:Srt C a.toList
 sb:Srt C b.toList
 ma:∀ p∈a.toList,C.S p
 mb:∀ p∈b.toList,C.S p
 na:1<=a.size
 nb:1<=b.size
 first:∀ y∈a.toList,∀ x∈b.toList.take 1,C.key x<=C.key y
 last:∀ x∈a.toList.drop (a.size - 1),∀ y∈b.toList,C.key y<=C.key x
section
variable {a b:Array Keyed} {st₀:SortSt} {n0:Nat}
def Gf (C:Cmp) (a b:Array Keyed) (st₀:SortSt) (r:Option (Array Keyed)) (st':SortSt):Prop:=Sm st₀ st'/\∃ x,r=some x/\Fin C a.toList b.toList x.toList
def GoG (C:Cmp) (a b:Array Keyed) (st₀:SortSt) (n0:Nat) (r:Option (Array Keyed)) (res:Array Keyed) (i j:Nat) (st':SortSt):Prop:=Sm st₀ st'/\r=none/\MI C a.toList b.toList res.toList i j/\i+1 < a.size/\j < b.size/\n0 < i+j
def gq (C:Cmp) (a b:Array Keyed) (st₀:SortSt) (n0:Nat) (r:ForInStep GS) (st':SortSt):Prop:=match r with
 | .done c=>Gf C a b st₀ c.1 st'∨GoG C a b st₀ n0 c.1 c.2.1 c.2.2.1 c.2.2.2.1 st'
 | .yield c=>GoG C a b st₀ n0 c.1 c.2.1 c.2.2.1 c.2.2.2.1 st'
variable {mg ac bc i j:Nat} {res:Array Keyed} {st:SortSt}
theorem QeO (T:Two C a b) (hs:Sm st₀ st) (m:MI C a.toList b.toList res.toList i j) (hi:i+1 < a.size) (hj:j < b.size) (hn:n0<=i+j) (hc:∀ y∈b.toList.drop j,C.key (a[i]'(by lia))<=C.key y):W C (lo4 a b mg ac bc res i j) (gq C a b st₀ n0) st:=by
 have hi':i < a.size:=by lia
 refine Eb (Zr hi' ?_)
 have m':=m.takeA T.sa 1 (fun x hx y hy=>by rw [XO a hi'] at hx;rw [Ar.mp hx];exact hc y hy)
 rw [XO a hi',<- Array.toList_push] at m'
 by_cases q:i+1+1=a.size
 ·rw [C9 (by simpa using q)]
  refine Ec (.inl ⟨hs,_,rfl,?_⟩)
  rw [Ag,Ag,Xh,Xh]
  exact m'.lastA T.sa T.sb (by simpa using T.last) (by simpa using q)
 ·rw [C8 (by simpa using q)]
  have g:GoG C a b st₀ n0 none (res.push a[i]) (i+1) j st:=⟨hs,rfl,m',by lia,hj,by lia⟩
  split
  ·exact Ec (.inr g)
  ·exact Ec g
theorem QgW (T:Two C a b) (hk:kindOf st=C.kd) (hs:Sm st₀ st) (m:MI C a.toList b.toList res.toList i j) (hi:i+1 < a.size) (hj:j < b.size) (hn:n0<=i+j):W C (lo3 a b mg ac bc res i j) (gq C a b st₀ n0) st:=by
 have hi':i < a.size:=by lia
 refine Eb (Zr hi' (Eb (YF (fun t=>decide (kx C b (j+t) < C.key a[i])) hk (T.ma _ (by simp)) T.mb (by lia) (by lia) (fun t _=>rfl) (fun s t h1 h2 h3=>?_) fun k h1 h2 h3=>?_)))
 ·exact Ed (Int.lt_of_le_of_lt (VM T.sb (by lia) (by lia)) (Ee h3))
 ·dsimp only
  have lowc:∀ x∈(b.toList.drop j).take k,C.key x < C.key a[i]:=fun x hx=>by
   obtain ⟨t,ht,q,rfl⟩:=qK hx
   have:=Ee (h2 t ht)
   rwa [Jp b q] at this
  have m':=m.takeB T.sb k (fun x hx y hy=>by
   obtain ⟨t,ht,q,rfl⟩:=xr hy
   have:=lowc x hx
   have:=Y9 T.sa ht q
   lia)
  have hc:∀ y∈b.toList.drop (j+k),C.key a[i]<=C.key y:=fun y hy=>by
   obtain ⟨t,ht,q,rfl⟩:=xr hy
   have:=of_decide_eq_false (h3 (t - j) (by lia) (by lia))
   rw [show j+(t - j)=t by lia,Jp b q] at this
   lia
  by_cases hk0:k > 0
  ·rw [C9 hk0]
   by_cases q:j+k=b.size
   ·rw [C9 (by simpa using q)]
    refine Ec (.inl ⟨hs,_,rfl,?_⟩)
    rw [Ag,Ag,Ag,Xh,Xh,UA]
    exact m'.endB T.sa (by simp;lia)
   ·rw [C8 (by simpa using q)]
    refine QeO T hs ?_ hi (by lia) (by lia) hc
    rw [Ag,UA];exact m'
  ·rw [C8 hk0]
   have:k=0:=by lia
   subst this
   exact QeO T hs m hi hj hn hc
theorem QeN (T:Two C a b) (hk:kindOf st=C.kd) (hs:Sm st₀ st) (m:MI C a.toList b.toList res.toList i j) (hi:i+1 < a.size) (hj:j < b.size) (hn:n0<=i+j) (hc:∀ y∈a.toList.drop i,C.key b[j]<=C.key y):W C (lo2 a b mg ac bc res i j) (gq C a b st₀ n0) st:=by
 refine Eb (Zr hj ?_)
 have m':=m.takeB T.sb 1 (fun x hx y hy=>by rw [XO b hj] at hx;rw [Ar.mp hx];exact hc y hy)
 rw [XO b hj,<- Array.toList_push] at m'
 by_cases q:j+1=b.size
 ·rw [C9 (by simpa using q)]
  refine Ec (.inl ⟨hs,_,rfl,?_⟩)
  rw [Ag,Ag,Xh,Xh]
  exact m'.endB T.sa (by simp;lia)
 ·rw [C8 (by simpa using q)]
  exact QgW T hk hs m' hi (by lia) (by lia)
theorem QgV (T:Two C a b) (hk:kindOf st₀=C.kd) (hs:Sm st₀ st) (m:MI C a.toList b.toList res.toList i j) (hi:i+1 < a.size) (hj:j < b.size) (hn:n0<=i+j):W C (lo1 a b mg ac bc res i j) (gq C a b st₀ n0) st:=by
 refine Eb (jR hs fun st hs=>?_)
 have hk':kindOf st=C.kd:=hs.1.trans hk
 refine Eb (Zr hj (Eb (YF (fun t=>!decide (C.key b[j] < kx C a (i+t))) hk' (T.mb _ (by simp)) T.ma (by lia) (by lia) (fun t _=>rfl) (fun s t h1 h2 h3=>?_) fun k h1 h2 h3=>?_)))
 ·have q:=VM T.sa (show i+s<=i+t by lia) (by lia)
  simp only [Cq,decide_eq_false_iff_not] at h3 ⊢
  lia
 ·dsimp only
  have lowc:∀ x∈(a.toList.drop i).take k,C.key x<=C.key b[j]:=fun x hx=>by
   obtain ⟨t,ht,q,rfl⟩:=qK hx
   have:=h2 t ht
   simp only [Cq,decide_eq_false_iff_not] at this
   rw [Jp a q] at this
   lia
  have m':=m.takeA T.sa k (fun x hx y hy=>by
   obtain ⟨t,ht,q,rfl⟩:=xr hy
   have:=lowc x hx
   have:=Y9 T.sb ht q
   lia)
  have hc:∀ y∈a.toList.drop (i+k),C.key b[j]<=C.key y:=fun y hy=>by
   obtain ⟨t,ht,q,rfl⟩:=xr hy
   have:=h3 (t - i) (by lia) (by lia)
   simp only [Bool.not_eq_false',decide_eq_true_eq] at this
   rw [show i+(t - i)=t by lia,Jp a q] at this
   lia
  by_cases hk0:k > 0
  ·rw [C9 hk0]
   by_cases q:i+k+1=a.size
   ·rw [C9 (by simpa using q)]
    refine Ec (.inl ⟨hs,_,rfl,?_⟩)
    rw [Ag,Ag,Ag,Xh,Xh,UA]
    exact m'.lastA T.sa T.sb (by simpa using T.last) (by simpa using q)
   ·rw [C8 (by simpa using q)]
    by_cases q2:i+k=a.size
    ·rw [C9 (by simpa using q2)]
     refine Ec (.inl ⟨hs,_,rfl,?_⟩)
     rw [Ag,Ag,Ag,Xh,Xh,UA]
     exact m'.endA T.sb (by simp;lia)
    ·rw [C8 (by simpa using q2)]
     refine QeN T hk' hs ?_ (by lia) hj (by lia) hc
     rw [Ag,UA];exact m'
  ·rw [C8 hk0]
   have:k=0:=by lia
   subst this
   exact QeN T hk' hs m hi hj hn hc
end
variable {C:Cmp} {a b:Array Keyed}
theorem mi0 (T:Two C a b):MI C a.toList b.toList [b[0]'T.nb] 0 1:=by
 have m:MI C a.toList b.toList [] 0 0:=⟨by simp,List.Pairwise.nil,fun x hx=>by simp at hx⟩
 have:=m.takeB T.sb 1 (fun x hx y hy=>T.first y (by simpa using hy) x (by simpa using hx))
 rw [XO b T.nb] at this
 simpa using this
theorem QgZ {st:SortSt} {Q:Array Keyed->SortSt->Prop} (T:Two C a b) (hk:kindOf st=C.kd) (h:∀ r st',Sm st st'->Fin C a.toList b.toList r.toList->Q r st'):W C (mLo a b) Q st:=by
  have na:=T.na
  have nb:=T.nb
  have m0:=mi0 T
  rw [QfA]
  dsimp only
  refine Eb (xB (Eb (Zr T.nb ?_)))
  by_cases q:1=b.size
  . rw [C9 (by simpa using q)]
    refine Ec (h _ st (Sm.refl _) ?_)
    rw [Ag,Ag,Xh,Xh]
    exact m0.endB T.sa (by simp;lia)
  rw [C8 (by simpa using q)]
  by_cases q:0+1=a.size
  . rw [C9 (by simpa using q)]
    refine Ec (h _ st (Sm.refl _) ?_)
    rw [Ag,Ag,Xh,Xh]
    exact m0.lastA T.sa T.sb (by simpa using T.last) (by simpa using q)
  rw [C8 (by simpa using q)]
  refine Eb (wpS_get ?_)
  refine Eb (wpS_mono (wpS_forRange (I:=fun x c st'=>∃ res i j mg,c=(none,res,i,j,mg)/\GoG C a b st x none res i j st') (Q:=fun c st'=>Gf C a b st c.1 st') ?step ?fin ⟨_,_,_,_,rfl,Sm.refl _,rfl,m0,by lia,by lia,by lia⟩) ?post)
  case post =>
    rintro ⟨c1,c2⟩ st' ⟨hs,x,rfl,hf⟩
    exact Ec (h x st' hs hf)
  case fin =>
    rintro c st' ⟨res,i,j,mg,rfl,hs,_,m,h1,h2,h3⟩
    lia
  case step =>
    rintro x c st' _ hx ⟨res,i,j,mg,rfl,hs,_,m,h1,h2,h3⟩
    dsimp only
    refine Eb (wpS_mono (wpS_forRange (I:=fun y c st''=>∃ res i j ac bc,c=(none,res,i,j,ac,bc)/\GoG C a b st (x+y) none res i j st'')
      (Q:=fun c st''=>Gf C a b st c.1 st''∨∃ res i j ac bc,c=(none,res,i,j,ac,bc)/\GoG C a b st (x+1) none res i j st'') ?step1 ?fin1 ⟨_,_,_,_,_,rfl,hs,rfl,m,h1,h2,h3⟩) ?post1)
    case fin1 =>
      rintro c st'' ⟨res,i,j,ac,bc,rfl,hs,_,m,h1,h2,h3⟩
      lia
    case step1 =>
      rintro y c st'' _ hy ⟨res,i,j,ac,bc,rfl,hs,_,m,h1,h2,h3⟩
      dsimp only
      have hi:i < a.size:=by lia
      refine Eb (Zr h2 (Eb (Zr hi (Eb (C.lt st'' _ _ _ (T.mb _ (by simp)) (T.ma _ (by simp)) (hs.1.trans hk) ?_)))))
      dsimp only
      by_cases hlt:C.key b[j] < C.key a[i]
      . simp only [hlt,decide_true,if_true]
        refine Eb (Zr h2 ?_)
        have m':=m.takeB T.sb 1 (fun x hx y hy=>by
          rw [XO b h2] at hx;rw [Ar.mp hx]
          obtain ⟨t,ht,q,rfl⟩:=xr hy
          have:=Y9 T.sa ht q
          lia)
        rw [XO b h2,<- Array.toList_push] at m'
        by_cases q:j+1=b.size
        . rw [C9 (by simpa using q)]
          refine Ec (.inl ⟨hs,_,rfl,?_⟩)
          rw [Ag,Ag,Xh,Xh]
          exact m'.endB T.sa (by simp;lia)
        . rw [C8 (by simpa using q)]
          split
          . exact Ec (.inr ⟨_,_,_,_,_,rfl,hs,rfl,m',h1,by lia,by lia⟩)
          . exact Ec ⟨_,_,_,_,_,rfl,hs,rfl,m',h1,by lia,by lia⟩
      . simp only [hlt,decide_false,Az,if_false]
        refine Eb (Zr hi ?_)
        have m':=m.takeA T.sa 1 (fun x hx y hy=>by
          rw [XO a hi] at hx;rw [Ar.mp hx]
          obtain ⟨t,ht,q,rfl⟩:=xr hy
          have:=Y9 T.sb ht q
          lia)
        rw [XO a hi,<- Array.toList_push] at m'
        by_cases q:i+1+1=a.size
        . rw [C9 (by simpa using q)]
          refine Ec (.inl ⟨hs,_,rfl,?_⟩)
          rw [Ag,Ag,Xh,Xh]
          exact m'.lastA T.sa T.sb (by simpa using T.last) (by simpa using q)
        . rw [C8 (by simpa using q)]
          split
          . exact Ec (.inr ⟨_,_,_,_,_,rfl,hs,rfl,m',by lia,h2,by lia⟩)
          . exact Ec ⟨_,_,_,_,_,rfl,hs,rfl,m',by lia,h2,by lia⟩
    case post1 =>
      rintro ⟨c1,c2⟩ st'' (⟨hs,r,hr,hf⟩ | ⟨res,i,j,ac,bc,e,hs,_,m,h1,h2,h3⟩)
      . simp only at hr
        subst hr
        exact Ec ⟨hs,r,rfl,hf⟩
      . cases e
        dsimp only
        refine Eb (xB ?_)
        refine Eb (wpS_mono (wpS_forRange (I:=fun y c st3=>∃ res i j mg ac bc,c=(none,res,i,j,mg,ac,bc)/\GoG C a b st (x+1+y) none res i j st3)
          (Q:=fun c st3=>Gf C a b st c.1 st3∨∃ res i j mg ac bc,c=(none,res,i,j,mg,ac,bc)/\GoG C a b st (x+1) none res i j st3) ?step2 ?fin2 ⟨_,_,_,_,_,_,rfl,hs,rfl,m,h1,h2,by lia⟩) ?post2)
        case fin2 =>
          rintro c st3 ⟨res,i,j,mg,ac,bc,rfl,hs,_,m,h1,h2,h3⟩
          lia
        case step2 =>
          rintro y c st3 _ hy ⟨res,i,j,mg,ac,bc,rfl,hs,_,m,h1,h2,h3⟩
          dsimp only
          have key:=fun mg=>QgV (mg:=mg) (ac:=ac) (bc:=bc) (n0:=x+1+(y+1)) T hk hs m h1 h2 (by lia)
          rcases Bh 1 mg with hm | hm
          . rw [C9 hm]
            refine wpS_mono (key (mg - 1)) ?_
            intro r st4 hr
            cases r with
            | done c =>
              obtain ⟨c1,c2,c3,c4,c5,c6,c7⟩:=c
              rcases hr with q | q
              . exact .inl q
              . obtain ⟨g1,g2,g3,g4,g5,g6⟩:=q
                simp only at g2 g3 g4 g5 g6
                subst g2
                exact .inr ⟨_,_,_,_,_,_,rfl,g1,rfl,g3,g4,g5,by lia⟩
            | yield c =>
              obtain ⟨c1,c2,c3,c4,c5,c6,c7⟩:=c
              obtain ⟨g1,g2,g3,g4,g5,g6⟩:=hr
              simp only at g2 g3 g4 g5 g6
              subst g2
              exact ⟨_,_,_,_,_,_,rfl,g1,rfl,g3,g4,g5,g6⟩
          . rw [C8 (by lia)]
            refine wpS_mono (key mg) ?_
            intro r st4 hr
            cases r with
            | done c =>
              obtain ⟨c1,c2,c3,c4,c5,c6,c7⟩:=c
              rcases hr with q | q
              . exact .inl q
              . obtain ⟨g1,g2,g3,g4,g5,g6⟩:=q
                simp only at g2 g3 g4 g5 g6
                subst g2
                exact .inr ⟨_,_,_,_,_,_,rfl,g1,rfl,g3,g4,g5,by lia⟩
            | yield c =>
              obtain ⟨c1,c2,c3,c4,c5,c6,c7⟩:=c
              obtain ⟨g1,g2,g3,g4,g5,g6⟩:=hr
              simp only at g2 g3 g4 g5 g6
              subst g2
              exact ⟨_,_,_,_,_,_,rfl,g1,rfl,g3,g4,g5,g6⟩
        case post2 =>
          rintro ⟨c1,c2⟩ st3 (⟨hs,r,hr,hf⟩ | ⟨res,i,j,mg,ac,bc,e,hs,_,m,h1,h2,h3⟩)
          . simp only at hr
            subst hr
            exact Ec ⟨hs,r,rfl,hf⟩
          . cases e
            dsimp only
            refine Eb (jR hs fun st4 hs4=>?_)
            exact Ec ⟨_,_,_,_,rfl,hs4,rfl,m,h1,h2,h3⟩
variable {C:Cmp}
structure MH (C:Cmp) (A B R:List Keyed) (p q:Nat):Prop where
 perm:(A.take p++B.take q++R).Perm (A++B)
 srt:Srt C R
 high:∀ x∈A.take p++B.take q,∀ y∈R,C.key x<=C.key y
section
variable {A B R:List Keyed} {p q:Nat}
theorem Ki (A:List Keyed) {p r:Nat} (h:r<=p):A.take p=A.take r++(A.take p).drop r:=by
 have:A.take r=(A.take p).take r:=by rw [List.take_take,Nat.min_eq_left h]
 rw [this,B0]
theorem MH.takeA (m:MH C A B R p q) (hA:Srt C A) {r:Nat} (hr:r<=p) (h:∀ y∈(A.take p).drop r,∀ x∈B.take q,C.key x<=C.key y):MH C A B ((A.take p).drop r++R) r q:=by
 have e:=Ki A hr
 have hd:=hA.take p
 rw [e] at hd
 obtain ⟨_,_,h3⟩:=Bv.mp hd
 have sc:Srt C ((A.take p).drop r):=(hA.take p).drop r
 have mm:∀ y∈(A.take p).drop r,y∈A.take p:=fun y hy=>Cd hy
 generalize (A.take p).drop r=ch at e h h3 sc mm ⊢
 refine ⟨?_,sc.app m.srt fun x hx y hy=>m.high x (A7 _ (mm x hx)) y hy,fun x hx y hy=>?_⟩
 ·refine List.Perm.trans ?_ m.perm
  rw [e]
  simp only [A8]
  refine List.Perm.append_left _ ?_
  rw [<- A8,<- A8]
  exact List.Perm.append_right _ List.perm_append_comm
 ·rcases Ai.mp hy with z | z
  ·rcases Ai.mp hx with w | w
   ·exact h3 x w y z
   ·exact h y z x w
  ·refine m.high x ?_ y z
   rcases Ai.mp hx with w | w
   ·exact A7 _ (by rw [e];exact A7 _ w)
   ·exact Aj _ w
theorem MH.takeB (m:MH C A B R p q) (hB:Srt C B) {r:Nat} (hr:r<=q) (h:∀ y∈(B.take q).drop r,∀ x∈A.take p,C.key x<=C.key y):MH C A B ((B.take q).drop r++R) p r:=by
 have e:=Ki B hr
 have hd:=hB.take q
 rw [e] at hd
 obtain ⟨_,_,h3⟩:=Bv.mp hd
 have sc:Srt C ((B.take q).drop r):=(hB.take q).drop r
 have mm:∀ y∈(B.take q).drop r,y∈B.take q:=fun y hy=>Cd hy
 generalize (B.take q).drop r=ch at e h h3 sc mm ⊢
 refine ⟨?_,sc.app m.srt fun x hx y hy=>m.high x (Aj _ (mm x hx)) y hy,fun x hx y hy=>?_⟩
 ·have:=m.perm
  rw [e] at this
  simpa [A8] using this
 ·rcases Ai.mp hy with z | z
  ·rcases Ai.mp hx with w | w
   ·exact h y z x w
   ·exact h3 x w y z
  ·refine m.high x ?_ y z
   rcases Ai.mp hx with w | w
   ·exact A7 _ w
   ·exact Aj _ (by rw [e];exact A7 _ w)
theorem MH.endA (m:MH C A B R p q) (U:p=0) (hB:Srt C B):Fin C A B (A.take p++B.take q++R):=by
 subst U
 exact ⟨by simpa using (hB.take q).app m.srt fun x hx y hy=>m.high x (Aj _ hx) y hy,m.perm⟩
theorem MH.endB (m:MH C A B R p q) (hq:q=0) (hA:Srt C A):Fin C A B (A.take p++B.take q++R):=by
 subst hq
 exact ⟨by simpa using (hA.take p).app m.srt fun x hx y hy=>m.high x (A7 _ hx) y hy,m.perm⟩
theorem MH.firstB (m:MH C A B R p q) (hq:q=1) (hA:Srt C A) (hB:Srt C B) (hf:∀ y∈A,∀ x∈B.take 1,C.key x<=C.key y):Fin C A B (B.take q++A.take p++R):=by
 subst hq
 refine ⟨((hB.take 1).app (hA.take p) fun x hx y hy=>hf y (Bx hy) x hx).app m.srt fun x hx y hy=>?_,?_⟩
 ·refine m.high x ?_ y hy
  rcases Ai.mp hx with w | w
  ·exact Aj _ w
  ·exact A7 _ w
 ·exact (List.Perm.append_right _ List.perm_append_comm).trans m.perm
end
theorem Qfz (a b:Array Keyed):mHi a b=(do
  rule "list.sort.merge-hi"
  let all:=a.size+b.size
  let fin (res:Array Keyed) (p q:Nat):=a.extract 0 p++b.extract 0 q++res.reverse
  let fst (res:Array Keyed) (p q:Nat):=b.extract 0 q++a.extract 0 p++res.reverse
  let mut p:=a.size - 1
  let mut q:=b.size
  let mut res:Array Keyed:=#[<- elem' a p]
  if p==0 then return fin res p q
  if q==1 then return fst res p q
  let mut mg:=gallopOf (<- get)
  for _ in [0:all] do
   let mut ac:=0
   let mut bc:=0
   for _ in [0:all] do
    let some aw <- lt' (<- elem' b (q - 1)) (<- elem' a (p - 1)) | return fin res p q
    if aw then
     p:=p - 1;res:=res.push (<- elem' a p);ac:=ac+1;bc:=0
     if p==0 then return fin res p q
     if ac≥mg then break
    else
     q:=q - 1;res:=res.push (<- elem' b q);bc:=bc+1;ac:=0
     if q==1 then return fst res p q
     if bc≥mg then break
   rule "list.sort.gallop"
   mg:=mg+1
   for _ in [0:all] do
    if mg > 1 then mg:=mg - 1
    zY mg
    let some t <- gal false (<- elem' b (q - 1)) a 0 p (p - 1) | return fin res p q
    let k:=p - t
    ac:=k
    if k > 0 then
     res:=res++(a.extract t p).reverse;p:=t
     if p==0 then return fin res p q
    q:=q - 1;res:=res.push (<- elem' b q)
    if q==1 then return fst res p q
    let some t <- gal true (<- elem' a (p - 1)) b 0 q (q - 1) | return fin res p q
    let k:=q - t
    bc:=k
    if k > 0 then
     res:=res++(b.extract t q).reverse;q:=t
     if q==1 then return fst res p q
     if q==0 then return fin res p q
    p:=p - 1;res:=res.push (<- elem' a p)
    if p==0 then return fin res p q
    if ac < 7&&bc < 7 then break
   mg:=mg+1
   zY mg
  unsupported "internal:list.sort.merge-bound"):=rfl
abbrev HS:=Option (Array Keyed)×Nat×Nat×Array Keyed×Nat×Nat×Nat
def hi4 (a b:Array Keyed) (mg ac bc:Nat) (res:Array Keyed) (p q:Nat):StateT SortSt Sem (ForInStep HS):=do
 let x <- elem' a (p - 1)
 if (p - 1==0)=true then pure (.done (some (a.extract 0 (p - 1)++b.extract 0 q++(res.push x).reverse),p - 1,q,res.push x,mg,ac,bc))
 else if (decide (ac < 7)&&decide (bc < 7))=true then pure (.done (none,p - 1,q,res.push x,mg,ac,bc)) else pure (.yield (none,p - 1,q,res.push x,mg,ac,bc))
def hi3 (a b:Array Keyed) (mg ac bc:Nat) (res:Array Keyed) (p q:Nat):StateT SortSt Sem (ForInStep HS):=do
 let y <- elem' a (p - 1)
 let z <- gal true y b 0 q (q - 1)
 match z with
 | some t=>(if q - t > 0 then (if (t==1)=true then pure (.done (some (b.extract 0 t++a.extract 0 p++(res++(b.extract t q).reverse).reverse),p,t,res++(b.extract t q).reverse,mg,ac,q - t))
   else if (t==0)=true then pure (.done (some (a.extract 0 p++b.extract 0 t++(res++(b.extract t q).reverse).reverse),p,t,res++(b.extract t q).reverse,mg,ac,q - t))
   else hi4 a b mg ac (q - t) (res++(b.extract t q).reverse) p t) else hi4 a b mg ac (q - t) res p q:StateT SortSt Sem (ForInStep HS))
 | _=>pure (.done (some (a.extract 0 p++b.extract 0 q++res.reverse),p,q,res,mg,ac,bc))
def hi2 (a b:Array Keyed) (mg ac bc:Nat) (res:Array Keyed) (p q:Nat):StateT SortSt Sem (ForInStep HS):=do
 let y <- elem' b (q - 1)
 if (q - 1==1)=true then pure (.done (some (b.extract 0 (q - 1)++a.extract 0 p++(res.push y).reverse),p,q - 1,res.push y,mg,ac,bc))
 else hi3 a b mg ac bc (res.push y) p (q - 1)
def hi1 (a b:Array Keyed) (mg ac bc:Nat) (res:Array Keyed) (p q:Nat):StateT SortSt Sem (ForInStep HS):=do
 zY mg
 let y <- elem' b (q - 1)
 let z <- gal false y a 0 p (p - 1)
 match z with
 | some t=>(if p - t > 0 then (if (t==0)=true then pure (.done (some (a.extract 0 t++b.extract 0 q++(res++(a.extract t p).reverse).reverse),t,q,res++(a.extract t p).reverse,mg,p - t,bc))
   else hi2 a b mg (p - t) bc (res++(a.extract t p).reverse) t q) else hi2 a b mg (p - t) bc res p q:StateT SortSt Sem (ForInStep HS))
 | _=>pure (.done (some (a.extract 0 p++b.extract 0 q++res.reverse),p,q,res,mg,ac,bc))
section
variable {a b res:Array Keyed} {p q r:Nat}
theorem qm (a:Array Keyed) (p:Nat):(a.extract 0 p).toList=a.toList.take p:=by
 simp [Array.toList_extract,List.extract_eq_take_drop]
theorem QbC (a:Array Keyed) (r p:Nat):(a.extract r p).toList=(a.toList.take p).drop r:=by
 rw [Array.toList_extract,List.extract_eq_take_drop,List.drop_take]
theorem yv (x:Keyed):(res.push x).toList.reverse=x::res.toList.reverse:=by simp
theorem QcA (ch:Array Keyed):(res++ch.reverse).toList.reverse=ch.toList++res.toList.reverse:=by simp
theorem qc (a:Array Keyed) {p:Nat} (h0:1<=p) (h:p<=a.size):(a.toList.take p).drop (p - 1)=[a[p - 1]'(by lia)]:=by
 rw [List.drop_take,show p - (p - 1)=1 by lia]
 exact XO a (by lia)
theorem kn {x:Keyed} (h:x∈(a.toList.take p).drop r):∃ t,r<=t/\t < p/\∃ z:t < a.size,x=a[t]:=by
 obtain ⟨t,ht,e⟩:=List.getElem_of_mem h
 have h1:r+t < p/\r+t < a.size:=by simp at ht;lia
 exact ⟨r+t,by lia,h1.1,h1.2,by rw [<- e];simp [Cy,List.getElem_drop]⟩
theorem xt {x:Keyed} (h:x∈a.toList.take p):∃ t,t < p/\∃ z:t < a.size,x=a[t]:=by
 obtain ⟨t,ht,e⟩:=List.getElem_of_mem h
 have h1:t < p/\t < a.size:=by simp at ht;lia
 exact ⟨t,h1.1,h1.2,by rw [<- e];simp [Cy]⟩
end
section
variable {a b:Array Keyed} {st₀:SortSt} {n0:Nat}
def GoH (C:Cmp) (a b:Array Keyed) (st₀:SortSt) (n0:Nat) (r:Option (Array Keyed)) (res:Array Keyed) (p q:Nat) (st':SortSt):Prop:=Sm st₀ st'/\r=none/\MH C a.toList b.toList res.toList.reverse p q/\(1<=p/\p<=a.size)/\(2<=q/\q<=b.size)/\n0+p+q < a.size+b.size
def gt (C:Cmp) (a b:Array Keyed) (st₀:SortSt) (n0:Nat) (r:ForInStep HS) (st':SortSt):Prop:=match r with
 | .done c=>Gf C a b st₀ c.1 st'∨GoH C a b st₀ n0 c.1 c.2.2.2.1 c.2.1 c.2.2.1 st'
 | .yield c=>GoH C a b st₀ n0 c.1 c.2.2.2.1 c.2.1 c.2.2.1 st'
variable {mg ac bc p q:Nat} {res:Array Keyed} {st:SortSt}
theorem QeM (T:Two C a b) (hs:Sm st₀ st) (m:MH C a.toList b.toList res.toList.reverse p q) (U:1<=p/\p<=a.size) (hq:2<=q/\q<=b.size) (hn:n0+p+q<=a.size+b.size) (hc:∀ x∈b.toList.take q,C.key x<=C.key (a[p - 1]'(by lia))):W C (hi4 a b mg ac bc res p q) (gt C a b st₀ n0) st:=by
 have hp':p - 1 < a.size:=by lia
 refine Eb (Zr hp' ?_)
 have m':=m.takeA T.sa (r:=p - 1) (by lia) (fun y hy x hx=>by rw [qc a U.1 U.2] at hy;rw [Ar.mp hy];exact hc x hx)
 rw [qc a U.1 U.2,List.singleton_append,<- yv] at m'
 by_cases z:p - 1=0
 ·rw [C9 (by simpa using z)]
  refine Ec (.inl ⟨hs,_,rfl,?_⟩)
  rw [Ag,Ag,qm,qm,Ce]
  exact m'.endA z T.sb
 ·rw [C8 (by simpa using z)]
  have g:GoH C a b st₀ n0 none (res.push a[p - 1]) (p - 1) q st:=⟨hs,rfl,m',by lia,hq,by lia⟩
  split
  ·exact Ec (.inr g)
  ·exact Ec g
theorem QgO (T:Two C a b) (hk:kindOf st=C.kd) (hs:Sm st₀ st) (m:MH C a.toList b.toList res.toList.reverse p q) (U:1<=p/\p<=a.size) (hq:2<=q/\q<=b.size) (hn:n0+p+q<=a.size+b.size):W C (hi3 a b mg ac bc res p q) (gt C a b st₀ n0) st:=by
 have hp':p - 1 < a.size:=by lia
 refine Eb (Zr hp' (Eb (YF (fun t=>decide (kx C b (0+t) < C.key a[p - 1])) hk (T.ma _ (by simp)) T.mb (by lia) (by lia) (fun t _=>rfl) (fun s t h1 h2 h3=>?_) fun t h1 h2 h3=>?_)))
 ·exact Ed (Int.lt_of_le_of_lt (VM T.sb (by lia) (by lia)) (Ee h3))
 ·dsimp only
  have m':=m.takeB T.sb h1 (fun y hy x hx=>by
   obtain ⟨u,hu1,hu2,z,rfl⟩:=kn hy
   have e:=of_decide_eq_false (h3 u hu1 hu2)
   rw [C4,Jp b z] at e
   obtain ⟨v,hv,z2,rfl⟩:=xt hx
   have:=Y9 T.sa (show v<=p - 1 by lia) hp'
   lia)
  have hc:∀ x∈b.toList.take t,C.key x<=C.key a[p - 1]:=fun x hx=>by
   obtain ⟨v,hv,z2,rfl⟩:=xt hx
   have e:=Ee (h2 v hv)
   rw [C4,Jp b z2] at e
   lia
  rw [<- QbC,<- QcA] at m'
  by_cases hk0:q - t > 0
  ·rw [C9 hk0]
   by_cases z:t=1
   ·rw [C9 (by simpa using z)]
    refine Ec (.inl ⟨hs,_,rfl,?_⟩)
    rw [Ag,Ag,qm,qm,Ce]
    exact m'.firstB z T.sa T.sb T.first
   ·rw [C8 (by simpa using z)]
    by_cases z2:t=0
    ·rw [C9 (by simpa using z2)]
     refine Ec (.inl ⟨hs,_,rfl,?_⟩)
     rw [Ag,Ag,qm,qm,Ce]
     exact m'.endB z2 T.sa
    ·rw [C8 (by simpa using z2)]
     exact QeM T hs m' U (by lia) (by lia) hc
  ·rw [C8 hk0]
   have:t=q:=by lia
   subst this
   exact QeM T hs m U hq hn hc
theorem QeL (T:Two C a b) (hk:kindOf st=C.kd) (hs:Sm st₀ st) (m:MH C a.toList b.toList res.toList.reverse p q) (U:1<=p/\p<=a.size) (hq:2<=q/\q<=b.size) (hn:n0+p+q<=a.size+b.size) (hc:∀ x∈a.toList.take p,C.key x<=C.key (b[q - 1]'(by lia))):W C (hi2 a b mg ac bc res p q) (gt C a b st₀ n0) st:=by
 have hq':q - 1 < b.size:=by lia
 refine Eb (Zr hq' ?_)
 have m':=m.takeB T.sb (r:=q - 1) (by lia) (fun y hy x hx=>by rw [qc b (by lia) hq.2] at hy;rw [Ar.mp hy];exact hc x hx)
 rw [qc b (by lia) hq.2,List.singleton_append,<- yv] at m'
 by_cases z:q - 1=1
 ·rw [C9 (by simpa using z)]
  refine Ec (.inl ⟨hs,_,rfl,?_⟩)
  rw [Ag,Ag,qm,qm,Ce]
  exact m'.firstB z T.sa T.sb T.first
 ·rw [C8 (by simpa using z)]
  exact QgO T hk hs m' U (by lia) (by lia)
theorem QgN (T:Two C a b) (hk:kindOf st₀=C.kd) (hs:Sm st₀ st) (m:MH C a.toList b.toList res.toList.reverse p q) (U:1<=p/\p<=a.size) (hq:2<=q/\q<=b.size) (hn:n0+p+q<=a.size+b.size):W C (hi1 a b mg ac bc res p q) (gt C a b st₀ n0) st:=by
 refine Eb (jR hs fun st hs=>?_)
 have hk':kindOf st=C.kd:=hs.1.trans hk
 have hq':q - 1 < b.size:=by lia
 refine Eb (Zr hq' (Eb (YF (fun t=>!decide (C.key b[q - 1] < kx C a (0+t))) hk' (T.mb _ (by simp)) T.ma (by lia) (by lia) (fun t _=>rfl) (fun s t h1 h2 h3=>?_) fun t h1 h2 h3=>?_)))
 ·have e:=VM T.sa (show 0+s<=0+t by lia) (by lia)
  simp only [Cq,decide_eq_false_iff_not] at h3 ⊢
  lia
 ·dsimp only
  have m':=m.takeA T.sa h1 (fun y hy x hx=>by
   obtain ⟨u,hu1,hu2,z,rfl⟩:=kn hy
   have e:=h3 u hu1 hu2
   simp only [Bool.not_eq_false',decide_eq_true_eq] at e
   rw [C4,Jp a z] at e
   obtain ⟨v,hv,z2,rfl⟩:=xt hx
   have:=Y9 T.sb (show v<=q - 1 by lia) hq'
   lia)
  have hc:∀ x∈a.toList.take t,C.key x<=C.key b[q - 1]:=fun x hx=>by
   obtain ⟨v,hv,z2,rfl⟩:=xt hx
   have e:=h2 v hv
   simp only [Cq,decide_eq_false_iff_not] at e
   rw [C4,Jp a z2] at e
   lia
  rw [<- QbC,<- QcA] at m'
  by_cases hk0:p - t > 0
  ·rw [C9 hk0]
   by_cases z:t=0
   ·rw [C9 (by simpa using z)]
    refine Ec (.inl ⟨hs,_,rfl,?_⟩)
    rw [Ag,Ag,qm,qm,Ce]
    exact m'.endA z T.sb
   ·rw [C8 (by simpa using z)]
    exact QeL T hk' hs m' (by lia) hq (by lia) hc
  ·rw [C8 hk0]
   have:t=p:=by lia
   subst this
   exact QeL T hk' hs m U hq hn hc
theorem mh0 (T:Two C a b):MH C a.toList b.toList [a[a.size - 1]'(by have:=T.na;lia)] (a.size - 1) b.size:=by
 have na:=T.na
 have ea:a.toList.take a.size=a.toList:=Ci (by simp)
 have eb:b.toList.take b.size=b.toList:=Ci (by simp)
 have m:MH C a.toList b.toList [] a.size b.size:=⟨by rw [ea,eb,Bt],List.Pairwise.nil,fun x hx y hy=>by simp at hy⟩
 have:=m.takeA T.sa (r:=a.size - 1) (by lia) (fun y hy x hx=>T.last y (by rw [ea] at hy;exact hy) x (Bx hx))
 rw [qc a na (Ae _)] at this
 simpa using this
theorem QgY {Q:Array Keyed->SortSt->Prop} (T:Two C a b) (hk:kindOf st=C.kd) (h:∀ r st',Sm st st'->Fin C a.toList b.toList r.toList->Q r st'):W C (mHi a b) Q st:=by
  have na:=T.na
  have nb:=T.nb
  have m0:=mh0 T
  have hl:a.size - 1 < a.size:=by lia
  rw [Qfz]
  dsimp only
  refine Eb (xB (Eb (Zr hl ?_)))
  have m1:MH C a.toList b.toList (#[a[a.size - 1]]).toList.reverse (a.size - 1) b.size:=m0
  by_cases z:a.size - 1=0
  . rw [C9 (by simpa using z)]
    refine Ec (h _ st (Sm.refl _) ?_)
    rw [Ag,Ag,qm,qm,Ce]
    exact m1.endA z T.sb
  rw [C8 (by simpa using z)]
  by_cases z:b.size=1
  . rw [C9 (by simpa using z)]
    refine Ec (h _ st (Sm.refl _) ?_)
    rw [Ag,Ag,qm,qm,Ce]
    exact m1.firstB z T.sa T.sb T.first
  rw [C8 (by simpa using z)]
  refine Eb (wpS_get ?_)
  refine Eb (wpS_mono (wpS_forRange (I:=fun x c st'=>∃ p q res mg,c=(none,p,q,res,mg)/\GoH C a b st x none res p q st') (Q:=fun c st'=>Gf C a b st c.1 st') ?step ?fin ⟨_,_,_,_,rfl,Sm.refl _,rfl,m1,by lia,by lia,by lia⟩) ?post)
  case post =>
    rintro ⟨c1,c2⟩ st' ⟨hs,x,rfl,hf⟩
    exact Ec (h x st' hs hf)
  case fin =>
    rintro c st' ⟨p,q,res,mg,rfl,hs,_,m,h1,h2,h3⟩
    lia
  case step =>
    rintro x c st' _ hx ⟨p,q,res,mg,rfl,hs,_,m,h1,h2,h3⟩
    dsimp only
    refine Eb (wpS_mono (wpS_forRange (I:=fun y c st''=>∃ p q res ac bc,c=(none,p,q,res,ac,bc)/\GoH C a b st (x+y) none res p q st'')
      (Q:=fun c st''=>Gf C a b st c.1 st''∨∃ p q res ac bc,c=(none,p,q,res,ac,bc)/\GoH C a b st (x+1) none res p q st'') ?step1 ?fin1 ⟨_,_,_,_,_,rfl,hs,rfl,m,h1,h2,h3⟩) ?post1)
    case fin1 =>
      rintro c st'' ⟨p,q,res,ac,bc,rfl,hs,_,m,h1,h2,h3⟩
      lia
    case step1 =>
      rintro y c st'' _ hy ⟨p,q,res,ac,bc,rfl,hs,_,m,h1,h2,h3⟩
      dsimp only
      have hp':p - 1 < a.size:=by lia
      have hq':q - 1 < b.size:=by lia
      refine Eb (Zr hq' (Eb (Zr hp' (Eb (C.lt st'' _ _ _ (T.mb _ (by simp)) (T.ma _ (by simp)) (hs.1.trans hk) ?_)))))
      dsimp only
      by_cases hlt:C.key b[q - 1] < C.key a[p - 1]
      . simp only [hlt,decide_true,if_true]
        refine Eb (Zr hp' ?_)
        have m':=m.takeA T.sa (r:=p - 1) (by lia) (fun y hy x hx=>by
          rw [qc a h1.1 h1.2] at hy;rw [Ar.mp hy]
          obtain ⟨v,hv,z2,rfl⟩:=xt hx
          have:=Y9 T.sb (show v<=q - 1 by lia) hq'
          lia)
        rw [qc a h1.1 h1.2,List.singleton_append,<- yv] at m'
        by_cases z:p - 1=0
        . rw [C9 (by simpa using z)]
          refine Ec (.inl ⟨hs,_,rfl,?_⟩)
          rw [Ag,Ag,qm,qm,Ce]
          exact m'.endA z T.sb
        . rw [C8 (by simpa using z)]
          split
          . exact Ec (.inr ⟨_,_,_,_,_,rfl,hs,rfl,m',by lia,h2,by lia⟩)
          . exact Ec ⟨_,_,_,_,_,rfl,hs,rfl,m',by lia,h2,by lia⟩
      . simp only [hlt,decide_false,Az,if_false]
        refine Eb (Zr hq' ?_)
        have m':=m.takeB T.sb (r:=q - 1) (by lia) (fun y hy x hx=>by
          rw [qc b (by lia) h2.2] at hy;rw [Ar.mp hy]
          obtain ⟨v,hv,z2,rfl⟩:=xt hx
          have:=Y9 T.sa (show v<=p - 1 by lia) hp'
          lia)
        rw [qc b (by lia) h2.2,List.singleton_append,<- yv] at m'
        by_cases z:q - 1=1
        . rw [C9 (by simpa using z)]
          refine Ec (.inl ⟨hs,_,rfl,?_⟩)
          rw [Ag,Ag,qm,qm,Ce]
          exact m'.firstB z T.sa T.sb T.first
        . rw [C8 (by simpa using z)]
          split
          . exact Ec (.inr ⟨_,_,_,_,_,rfl,hs,rfl,m',h1,by lia,by lia⟩)
          . exact Ec ⟨_,_,_,_,_,rfl,hs,rfl,m',h1,by lia,by lia⟩
    case post1 =>
      rintro ⟨c1,c2⟩ st'' (⟨hs,r,hr,hf⟩ | ⟨p,q,res,ac,bc,e,hs,_,m,h1,h2,h3⟩)
      . simp only at hr
        subst hr
        exact Ec ⟨hs,r,rfl,hf⟩
      . cases e
        dsimp only
        refine Eb (xB ?_)
        refine Eb (wpS_mono (wpS_forRange (I:=fun y c st3=>∃ p q res mg ac bc,c=(none,p,q,res,mg,ac,bc)/\GoH C a b st (x+1+y) none res p q st3)
          (Q:=fun c st3=>Gf C a b st c.1 st3∨∃ p q res mg ac bc,c=(none,p,q,res,mg,ac,bc)/\GoH C a b st (x+1) none res p q st3) ?step2 ?fin2 ⟨_,_,_,_,_,_,rfl,hs,rfl,m,h1,h2,by lia⟩) ?post2)
        case fin2 =>
          rintro c st3 ⟨p,q,res,mg,ac,bc,rfl,hs,_,m,h1,h2,h3⟩
          lia
        case step2 =>
          rintro y c st3 _ hy ⟨p,q,res,mg,ac,bc,rfl,hs,_,m,h1,h2,h3⟩
          dsimp only
          have key:=fun mg=>QgN (mg:=mg) (ac:=ac) (bc:=bc) (n0:=x+1+(y+1)) T hk hs m h1 h2 (by lia)
          rcases Bh 1 mg with hm | hm
          . rw [C9 hm]
            refine wpS_mono (key (mg - 1)) ?_
            intro r st4 hr
            cases r with
            | done c =>
              obtain ⟨c1,c2,c3,c4,c5,c6,c7⟩:=c
              rcases hr with z | z
              . exact .inl z
              . obtain ⟨g1,g2,g3,g4,g5,g6⟩:=z
                simp only at g2 g3 g4 g5 g6
                subst g2
                exact .inr ⟨_,_,_,_,_,_,rfl,g1,rfl,g3,g4,g5,by lia⟩
            | yield c =>
              obtain ⟨c1,c2,c3,c4,c5,c6,c7⟩:=c
              obtain ⟨g1,g2,g3,g4,g5,g6⟩:=hr
              simp only at g2 g3 g4 g5 g6
              subst g2
              exact ⟨_,_,_,_,_,_,rfl,g1,rfl,g3,g4,g5,g6⟩
          . rw [C8 (by lia)]
            refine wpS_mono (key mg) ?_
            intro r st4 hr
            cases r with
            | done c =>
              obtain ⟨c1,c2,c3,c4,c5,c6,c7⟩:=c
              rcases hr with z | z
              . exact .inl z
              . obtain ⟨g1,g2,g3,g4,g5,g6⟩:=z
                simp only at g2 g3 g4 g5 g6
                subst g2
                exact .inr ⟨_,_,_,_,_,_,rfl,g1,rfl,g3,g4,g5,by lia⟩
            | yield c =>
              obtain ⟨c1,c2,c3,c4,c5,c6,c7⟩:=c
              obtain ⟨g1,g2,g3,g4,g5,g6⟩:=hr
              simp only at g2 g3 g4 g5 g6
              subst g2
              exact ⟨_,_,_,_,_,_,rfl,g1,rfl,g3,g4,g5,g6⟩
        case post2 =>
          rintro ⟨c1,c2⟩ st3 (⟨hs,r,hr,hf⟩ | ⟨p,q,res,mg,ac,bc,e,hs,_,m,h1,h2,h3⟩)
          . simp only at hr
            subst hr
            exact Ec ⟨hs,r,rfl,hf⟩
          . cases e
            dsimp only
            refine Eb (jR hs fun st4 hs4=>?_)
            exact Ec ⟨_,_,_,_,rfl,hs4,rfl,m,h1,h2,h3⟩
end
variable {C:Cmp}
def seg (L:List Keyed) (s n:Nat):List Keyed:=(L.drop s).take n
theorem XS {L:List Keyed} {s n:Nat} (h:s+n<=L.length):(seg L s n).length=n:=by simp [seg];lia
theorem UW (L:List Keyed) (s n:Nat):L=L.take s++seg L s n++L.drop (s+n):=by
 unfold seg
 rw [A8,<- Cu,B0,B0]
theorem yx (L:List Keyed) (s n m:Nat):seg L s (n+m)=seg L s n++seg L (s+n) m:=by
 unfold seg
 rw [<- Cu,List.take_add]
theorem Qen {P M M' R:List Keyed} {s n:Nat} (h:s+n<=P.length):seg (P++M++R) s n=seg (P++M'++R) s n:=by
 unfold seg
 have:∀ T:List Keyed,((P++T).drop s).take n=(P.drop s).take n:=fun T=>by
  rw [List.drop_append_of_le_length (by lia),List.take_append_of_le_length (by simp;lia)]
 rw [A8,A8,this,this]
theorem QcD {P M M' R:List Keyed} {s n:Nat} (hl:M.length=M'.length) (h:P.length+M.length<=s):seg (P++M++R) s n=seg (P++M'++R) s n:=by
 unfold seg
 have e:∀ T:List Keyed,T.length<=s->(T++R).drop s=R.drop (s - T.length):=fun T hT=>by rw [List.drop_append,Cn hT,List.nil_append]
 rw [e (P++M) (by rw [An];lia),e (P++M') (by rw [An];lia),An,An,hl]
theorem Qem {P M R:List Keyed} {s n:Nat} (h:s=P.length) (hn:n=M.length):seg (P++M++R) s n=M:=by
 subst h hn
 unfold seg
 rw [A8,List.drop_left,List.take_left]
theorem K2 {arr:Array Keyed} {s n i j:Nat} (h:Srt C (seg arr.toList s n)) (hn:s+n<=arr.size) (hij:i<=j) (hj:j < n):kx C arr (s+i)<=kx C arr (s+j):=by
 rcases Bh i j with q | q
 ·have hl:(seg arr.toList s n).length=n:=XS (by simpa using hn)
  have:=List.pairwise_iff_getElem.mp h i j (by lia) (by lia) q
  rw [Jp arr (by lia),Jp arr (by lia)]
  simpa [seg,Cy,List.getElem_drop] using this
 ·have:i=j:=by lia
  subst this;exact Bo _
theorem Qet {arr:Array Keyed} {s n:Nat} (hn:s+n<=arr.size) (h:∀ i j,i<=j->j < n->kx C arr (s+i)<=kx C arr (s+j)):Srt C (seg arr.toList s n):=by
 refine List.pairwise_iff_getElem.mpr fun i j hi hj hij=>?_
 have hl:(seg arr.toList s n).length=n:=XS (by simpa using hn)
 have:=h i j (by lia) (by lia)
 rw [Jp arr (by lia),Jp arr (by lia)] at this
 simpa [seg,Cy,List.getElem_drop] using this
def Runs (C:Cmp) (L:List Keyed):List (Nat×Nat×Nat)->Nat->Nat->Prop
 | [],s,e=>s=e
 | (x,n,_)::r,s,e=>x=s/\1<=n/\Srt C (seg L s n)/\Runs C L r (s+n) e
theorem Runs.le:∀ {r:List (Nat×Nat×Nat)} {s e:Nat},Runs C L r s e->s+r.length<=e
 | [],_,_,h=>by cases h;simp
 | (x,n,_)::r,s,e,⟨_,h1,_,h2⟩=>by have:=Runs.le h2;simp;lia
theorem Runs.congr:∀ {r:List (Nat×Nat×Nat)} {s e:Nat},Runs C L r s e->(∀ a n,s<=a->a+n<=e->seg L' a n=seg L a n)->Runs C L' r s e
  | [],_,_,h,_=>h
  | (x,n,_)::r,s,e,⟨h0,h1,h2,h3⟩,q=>by
    have hle:=h3.le
    exact ⟨h0,h1,by rw [q s n (Ae _) (by lia)];exact h2,h3.congr fun a m ha hm=>q a m (by lia) hm⟩
theorem Runs.app:∀ {r r':List (Nat×Nat×Nat)} {s e:Nat},Runs C L (r++r') s e↔∃ m,Runs C L r s m/\Runs C L r' m e
  | [],r',s,e=>⟨fun h=>⟨s,rfl,h⟩,fun ⟨m,h1,h2⟩=>by cases h1;exact h2⟩
  | (x,n,_)::r,r',s,e=>by
    constructor
    . rintro ⟨h0,h1,h2,h3⟩
      obtain ⟨m,q1,q2⟩:=Runs.app.mp h3
      exact ⟨m,⟨h0,h1,h2,q1⟩,q2⟩
    . rintro ⟨m,⟨h0,h1,h2,h3⟩,q⟩
      exact ⟨h0,h1,h2,Runs.app.mpr ⟨m,h3,q⟩⟩
structure G (C:Cmp) (L0:List Keyed) (st:SortSt) (lo:Nat):Prop where
 kind:kindOf st=C.kd
 fine:failedOf st=none
 perm:(arrOf st).toList.Perm L0
 runs:Runs C (arrOf st).toList (pendingOf st).toList 0 lo
 le:lo<=(arrOf st).size
theorem GO (off:Nat):∀ (M:List Keyed) (j0:Nat) (arr:Array Keyed),off+j0+M.length<=arr.size->((M.zipIdx j0).foldl (fun a x=>a.setIfInBounds (off+x.2) x.1) arr).toList=arr.toList.take (off+j0)++M++arr.toList.drop (off+j0+M.length)
  | [],j0,arr,h=>by simp
  | m::M,j0,arr,h=>by
    rw [List.zipIdx_cons,List.foldl_cons]
    have h':off+j0 < arr.size:=by simp at h;lia
    rw [GO off M (j0+1) _ (by simp at h ⊢;lia)]
    have e:(arr.setIfInBounds (off+j0) m).toList=arr.toList.take (off+j0)++m::arr.toList.drop (off+j0+1):=by
      rw [Array.toList_setIfInBounds,List.set_eq_take_append_cons_drop,C9 (by simpa using h')]
    have hl:(arr.toList.take (off+j0)).length=off+j0:=by simp;lia
    have t1:(arr.toList.take (off+j0)++m::arr.toList.drop (off+j0+1)).take (off+(j0+1))=arr.toList.take (off+j0)++[m]:=by
      rw [List.take_append,hl,show off+(j0+1) - (off+j0)=1 by lia,Ci (by lia)];simp
    have t2:(arr.toList.take (off+j0)++m::arr.toList.drop (off+j0+1)).drop (off+(j0+1)+M.length)=arr.toList.drop (off+j0+(m::M).length):=by
      rw [List.drop_append,hl,Cn (by lia),show off+(j0+1)+M.length - (off+j0)=M.length+1 by lia]
      simp [Cu]
      congr 1
      lia
    show _=_
    rw [e,t1,t2]
    simp
theorem Qfy (i:Nat):mAt i=(do
  let s <- get
  let (some (sa,na,pw),some (sb,nb,_)):=((pendingOf s)[i]?,(pendingOf s)[i+1]?) | unsupported "internal:list.sort.pending"
  set (setPending s (((pendingOf s).setIfInBounds i (sa,na+nb,pw)).eraseIdxIfInBounds (i+1)))
  let some k <- gal false (<- elem' (arrOf s) sb) (arrOf s) sa na 0 | return false
  let (sa,na):=(sa+k,na - k)
  if na==0 then return true
  let some nb <- gal true (<- elem' (arrOf s) (sa+na - 1)) (arrOf s) sb nb (nb - 1) | return false
  if nb==0 then return true
  let x:=(arrOf s).extract sa sb
  let y:=(arrOf s).extract sb (sb+nb)
  let both <- if na<=nb then mLo x y else mHi x y
  modify fun s=>setArr s (both.toList.zipIdx.foldl (fun a x=>a.setIfInBounds (sa+x.2) x.1) (arrOf s))
  return (failedOf (<- get)).isNone):=rfl
def QbD (a:Array Keyed) (s n:Nat):(a.extract s (s+n)).toList=seg a.toList s n:=UA a s n
theorem Qc5 {σ:Type} {s' st:σ} {Q:PUnit->σ->Prop} (h:Q ⟨⟩ s'):W C (set s':StateT σ Sem PUnit) Q st:=by
 show wpS _ _ _ _ _ Q st
 unfold wpS
 rw [StateT.run_set];exact Ea ⟨rfl,h⟩
theorem QeP {L0:List Keyed} {st:SortSt} {lo i:Nat} {Q:Bool->SortSt->Prop} (hS:∀ p∈L0,C.S p) (g:G C L0 st lo) (hi:i+1 < (pendingOf st).size) (h:∀ st',G C L0 st' lo->(pendingOf st').size+1=(pendingOf st).size->(arrOf st').toList.drop lo=(arrOf st).toList.drop lo->Q true st'):W C (mAt i) Q st:=by
 have memS:∀ p∈(arrOf st).toList,C.S p:=fun p U=>hS p (g.perm.mem_iff.mp U)
 have e1:(pendingOf st)[i]?=some (pendingOf st)[i]:=getElem?_pos _ i (by lia)
 have e2:(pendingOf st)[i+1]?=some (pendingOf st)[i+1]:=getElem?_pos _ (i+1) hi
 obtain ⟨⟨sa,na,pw⟩,ea⟩:∃ x,(pendingOf st)[i]=x:=⟨_,rfl⟩
 obtain ⟨⟨sb,nb,pw2⟩,eb⟩:∃ x,(pendingOf st)[i+1]=x:=⟨_,rfl⟩
 rw [ea] at e1
 rw [eb] at e2
 have split:(pendingOf st).toList=(pendingOf st).toList.take i++(sa,na,pw)::(sb,nb,pw2)::(pendingOf st).toList.drop (i+2):=by
  have l1:i < (pendingOf st).toList.length:=by simp;lia
  have l2:i+1 < (pendingOf st).toList.length:=by simpa using hi
  conv=>lhs;rw [<- B0 i (pendingOf st).toList,Bi l1,Bi l2]
  simp [ea,eb]
 have Oz:(((pendingOf st).setIfInBounds i (sa,na+nb,pw)).eraseIdxIfInBounds (i+1)).toList=(pendingOf st).toList.take i++(sa,na+nb,pw)::(pendingOf st).toList.drop (i+2):=by
  have l1:i < (pendingOf st).toList.length:=by simp;lia
  have:∀ (x:Array (Nat×Nat×Nat)) k,(x.eraseIdxIfInBounds k).toList=x.toList.eraseIdx k:=fun x k=>by
   have e:x=x.toList.toArray:=by simp
   conv=>lhs;rw [e,List.eraseIdxIfInBounds_toArray]
  rw [this,Array.toList_setIfInBounds,List.set_eq_take_append_cons_drop,C9 l1]
  have l3:((pendingOf st).toList.take i).length=i:=by simp;lia
  rw [List.eraseIdx_append_of_length_le (by lia),l3,show i+1 - i=1 by lia]
  rw [Bi (by simpa using hi)]
  rfl
 have r:=g.runs
 rw [split] at r
 obtain ⟨m,r1,⟨hsa,hna,sA,hsb,hnb,sB,r2⟩⟩:=Runs.app.mp r
 subst hsa hsb
 have hle:=r2.le
 have hsz:=g.le
 have hlen:(arrOf st).toList.length=(arrOf st).size:=by simp
 have lr1:=r1.le
 generalize hL:(arrOf st).toList=L at *
 have done:∀ (st':SortSt) (M:List Keyed),kindOf st'=kindOf st->failedOf st'=failedOf st->pendingOf st'=((pendingOf st).setIfInBounds i (sa,na+nb,pw)).eraseIdxIfInBounds (i+1)->(arrOf st').toList=L.take sa++M++L.drop (sa+(na+nb))->Srt C M->M.Perm (seg L sa na++seg L (sa+na) nb)->Q true st':=by
  intro st' M q1 q2 q3 q4 q5 q6
  have hM:M.length=na+nb:=by rw [q6.length_eq,An,XS (by lia),XS (by lia)]
  have hT:(L.take sa).length=sa:=by simp;lia
  have hOld:=UW L sa (na+nb)
  have hseg:(seg L sa (na+nb)).length=M.length:=by rw [XS (by lia),hM]
  refine h st' ⟨q1.trans g.kind,q2.trans g.fine,?_,?_,?_⟩ ?_ ?_
  ·rw [q4]
   refine List.Perm.trans ?_ (show L.Perm L0 from hL▸g.perm)
   conv=>rhs;rw [hOld,yx]
   exact List.Perm.append_right _ (List.Perm.append_left _ q6)
  ·rw [q3,Oz,q4]
   refine Runs.app.mpr ⟨sa,r1.congr fun a n ha hn=>?_,rfl,by lia,?_,?_⟩
   ·conv=>rhs;rw [hOld]
    exact Qen (by rw [hT];lia)
   ·rw [Qem hT.symm hM.symm];exact q5
   ·have r2':Runs C L ((pendingOf st).toList.drop (i+2)) (sa+(na+nb)) lo:=by rw [<- Nat.add_assoc];exact r2
    refine r2'.congr fun a n ha hn=>?_
    conv=>rhs;rw [hOld]
    exact QcD hseg.symm (by rw [hT,hM];lia)
  ·have:(arrOf st').size=(arrOf st).size:=by
    have e:=congrArg List.length q4
    rw [An,An,hM,hT,Bq] at e
    rw [<- Cj,e];lia
   lia
  ·have e:=congrArg List.length Oz
   rw [<- q3] at e
   have e0:=congrArg List.length split
   simp at e e0
   lia
  ·have d:L.drop lo=(L.drop (sa+(na+nb))).drop (lo - (sa+(na+nb))):=by rw [Cu];congr 1;lia
   have hl:(L.take sa++M).length=sa+(na+nb):=by rw [An,hT,hM]
   rw [q4,d,List.drop_append,hl,List.drop_eq_nil_of_le (by rw [hl];lia),List.nil_append]
 rw [Qfy]
 refine Eb (wpS_get ?_)
 simp only [e1,e2]
 refine Eb (Qc5 ?_)
 have kd:kindOf (setPending st (((pendingOf st).setIfInBounds i (sa,na+nb,pw)).eraseIdxIfInBounds (i+1)))=C.kd:=g.kind
 generalize hst:setPending st (((pendingOf st).setIfInBounds i (sa,na+nb,pw)).eraseIdxIfInBounds (i+1))=st1 at kd
 have h1k:kindOf st1=kindOf st:=by rw [<- hst]
 have h1f:failedOf st1=failedOf st:=by rw [<- hst]
 have h1p:pendingOf st1=((pendingOf st).setIfInBounds i (sa,na+nb,pw)).eraseIdxIfInBounds (i+1):=by rw [<- hst]
 have h1a:arrOf st1=arrOf st:=by rw [<- hst]
 have hbs:sa+na < (arrOf st).size:=by lia
 have sA':Srt C (seg (arrOf st).toList sa na):=by rw [hL];exact sA
 have sB':Srt C (seg (arrOf st).toList (sa+na) nb):=by rw [hL];exact sB
 have memS':∀ p∈(arrOf st).toList,C.S p:=by rw [hL];exact memS
 have b0:∀ y∈seg L (sa+na) nb,C.key (arrOf st)[sa+na]<=C.key y:=fun y hy=>by
  rw [<- hL] at hy
  obtain ⟨t,ht,z,rfl⟩:=qK hy
  have:=K2 sB' (by lia) (Be t) ht
  rw [Nat.add_zero,Jp _ hbs,Jp _ z] at this
  exact this
 refine Eb (Zr hbs (Eb (YF (fun t=>!decide (C.key (arrOf st)[sa+na] < kx C (arrOf st) (sa+t))) kd (memS' _ (by simp)) memS' (by lia) (by lia) (fun t _=>rfl) (fun s t h1 h2 h3=>?_) fun k h1 h2 h3=>?_)))
 ·have q:=K2 sA' (by lia) h1 h2
  simp only [Cq,decide_eq_false_iff_not] at h3 ⊢
  lia
 dsimp only
 have A1:∀ x∈seg L sa k,C.key x<=C.key (arrOf st)[sa+na]:=fun x hx=>by
  rw [<- hL] at hx
  obtain ⟨t,ht,z,rfl⟩:=qK hx
  have e:=h2 t ht
  simp only [Cq,decide_eq_false_iff_not] at e
  rw [Jp _ z] at e
  lia
 have A2:∀ x∈seg L (sa+k) (na - k),C.key (arrOf st)[sa+na] < C.key x:=fun x hx=>by
  rw [<- hL] at hx
  obtain ⟨t,ht,z,rfl⟩:=qK hx
  have e:=h3 (k+t) (by lia) (by lia)
  simp only [Bool.not_eq_false',decide_eq_true_eq] at e
  rw [<- Nat.add_assoc,Jp _ z] at e
  exact e
 have eA:seg L sa na=seg L sa k++seg L (sa+k) (na - k):=by rw [<- yx,show k+(na - k)=na by lia]
 have same:(arrOf st1).toList=L.take sa++(seg L sa na++seg L (sa+na) nb)++L.drop (sa+(na+nb)):=by
  rw [h1a,hL,<- yx];exact UW L sa (na+nb)
 by_cases hz:na - k=0
 ·rw [C9 (by simpa using hz)]
  have hk':k=na:=by lia
  subst hk'
  exact Ec (done st1 _ h1k h1f h1p same (sA.app sB fun x hx y hy=>C0 (A1 x hx) (b0 y hy)) (List.Perm.refl _))
 rw [C8 (by simpa using hz)]
 have hla:sa+k+(na - k) - 1 < (arrOf st).size:=by lia
 have eidx:sa+k+(na - k) - 1=sa+(na - 1):=by lia
 have kl:∀ x∈seg L sa na,C.key x<=C.key ((arrOf st)[sa+k+(na - k) - 1]'hla):=fun x hx=>by
  rw [<- hL] at hx
  obtain ⟨t,ht,z,rfl⟩:=qK hx
  have e:=K2 sA' (by lia) (show t<=na - 1 by lia) (by lia)
  rw [Jp _ z,<- eidx,Jp _ hla] at e
  exact e
 refine Eb (Zr hla (Eb (YF (fun t=>decide (kx C (arrOf st) (sa+na+t) < C.key ((arrOf st)[sa+k+(na - k) - 1]'hla))) kd (memS' _ (by simp)) memS' (by lia) (by lia) (fun t _=>rfl) (fun s t h1 h2 h3=>?_) fun nb' g1 g2 g3=>?_)))
 ·exact Ed (Int.lt_of_le_of_lt (K2 sB' (by lia) h1 h2) (Ee h3))
 dsimp only
 generalize hal:C.key ((arrOf st)[sa+k+(na - k) - 1]'hla)=al at kl g2 g3
 have B1:∀ y∈seg L (sa+na) nb',C.key y < al:=fun y hy=>by
  rw [<- hL] at hy
  obtain ⟨t,ht,z,rfl⟩:=qK hy
  have e:=Ee (g2 t ht)
  rwa [Jp _ z] at e
 have B2:∀ y∈seg L (sa+na+nb') (nb - nb'),al<=C.key y:=fun y hy=>by
  rw [<- hL] at hy
  obtain ⟨t,ht,z,rfl⟩:=qK hy
  have e:=of_decide_eq_false (g3 (nb'+t) (by lia) (by lia))
  rw [<- Nat.add_assoc,Jp _ z] at e
  lia
 have eB:seg L (sa+na) nb=seg L (sa+na) nb'++seg L (sa+na+nb') (nb - nb'):=by rw [<- yx,show nb'+(nb - nb')=nb by lia]
 by_cases hz2:nb'=0
 ·rw [C9 (by simpa using hz2)]
  subst hz2
  refine Ec (done st1 _ h1k h1f h1p same (sA.app sB fun x hx y hy=>?_) (List.Perm.refl _))
  exact C0 (kl x hx) (B2 y (by simpa using hy))
 rw [C8 (by simpa using hz2)]
 have ex:((arrOf st).extract (sa+k) (sa+na)).toList=seg L (sa+k) (na - k):=by
  rw [show sa+na=sa+k+(na - k) by lia,QbD,hL]
 have ey:((arrOf st).extract (sa+na) (sa+na+nb')).toList=seg L (sa+na) nb':=by rw [QbD,hL]
 have sx:((arrOf st).extract (sa+k) (sa+na)).size=na - k:=by rw [<- Cj,ex,XS (by lia)]
 have sy:((arrOf st).extract (sa+na) (sa+na+nb')).size=nb':=by rw [<- Cj,ey,XS (by lia)]
 have sX:Srt C (seg L (sa+k) (na - k)):=by rw [eA] at sA;exact (Bv.mp sA).2.1
 have sY:Srt C (seg L (sa+na) nb'):=by rw [eB] at sB;exact (Bv.mp sB).1
 have sY2:Srt C (seg L (sa+na+nb') (nb - nb')):=by rw [eB] at sB;exact (Bv.mp sB).2.1
 have sA1:Srt C (seg L sa k):=by rw [eA] at sA;exact (Bv.mp sA).1
 have inL:∀ s n,∀ p∈seg L s n,p∈L:=fun s n p U=>Cd (Bx U)
 have T:Two C ((arrOf st).extract (sa+k) (sa+na)) ((arrOf st).extract (sa+na) (sa+na+nb')):=by
  refine ⟨by rw [ex];exact sX,by rw [ey];exact sY,by rw [ex];exact fun p U=>memS p (inL _ _ p U),by rw [ey];exact fun p U=>memS p (inL _ _ p U),by lia,by lia,?_,?_⟩
  ·rw [ex,ey]
   intro y hy x hx
   have:x∈seg L (sa+na) 1:=by
    unfold seg at hx ⊢
    rw [List.take_take] at hx
    rwa [Nat.min_eq_left (by lia)] at hx
   rw [<- hL] at this
   have e:=XO (arrOf st) hbs
   unfold seg at this
   rw [e] at this
   rw [Ar.mp this]
   exact Ck (A2 y hy)
  ·rw [ex,ey,sx]
   intro x hx y hy
   have hx':x∈seg L (sa+k+(na - k) - 1) 1:=by
    unfold seg at hx ⊢
    rw [List.drop_take,Cu,show na - k - (na - k - 1)=1 by lia] at hx
    rwa [show sa+k+(na - k) - 1=sa+k+(na - k - 1) by lia]
   rw [<- hL] at hx'
   have e:=XO (arrOf st) hla
   unfold seg at hx'
   rw [e] at hx'
   rw [Ar.mp hx',hal]
   exact Ck (B1 y hy)
 have fin:∀ (r:Array Keyed) (st2:SortSt),Sm st1 st2->Fin C ((arrOf st).extract (sa+k) (sa+na)).toList ((arrOf st).extract (sa+na) (sa+na+nb')).toList r.toList->W C (do
   modify fun s=>setArr s (r.toList.zipIdx.foldl (fun a x=>a.setIfInBounds (sa+k+x.2) x.1) (arrOf s))
   let __do_lift <- get
   pure (failedOf __do_lift).isNone:StateT SortSt Sem Bool) Q st2:=by
  intro r st2 hs ⟨f1,f2⟩
  rw [ex,ey] at f2
  refine Eb (wpS_modify (Eb (wpS_get ?_)))
  have hf:failedOf (setArr st2 (r.toList.zipIdx.foldl (fun a x=>a.setIfInBounds (sa+k+x.2) x.1) (arrOf st2)))=none:=(hs.2.2.2.trans h1f).trans g.fine
  rw [hf]
  have rl:r.toList.length=na - k+nb':=by rw [f2.length_eq,An,XS (by lia),XS (by lia)]
  have a2:arrOf st2=arrOf st:=hs.2.1.trans h1a
  have mem2:∀ x∈r.toList,x∈seg L (sa+k) (na - k)∨x∈seg L (sa+na) nb':=fun x hx=>Ai.mp (f2.mem_iff.mp hx)
  refine Ec (done _ (seg L sa k++r.toList++seg L (sa+na+nb') (nb - nb')) (hs.1.trans h1k) (hs.2.2.2.trans h1f) (hs.2.2.1.trans h1p) ?_ ?_ ?_)
  ·show ((r.toList.zipIdx.foldl (fun a x=>a.setIfInBounds (sa+k+x.2) x.1) (arrOf st2)).toList)=_
   rw [a2,GO (sa+k) r.toList 0 (arrOf st) (by rw [rl];lia),hL,Nat.add_zero,rl]
   have t1:L.take (sa+k)=L.take sa++seg L sa k:=by unfold seg;rw [List.take_add]
   have t2:L.drop (sa+k+(na - k+nb'))=seg L (sa+na+nb') (nb - nb')++L.drop (sa+(na+nb)):=by
    unfold seg
    rw [show sa+k+(na - k+nb')=sa+na+nb' by lia,show L.drop (sa+(na+nb))=(L.drop (sa+na+nb')).drop (nb - nb') by rw [Cu];congr 1;lia,B0]
   rw [t1,t2]
   simp [A8]
  ·refine (sA1.app f1 fun x hx y hy=>?_).app sY2 fun x hx y hy=>?_
   ·rcases mem2 y hy with w | w
    ·exact C0 (A1 x hx) (Ck (A2 y w))
    ·exact C0 (A1 x hx) (b0 y (by rw [eB];exact A7 _ w))
   ·have hy':=B2 y hy
    rcases Ai.mp hx with w | w
    ·exact C0 (A1 x w) (b0 y (by rw [eB];exact Aj _ hy))
    ·rcases mem2 x w with v | v
     ·exact C0 (kl x (by rw [eA];exact Aj _ v)) hy'
     ·exact Ck (Int.lt_of_lt_of_le (B1 x v) hy')
  ·rw [eA,eB]
   have:(seg L sa k++r.toList++seg L (sa+na+nb') (nb - nb')).Perm (seg L sa k++(seg L (sa+k) (na - k)++seg L (sa+na) nb')++seg L (sa+na+nb') (nb - nb')):=List.Perm.append_right _ (List.Perm.append_left _ f2)
   simpa [A8] using this
 by_cases hle2:na - k<=nb'
 ·rw [C9 hle2]
  exact Eb (QgZ T kd fun r st2 hs hf=>fin r st2 hs hf)
 ·rw [C8 hle2]
  exact Eb (QgY T kd fun r st2 hs hf=>fin r st2 hs hf)
variable {C:Cmp}
structure Bs (C:Cmp) (st₀ st:SortSt) (lo:Nat):Prop where
 kind:kindOf st=C.kd
 fine:failedOf st=none
 pend:pendingOf st=pendingOf st₀
 perm:(arrOf st).toList.Perm (arrOf st₀).toList
 low:∀ i:Nat,i < lo->(arrOf st)[i]?=(arrOf st₀)[i]?
 mem:∀ p∈(arrOf st₀).toList,C.S p
def SR (C:Cmp) (st:SortSt) (lo n:Nat):Prop:=∀ i j,i<=j->j < n->kx C (arrOf st) (lo+i)<=kx C (arrOf st) (lo+j)
def NI (C:Cmp) (st:SortSt) (lo n:Nat):Prop:=∀ i j,i<=j->j < n->kx C (arrOf st) (lo+j)<=kx C (arrOf st) (lo+i)
section
variable {st₀ st:SortSt} {lo n m:Nat}
theorem Bs.size (b:Bs C st₀ st lo):(arrOf st).size=(arrOf st₀).size:=by have:=b.perm.length_eq;simpa using this
def Bs.ok (b:Bs C st₀ st lo):Ok C st:=⟨b.kind,b.fine,fun p U=>b.mem p (b.perm.mem_iff.mp U)⟩
theorem Bs.set (b:Bs C st₀ st lo) {xs:Array Keyed} (U:xs.Perm (arrOf st)) (hl:∀ i:Nat,i < lo->xs[i]?=(arrOf st)[i]?):Bs C st₀ (setArr st xs) lo :=
 ⟨b.kind,b.fine,b.pend,(Array.perm_iff_toList_perm.mp U).trans b.perm,fun i h=>(hl i h).trans (b.low i h),b.mem⟩
theorem GY {xs ys:Array Keyed} {i j:Nat} (h:xs[i]?=ys[j]?):kx C xs i=kx C ys j:=by unfold kx;rw [h]
theorem xo {xs:Array Keyed} {i j:Nat} (hj:j<=xs.size) (k:Nat):kx C (mirror xs i j ((j - i) / 2)) k=if i<=k/\k < j then kx C xs (i+j - 1 - k) else kx C xs k:=by
 have e:=getElem?_mirror_all (i:=i) hj k
 split at e<;>rename_i q
 ·rw [C9 q];exact GY e
 ·rw [C8 q];exact GY e
theorem Bs.mirror (b:Bs C st₀ st lo) {i j:Nat} (hi:lo<=i) (hj:j<=(arrOf st).size):Bs C st₀ (setArr st (mirror (arrOf st) i j ((j - i) / 2))) lo :=
 b.set (mirror_perm _ _ _ _) fun k hk=>by rw [getElem?_mirror_all hj,C8 (by lia)]
theorem KC {xs:Array Keyed} {i j:Nat} (hj:j<=xs.size) (he:∀ k,i<=k->k < j->kx C xs k=kx C xs (j - 1)) (k:Nat):kx C (mirror xs i j ((j - i) / 2)) k=kx C xs k:=by
 rw [xo hj]
 split
 ·rename_i q
  rw [he (i+j - 1 - k) (by lia) (by lia),he k q.1 q.2]
 ·rfl
theorem kJ {i j:Nat} {Q:Unit->SortSt->Prop} (h:Q () (setArr st (mirror (arrOf st) i j ((j - i) / 2)))):W C (reverseSlice' i j) Q st:=by
 rw [reverseSlice'_eq];exact wpS_modify h
def QcY (lo n nrem:Nat):StateT SortSt Sem (Option Nat):=do
 reverseSlice' lo (lo+n)
 let mut m:=n
 for _ in [n:nrem] do
  let some less <- ltAt' (lo+m) (lo+m - 1) | return none
  if less then break
  m:=m+1
 return some m
theorem kR {nrem:Nat} {Q:Option Nat->SortSt->Prop} (b:Bs C st₀ st lo) (h1:1<=n) (hn:n<=nrem) (hs:lo+nrem<=(arrOf st₀).size) (ni:NI C st lo n) (h:∀ m st',Bs C st₀ st' lo->1<=m->m<=nrem->SR C st' lo m->Q (some m) st'):W C (QcY lo n nrem) Q st:=by
 unfold QcY
 have hz:=b.size
 refine Eb (kJ ?_)
 have b1:=b.mirror (i:=lo) (j:=lo+n) (Ae _) (by lia)
 have s1:SR C (setArr st (PyProof.Rows.mirror (arrOf st) lo (lo+n) ((lo+n - lo) / 2))) lo n:=fun i j hij hj=>by
  show kx C (PyProof.Rows.mirror _ _ _ _) _<=kx C (PyProof.Rows.mirror _ _ _ _) _
  rw [xo (by lia),xo (by lia),C9 (by lia),C9 (by lia)]
  have:=ni (n - 1 - j) (n - 1 - i) (by lia) (by lia)
  rw [show lo+(lo+n) - 1 - (lo+i)=lo+(n - 1 - i) by lia,show lo+(lo+n) - 1 - (lo+j)=lo+(n - 1 - j) by lia]
  exact this
 generalize setArr st (PyProof.Rows.mirror (arrOf st) lo (lo+n) ((lo+n - lo) / 2))=st1 at b1 s1 ⊢
 have hz1:=b1.size
 dsimp only
 refine Eb (wpS_mono (wpS_forRange (I:=fun x c st'=>st'=st1/\c=(none,x)/\SR C st1 lo x) (Q:=fun c st'=>st'=st1/\∃ m,c=(none,m)/\1<=m/\m<=nrem/\SR C st1 lo m) ?step ?fin ⟨rfl,rfl,s1⟩) ?post)
 case post =>
  rintro c st' ⟨rfl,m,rfl,q1,q2,q3⟩
  exact Ec (h m _ b1 q1 q2 q3)
 case fin =>
  rintro c st' ⟨rfl,rfl,q⟩
  rw [show max n nrem=nrem by lia] at q ⊢
  exact ⟨rfl,nrem,rfl,by lia,Ae _,q⟩
 case step =>
  rintro x c st' hx hxn ⟨rfl,rfl,q⟩
  dsimp only
  refine Eb (xq b1.ok (by lia) (by lia) ?_)
  by_cases hl:kx C (arrOf st') (lo+x) < kx C (arrOf st') (lo+x - 1)
  ·simp only [hl,decide_true,if_true]
   exact Ec ⟨rfl,x,rfl,by lia,by lia,q⟩
  ·simp only [hl,decide_false,Az,if_false]
   refine Ec ⟨rfl,rfl,fun i j hij hj=>?_⟩
   rcases Bh j x with w | w
   ·exact q i j hij w
   ·have:j=x:=by lia
    subst this
    rcases Bh i j with v | v
    ·have:=q i (j - 1) (by lia) (by lia)
     rw [show lo+(j - 1)=lo+j - 1 by lia] at this
     lia
    ·have:i=j:=by lia
     subst this;exact Bo _
def QeJ (lo n0 nrem:Nat):StateT SortSt Sem (Option Nat):=do
 rule "list.sort.descending-run"
 let mut n:=n0+1
 let mut eqs:=0
 for _ in [n:nrem] do
  let some less <- ltAt' (lo+n) (lo+n - 1) | return none
  if less then
   if eqs > 0 then reverseSlice' (lo+n - (eqs+1)) (lo+n)
   eqs:=0
  else
   let some more <- ltAt' (lo+n - 1) (lo+n) | return none
   if more then break
   eqs:=eqs+1
  n:=n+1
 if eqs > 0 then reverseSlice' (lo+n - (eqs+1)) (lo+n)
 QcY lo n nrem
theorem gF {nrem:Nat} {Q:Option Nat->SortSt->Prop} (b:Bs C st₀ st lo) (hn:n+1<=nrem) (hs:lo+nrem<=(arrOf st₀).size) (ni:NI C st lo (n+1)) (h:∀ m st',Bs C st₀ st' lo->1<=m->m<=nrem->SR C st' lo m->Q (some m) st'):W C (QeJ lo n nrem) Q st:=by
 unfold QeJ
 refine Eb (xB ?_)
 dsimp only
 refine Eb (wpS_mono (wpS_forRange (I:=fun x c st'=>∃ eqs,c=(none,x,eqs)/\Bs C st₀ st' lo/\NI C st' lo x/\eqs+1<=x/\∀ i,x - (eqs+1)<=i->i < x->kx C (arrOf st') (lo+i)=kx C (arrOf st') (lo+x - 1))
  (Q:=fun c st'=>∃ x eqs,c=(none,x,eqs)/\Bs C st₀ st' lo/\NI C st' lo x/\eqs+1<=x/\1<=x/\x<=nrem/\∀ i,x - (eqs+1)<=i->i < x->kx C (arrOf st') (lo+i)=kx C (arrOf st') (lo+x - 1)) ?step ?fin ⟨0,rfl,b,ni,by lia,fun i h1 h2=>by congr 1;lia⟩) ?post)
 case fin =>
  rintro c st' ⟨eqs,rfl,q1,q2,q3,q4⟩
  rw [show max (n+1) nrem=nrem by lia] at q2 q3 q4 ⊢
  exact ⟨nrem,eqs,rfl,q1,q2,q3,by lia,Ae _,q4⟩
 case step =>
  rintro x c st' hx hxn ⟨eqs,rfl,q1,q2,q3,q4⟩
  dsimp only
  have hz:=q1.size
  refine Eb (xq q1.ok (by lia) (by lia) ?_)
  by_cases hl:kx C (arrOf st') (lo+x) < kx C (arrOf st') (lo+x - 1)
  ·simp only [hl,decide_true,if_true]
   have more:∀ ys:Array Keyed,(∀ k,kx C ys k=kx C (arrOf st') k)->∀ i j,i<=j->j < x+1->kx C ys (lo+j)<=kx C ys (lo+i):=fun ys hy i j hij hj=>by
    rw [hy,hy]
    rcases Bh j x with w | w
    ·exact q2 i j hij w
    ·have:j=x:=by lia
     subst this
     rcases Bh i j with v | v
     ·have:=q2 i (j - 1) (by lia) (by lia)
      rw [show lo+(j - 1)=lo+j - 1 by lia] at this
      lia
     ·have:i=j:=by lia
      subst this;exact Bo _
   by_cases he:eqs > 0
   ·rw [C9 he]
    refine Eb (kJ (Ec ⟨0,rfl,q1.mirror (by lia) (by lia),more _ (KC (by lia) fun k h1 h2=>?_),by lia,fun i h1 h2=>by congr 1;lia⟩))
    have e:=q4 (k - lo) (by lia) (by lia)
    rwa [show lo+(k - lo)=k by lia] at e
   ·rw [C8 he]
    exact Ec ⟨0,rfl,q1,more _ fun _=>rfl,by lia,fun i h1 h2=>by congr 1;lia⟩
  ·simp only [hl,decide_false,Az,if_false]
   refine Eb (xq q1.ok (by lia) (by lia) ?_)
   by_cases hm:kx C (arrOf st') (lo+x - 1) < kx C (arrOf st') (lo+x)
   ·simp only [hm,decide_true,if_true]
    exact Ec ⟨x,eqs,rfl,q1,q2,q3,by lia,by lia,q4⟩
   ·simp only [hm,decide_false,Az,if_false]
    have ee:kx C (arrOf st') (lo+x)=kx C (arrOf st') (lo+x - 1):=by lia
    refine Ec ⟨eqs+1,rfl,q1,fun i j hij hj=>?_,by lia,fun i h1 h2=>?_⟩
    ·rcases Bh j x with w | w
     ·exact q2 i j hij w
     ·have:j=x:=by lia
      subst this
      rcases Bh i j with v | v
      ·have:=q2 i (j - 1) (by lia) (by lia)
       rw [show lo+(j - 1)=lo+j - 1 by lia] at this
       lia
      ·have:i=j:=by lia
       subst this;exact Bo _
    ·rw [show lo+(x+1) - 1=lo+x by lia]
     rcases Bh i x with w | w
     ·rw [q4 i (by lia) w,ee]
     ·have:i=x:=by lia
      subst this;rfl
 case post =>
  rintro c st' ⟨x,eqs,rfl,q1,q2,q3,q4,q5,q6⟩
  dsimp only
  have hz:=q1.size
  by_cases he:eqs > 0
  ·rw [C9 he]
   refine Eb (kJ (kR (q1.mirror (by lia) (by lia)) q4 q5 hs ?_ h))
   intro i j hij hj
   show kx C (PyProof.Rows.mirror _ _ _ _) _<=kx C (PyProof.Rows.mirror _ _ _ _) _
   have same:=KC (C:=C) (xs:=arrOf st') (i:=lo+x - (eqs+1)) (j:=lo+x) (by lia) fun k h1 h2=>by
    have e:=q6 (k - lo) (by lia) (by lia)
    rwa [show lo+(k - lo)=k by lia] at e
   rw [same,same]
   exact q2 i j hij hj
  ·rw [C8 he]
   exact kR q1 q4 q5 hs q2 h
theorem v0 {nrem:Nat} {Q:Option Nat->SortSt->Prop} (b:Bs C st₀ st lo) (h1:1<=nrem) (hs:lo+nrem<=(arrOf st₀).size) (h:∀ m st',Bs C st₀ st' lo->1<=m->m<=nrem->SR C st' lo m->Q (some m) st'):W C (countRun' lo nrem) Q st:=by
 have hz:=b.size
 rw [countRun'_eq]
 dsimp only
 refine Eb (wpS_mono (wpS_forRange (I:=fun x c st'=>st'=st/\c=(none,x)/\SR C st lo x) (Q:=fun c st'=>st'=st/\∃ m,c=(none,m)/\1<=m/\m<=nrem/\SR C st lo m/\(m=nrem∨kx C (arrOf st) (lo+m) < kx C (arrOf st) (lo+m - 1))) ?step ?fin ⟨rfl,rfl,fun i j hij hj=>(by obtain rfl:i=j:=(by lia);exact Bo _)⟩) ?post)
 case fin =>
  rintro c st' ⟨rfl,rfl,q⟩
  rw [show max 1 nrem=nrem by lia] at q ⊢
  exact ⟨rfl,nrem,rfl,by lia,Ae _,q,.inl rfl⟩
 case step =>
  rintro x c st' hx hxn ⟨rfl,rfl,q⟩
  dsimp only
  refine Eb (xq b.ok (by lia) (by lia) ?_)
  by_cases hl:kx C (arrOf st') (lo+x) < kx C (arrOf st') (lo+x - 1)
  ·simp only [hl,decide_true,if_true]
   exact Ec ⟨rfl,x,rfl,by lia,by lia,q,.inr hl⟩
  ·simp only [hl,decide_false,Az,if_false]
   refine Ec ⟨rfl,rfl,fun i j hij hj=>?_⟩
   rcases Bh j x with w | w
   ·exact q i j hij w
   ·have:j=x:=by lia
    subst this
    rcases Bh i j with v | v
    ·have:=q i (j - 1) (by lia) (by lia)
     rw [show lo+(j - 1)=lo+j - 1 by lia] at this
     lia
    ·have:i=j:=by lia
     subst this;exact Bo _
 case post =>
  rintro c st' ⟨rfl,m,rfl,q1,q2,q3,q4⟩
  dsimp only
  by_cases hm:m=nrem
  ·rw [C9 (by simpa using hm)]
   exact Ec (h m _ b q1 q2 q3)
  ·rw [C8 (by simpa using hm)]
   have lt:=q4.resolve_left hm
   by_cases hg:m > 1
   ·rw [C9 hg]
    refine Eb (xq b.ok (by lia) (by lia) ?_)
    by_cases hr:kx C (arrOf st') lo < kx C (arrOf st') (lo+m - 1)
    ·simp only [hr,decide_true,if_true]
     exact Ec (h m _ b q1 q2 q3)
    ·simp only [hr,decide_false,Az,if_false]
     have all:∀ k,k < m->kx C (arrOf st') (lo+k)=kx C (arrOf st') (lo+m - 1):=fun k hk=>by
      have e1:=q3 0 k (by lia) hk
      have e2:=q3 k (m - 1) (by lia) (by lia)
      rw [show lo+(m - 1)=lo+m - 1 by lia] at e2
      rw [Nat.add_zero] at e1
      lia
     have same:=KC (C:=C) (xs:=arrOf st') (i:=lo) (j:=lo+m) (by lia) fun k h1 h2=>by
      have e:=all (k - lo) (by lia)
      rwa [show lo+(k - lo)=k by lia] at e
     refine Eb (kJ (gF (b.mirror (Ae _) (by lia)) (by lia) hs (fun i j hij hj=>?_) h))
     show kx C (PyProof.Rows.mirror _ _ _ _) _<=kx C (PyProof.Rows.mirror _ _ _ _) _
     rw [same,same]
     rcases Bh j m with w | w
     ·rw [all i (by lia),all j w];exact Bo _
     ·have:j=m:=by lia
      subst this
      rcases Bh i j with v | v
      ·rw [all i v];exact Ck lt
      ·have:i=j:=by lia
       subst this;exact Bo _
   ·rw [C8 hg]
    have:m=1:=by lia
    subst this
    refine gF b (by lia) hs (fun i j hij hj=>?_) h
    rcases Bh i j with v | v
    ·have e1:i=0:=by lia
     have e2:j=1:=by lia
     subst e1 e2
     rw [Nat.add_zero]
     exact Ck lt
    ·have:i=j:=by lia
     subst this;exact Bo _
theorem QaA {xs:Array Keyed} {src d:Nat} (hs:src < xs.size) (hd:d<=src) (k:Nat):kx C (bubble xs src d) k=if k=src - d then kx C xs src else if src - d < k/\k<=src then kx C xs (k - 1) else kx C xs k:=by
 have e:=getElem?_bubble hs d hd k
 split at e<;>rename_i q
 ·rw [C9 q];exact GY e
 ·rw [C8 q]
  split at e<;>rename_i q2
  ·rw [C9 q2];exact GY e
  ·rw [C8 q2];exact GY e
theorem Qbk {ok:Nat} {Q:Bool->SortSt->Prop} (b:Bs C st₀ st lo) (h1:1<=ok) (hn:ok<=n) (hs:lo+n<=(arrOf st₀).size) (sr:SR C st lo ok) (h:∀ st',Bs C st₀ st' lo->SR C st' lo n->Q true st'):W C (binarySort' lo n ok) Q st:=by
 rw [binarySort'_eq]
 refine Eb (wpS_mono (wpS_forRange (I:=fun k c st'=>c=(none,())/\Bs C st₀ st' lo/\SR C st' lo (min k n)) (Q:=fun c st'=>c=(none,())/\Bs C st₀ st' lo/\SR C st' lo n) ?step ?fin ?init) ?post)
 case post =>
  rintro c st' ⟨rfl,q1,q2⟩
  exact Ec (h st' q1 q2)
 case init=>exact ⟨rfl,b,fun i j hij hj=>sr i j hij (by lia)⟩
 case fin =>
  rintro c st' ⟨e,q1,q2⟩
  refine ⟨e,q1,?_⟩
  rwa [show min (max (max ok 1) n) n=n by lia] at q2
 case step =>
  rintro k c st' hk hkn ⟨rfl,q1,q2⟩
  rw [show min k n=k by lia] at q2
  have hz:=q1.size
  refine Eb (wpS_mono (wpS_forRange (I:=fun x c st''=>st''=st'/\∃ l r,c=(none,l,r)/\l<=r/\r<=k/\r - l<=k - x/\(∀ i,i < l->kx C (arrOf st') (lo+i)<=kx C (arrOf st') (lo+k))/\(∀ i,r<=i->i < k->kx C (arrOf st') (lo+k) < kx C (arrOf st') (lo+i)))
   (Q:=fun c st''=>st''=st'/\∃ l r,c=(none,l,r)/\l<=k/\(∀ i,i < l->kx C (arrOf st') (lo+i)<=kx C (arrOf st') (lo+k))/\(∀ i,l<=i->i < k->kx C (arrOf st') (lo+k) < kx C (arrOf st') (lo+i))) ?st2 ?fi2 ⟨rfl,0,k,rfl,by lia,by lia,by lia,(fun i hi=>by lia),fun i h1 h2=>by lia⟩) ?po2)
  case fi2 =>
   rintro c st'' ⟨rfl,l,r,rfl,g1,g2,g3,g4,g5⟩
   have:l=r:=by lia
   subst this
   exact ⟨rfl,l,l,rfl,g2,g4,g5⟩
  case st2 =>
   rintro x c st'' _ hx ⟨rfl,l,r,rfl,g1,g2,g3,g4,g5⟩
   dsimp only
   by_cases hlr:l≥r
   ·rw [C9 hlr]
    have:l=r:=by lia
    subst this
    exact Ec ⟨rfl,l,l,rfl,g2,g4,g5⟩
   ·rw [C8 hlr]
    refine Eb (xq q1.ok (by lia) (by lia) ?_)
    by_cases hl:kx C (arrOf st'') (lo+k) < kx C (arrOf st'') (lo+(l+r) / 2)
    ·simp only [hl,decide_true,if_true]
     exact Ec ⟨rfl,l,(l+r) / 2,rfl,by lia,by lia,by lia,g4,fun i u1 u2=>Int.lt_of_lt_of_le hl (q2 _ _ u1 u2)⟩
    ·simp only [hl,decide_false,Az,if_false]
     exact Ec ⟨rfl,(l+r) / 2+1,r,rfl,by lia,by lia,by lia,(fun i u1=>C0 (q2 i ((l+r) / 2) (by lia) (by lia)) (Int.not_lt.mp hl)),g5⟩
  case po2 =>
   rintro c st'' ⟨rfl,l,r,rfl,g1,g2,g3⟩
   show W C (do moveDown' (lo+k) (lo+l);pure (ForInStep.yield (none,()))) _ _
   rw [moveDown'_eq]
   have hks:lo+k < (arrOf st'').size:=by lia
   refine Eb (wpS_modify (Ec ⟨rfl,q1.set (bubble_perm _ _ _) (fun i hi=>?_),?_⟩))
   ·rw [getElem?_bubble hks _ (by lia),C8 (by lia),C8 (by lia)]
   rw [show min (k+1) n=k+1 by lia]
   intro i j hij hj
   show kx C (bubble (arrOf st'') (lo+k) (lo+k - (lo+l))) (lo+i)<=kx C (bubble (arrOf st'') (lo+k) (lo+k - (lo+l))) (lo+j)
   have val:∀ i,i<=k->kx C (bubble (arrOf st'') (lo+k) (lo+k - (lo+l))) (lo+i)=if i=l then kx C (arrOf st'') (lo+k) else if l < i then kx C (arrOf st'') (lo+(i - 1)) else kx C (arrOf st'') (lo+i):=fun i hi=>by
    rw [QaA hks (by lia)]
    by_cases e1:i=l
    ·rw [C9 (by lia),C9 e1]
    ·rw [C8 (by lia),C8 e1]
     by_cases e2:l < i
     ·rw [C9 (by lia),C9 e2,show lo+i - 1=lo+(i - 1) by lia]
     ·rw [C8 (by lia),C8 e2]
   rw [val i (by lia),val j (by lia)]
   by_cases i1:i=l
   ·rw [C9 i1]
    by_cases j1:j=l
    ·rw [C9 j1];exact Bo _
    ·rw [C8 j1,C9 (by lia)]
     exact Ck (g3 (j - 1) (by lia) (by lia))
   ·rw [C8 i1]
    by_cases i2:l < i
    ·rw [C9 i2,C8 (by lia),C9 (by lia)]
     exact q2 _ _ (by lia) (by lia)
    ·rw [C8 i2]
     by_cases j1:j=l
     ·rw [C9 j1];exact g2 i (by lia)
     ·rw [C8 j1]
      by_cases j2:l < j
      ·rw [C9 j2];exact q2 _ _ (by lia) (by lia)
      ·rw [C8 j2];exact q2 _ _ (by lia) (by lia)
end
end TS
open PySem PyProof PyProof.Rows
namespace TS
variable {C:Cmp}
theorem QaY {L L':List Keyed} {lo a n:Nat} (h:∀ i:Nat,i < lo->L'[i]?=L[i]?) (hl:a+n<=lo):seg L' a n=seg L a n:=by
 apply List.ext_getElem?
 intro i
 unfold seg
 by_cases hi:i < n
 ·rw [Ca hi,Ca hi,Cc,Cc];exact h _ (by lia)
 ·rw [List.getElem?_eq_none (by simp;lia),List.getElem?_eq_none (by simp;lia)]
theorem Bs.g {L0:List Keyed} {st₀ st:SortSt} {lo:Nat} (b:Bs C st₀ st lo) (g:G C L0 st₀ lo):G C L0 st lo:=by
 refine ⟨b.kind,b.fine,b.perm.trans g.perm,?_,by have:=b.size;have:=g.le;lia⟩
 rw [b.pend]
 refine g.runs.congr fun a n _ hn=>QaY (lo:=lo) (fun i hi=>?_) hn
 have:=b.low i hi
 simpa using this
theorem QcE {L L':List Keyed} {lo n:Nat} (h:L'.drop lo=L.drop lo):seg L' lo n=seg L lo n:=by unfold seg;rw [h]
theorem Runs.pw {pw:Nat}:∀ {r:List (Nat×Nat×Nat)} {s e:Nat} (k:Nat),Runs C L r s e->Runs C L (r.modify k fun (a,b,_)=>(a,b,pw)) s e
 | [],_,_,k,h=>by simpa using h
 | (x,n,_)::r,s,e,0,⟨h0,h1,h2,h3⟩=>⟨h0,h1,h2,h3⟩
 | (x,n,_)::r,s,e,k+1,⟨h0,h1,h2,h3⟩=>⟨h0,h1,h2,h3.pw k⟩
theorem G.pw {L0:List Keyed} {st:SortSt} {lo pw:Nat} (g:G C L0 st lo):G C L0 (setPending st ((pendingOf st).modify ((pendingOf st).size - 1) fun (st,len,_)=>(st,len,pw))) lo:=by
 refine ⟨g.kind,g.fine,g.perm,?_,g.le⟩
 show Runs C (arrOf st).toList ((pendingOf st).modify _ _).toList 0 lo
 rw [Array.toList_modify]
 exact g.runs.pw _
theorem G.push {L0:List Keyed} {st:SortSt} {lo n:Nat} (g:G C L0 st lo) (h1:1<=n) (hn:lo+n<=(arrOf st).size) (hs:Srt C (seg (arrOf st).toList lo n)):G C L0 (setPending st ((pendingOf st).push (lo,n,0))) (lo+n):=by
 refine ⟨g.kind,g.fine,g.perm,?_,hn⟩
 show Runs C (arrOf st).toList ((pendingOf st).push (lo,n,0)).toList 0 (lo+n)
 rw [Array.toList_push]
 exact Runs.app.mpr ⟨lo,g.runs,rfl,h1,hs,rfl⟩
theorem G.size {L0:List Keyed} {st:SortSt} {lo:Nat} (g:G C L0 st lo):(arrOf st).size=L0.length:=by have:=g.perm.length_eq;simpa using this
theorem Qcz {L:List Keyed} {r:List (Nat×Nat×Nat)} {e:Nat} (h:Runs C L r 0 e) (hr:r.length<=1):Srt C (L.take e):=by
  match r,hr,h with
  | [],_,h=>cases h;simp [Srt]
  | [(x,n,_)],_,⟨_,_,h2,h3⟩ => 
    have:0+n=e:=h3
    subst this
    simpa [seg] using h2
theorem QdC (b:Bool) (k:Nat):(if b=true then k - 1 else k)<=k:=by cases b<;>simp
theorem uY {L0:List Keyed} {st:SortSt} {Q:Unit->SortSt->Prop} (hS:∀ p∈L0,C.S p) (g0:G C L0 st 0) (h:∀ st',failedOf st'=none->(arrOf st').toList.Perm L0->Srt C (arrOf st').toList->Q () st'):W C sortRuns' Q st:=by
  rw [sortRuns'_eq]
  refine Eb (wpS_get ?_)
  dsimp only
  rw [g0.size]
  generalize hm:minRun' L0.length L0.length 0=minrun
  generalize hsz:L0.length=size
  refine Eb (wpS_mono (wpS_forRange
    (I:=fun x c st'=>∃ lo,c=(none,lo)/\G C L0 st' lo/\min x size<=lo)
    (Q:=fun c st'=>c=(none,size)/\G C L0 st' size) ?step ?fin ⟨0,rfl,g0,by lia⟩) ?post)
  case fin =>
    rintro c st' ⟨lo,rfl,g,q⟩
    have a:=g.le
    have b:=g.size
    obtain rfl:lo=size:=by lia
    exact ⟨rfl,g⟩
  case step =>
    rintro x c st' _ hx ⟨lo,rfl,g,q⟩
    dsimp only
    have hz:=g.size
    have hle:=g.le
    by_cases hlo:lo≥size
    . rw [C9 hlo]
      obtain rfl:lo=size:=by lia
      exact Ec ⟨rfl,g⟩
    rw [C8 hlo]
    have b0:Bs C st' st' lo:=⟨g.kind,g.fine,rfl,List.Perm.refl _,fun _ _=>rfl,fun p U=>hS p (g.perm.mem_iff.mp U)⟩
    refine Eb (v0 b0 (by lia) (by lia) fun m st1 b1 hm1 hm2 sr1=>?_)
    dsimp only
    by_cases hlt:m < minrun
    rw [C9 hlt]
    refine Eb (xB ?_)
    refine Eb (Qbk b1 hm1 (n:=min (size - lo) minrun) (by lia) (by lia) sr1 fun st2 b sr=>?_)
    simp only [Bool.not_true,Az,if_false]
    have hn1:1<=min (size - lo) minrun:=by lia
    have hn2:lo+min (size - lo) minrun<=size:=by lia
    generalize min (size - lo) minrun=n at hn1 hn2 sr ⊢
    rotate_left
    rw [C8 hlt]
    have hn2:lo+m<=size:=by lia
    have hn1:=hm1
    have b:=b1
    have sr:=sr1
    clear sr1 b1 hm1 hm2 hlt
    generalize m=n at hn1 hn2 sr ⊢
    generalize st1=st2 at b sr ⊢
    all_goals
      have g2:=b.g g
      have hz2:=g2.size
      have hseg:Srt C (seg (arrOf st2).toList lo n):=Qet (by lia) sr
      refine Eb (wpS_get ?_)
      cases hb:(pendingOf st2).back? with
      | none =>
        dsimp only
        exact Eb (wpS_modify (Ec ⟨lo+n,rfl,g2.push hn1 (by lia) hseg,by lia⟩))
      | some v =>
        obtain ⟨s1,n1,pw0⟩:=v
        dsimp only
        generalize power' size (2 * s1+n1) (2 * s1+n1+n1+n) size=pw
        refine Eb (wpS_mono (wpS_forRange (I:=fun _ c st'=>c=(none,())/\G C L0 st' lo/\(arrOf st').toList.drop lo=(arrOf st2).toList.drop lo) (Q:=fun c st'=>c=(none,())/\G C L0 st' lo/\(arrOf st').toList.drop lo=(arrOf st2).toList.drop lo) ?_ (fun _ _ hh=>hh) ⟨rfl,g2,rfl⟩) ?_)
        . rintro y c st3 _ hy ⟨rfl,g3,t3⟩
          refine Eb (wpS_get ?_)
          by_cases h1:(pendingOf st3).size > 1
          . rw [C9 h1,getElem?_pos (pendingOf st3) ((pendingOf st3).size - 2) (by lia)]
            obtain ⟨⟨q1,q2,older⟩,eo⟩:∃ x,(pendingOf st3)[(pendingOf st3).size - 2]'(by omega)=x:=⟨_,rfl⟩
            rw [eo]
            dsimp only
            by_cases ho:older<=pw
            . rw [C9 ho]
              exact Ec ⟨rfl,g3,t3⟩
            . rw [C8 ho]
              refine Eb (QeP hS g3 (by lia) fun st4 g4 _ t4=>?_)
              simp only [Bool.not_true,Az,if_false]
              exact Ec ⟨rfl,g4,t4.trans t3⟩
          . rw [C8 h1]
            exact Ec ⟨rfl,g3,t3⟩
        . rintro c st3 ⟨rfl,g3,t3⟩
          dsimp only
          have hz3:=g3.size
          refine Eb (wpS_modify (Eb (wpS_modify (Ec ⟨lo+n,rfl,G.push g3.pw hn1 (by show lo+n<=(arrOf st3).size;lia) ?_,by lia⟩))))
          show Srt C (seg (arrOf st3).toList lo n)
          rw [QcE t3];exact hseg
  case post =>
    rintro c st' ⟨rfl,g⟩
    dsimp only
    have hz:=g.size
    have hrl:=g.runs.le
    have hpl:(pendingOf st').toList.length=(pendingOf st').size:=by simp
    refine Eb (wpS_mono (wpS_forRange (I:=fun x c st''=>c=(none,())/\G C L0 st'' size/\(pendingOf st'').size+x<=size) (Q:=fun c st''=>c=(none,())/\G C L0 st'' size/\(pendingOf st'').size<=1) ?_ ?_ ⟨rfl,g,by lia⟩) ?_)
    . rintro x c st2 _ hx ⟨rfl,g2,U⟩
      refine Eb (wpS_get ?_)
      by_cases h1:(pendingOf st2).size<=1
      . rw [C9 h1]
        exact Ec ⟨rfl,g2,h1⟩
      . rw [C8 h1]
        generalize hi:(if Option.any (fun x=>decide (x < Option.elim (pendingOf st2)[(pendingOf st2).size - 2+1]? 0 fun x=>x.2.1)) (if (pendingOf st2).size - 2 > 0 then Option.map (fun x=>x.2.1) (pendingOf st2)[(pendingOf st2).size - 2 - 1]? else none)=true then (pendingOf st2).size - 2 - 1 else (pendingOf st2).size - 2)=i
        have hi2:i<=(pendingOf st2).size - 2:=by rw [<- hi];exact QdC _ _
        refine Eb (QeP hS g2 (by lia) fun st3 g3 hq _=>?_)
        simp only [Bool.not_true,Az,if_false]
        exact Ec ⟨rfl,g3,by lia⟩
    . rintro c st2 ⟨rfl,g2,U⟩
      exact ⟨rfl,g2,by lia⟩
    . rintro c st2 ⟨rfl,g2,U⟩
      have hz2:=g2.size
      have s2:=Qcz g2.runs (by simpa using U)
      rw [Ci (by simp;lia)] at s2
      exact Ec (h st2 g2.fine g2.perm s2)
open PySem PyProof PyProof.Rows
section
variable {prog:Program} {w:World} {A:Around} {E:Eh} {s:Shared}
def CI (prog:Program) (w:World) (A:Around) (E:Eh) (s:Shared):Cmp where
 key p:=numOf p.1
 kd:=oneType'
 S p:=∃ n t,p.1=.int n t
 prog:=prog
 w:=w
 A:=A
 E:=E
 s:=s
 lt:=by
  rintro st ⟨_,p⟩ ⟨_,q⟩ Q ⟨n,t,rfl⟩ ⟨k,u,rfl⟩ hk h
  rw [lt'_eq]
  refine Eb (wpS_get ?_)
  rw [hk]
  exact Eb (wpS_lift (wpAny_attempt (keyLt'_oneType _ _▸oneLt_int ⟨rfl,Ec h⟩)))
theorem QgU (xs:Array Keyed) (i:Nat):kx (CI prog w A E s) xs i=K xs i:=by
 unfold kx K
 cases xs[i]?<;>rfl
theorem QaW {vs:List Value} {ns:List Int} (hI:IntsAre vs ns):wpAny (model prog w) A (sortRuns'.run (SortSt.mk' oneType' (vs.toArray.zip vs.toArray) #[] 7 none)) (fun r s'=>s'=s/\failedOf r.2=none/\(arrOf r.2).Perm (pairsOf vs)/\SortedTo (arrOf r.2) (pairsOf vs).size) E s:=by
 have q:W (CI prog w A E s) sortRuns' (fun _ st'=>failedOf st'=none/\(arrOf st').Perm (pairsOf vs)/\SortedTo (arrOf st') (pairsOf vs).size) (SortSt.mk' oneType' (vs.toArray.zip vs.toArray) #[] 7 none):=by
  refine uY (L0:=(pairsOf vs).toList) (fun p U=>hI.intKeys p U) ⟨rfl,rfl,List.Perm.refl _,rfl,Be _⟩ fun st' a1 a2 a3=>?_
  have pm:(arrOf st').Perm (pairsOf vs):=Array.perm_iff_toList_perm.mpr a2
  refine ⟨a1,pm,fun i j hij hj=>?_⟩
  have e:=VM a3 hij (by rw [pm.size_eq];exact hj)
  rwa [QgU,QgU] at e
 exact q
def Keeps (h h':Heap) (a:Addr):Prop:=∀ b o,b≠a->h.get? b=some o->h'.get? b=some o
theorem Keeps.upd (h:Heap) (a:Addr) (f:Obj->Obj):Keeps h (h.update a f) a:=fun b o hb e=>by
 rw [Heap.get?_update_ne _ _ _ _ hb];exact e
theorem Qa3 {a:Addr} {vs:List Value} {ns:List Int} {n:Nat} {P:PySem.Fin->Shared->Prop} (ho:s.heap.get? a=some (seqObj "list" vs.toArray n)) (hI:IntsAre vs ns) (hz:vs.length<=sizeLine)
  (h:∀ (h':Heap) (out:List Value) (ns':List Int) (c:Nat),Keeps s.heap h' a->h'.get? a=some (seqObj "list" out.toArray c)->IntsAre out ns'->ns'.Perm ns->ns'.Pairwise (· <= ·)->P (.done (.ret .none)) { s with heap:=h' }) :
  wpAny (model prog w) A (Builtin.«list.sort» ⟨[.ref a],[]⟩) P E s:=by
 have k1:=Keeps.upd s.heap a (Obj.mapSeq fun _=>#[])
 obtain ⟨c1,g1⟩:∃ c1,(s.heap.update a (Obj.mapSeq fun _=>#[])).get? a=some (seqObj "list" #[] c1):=⟨_,get?_update_seq ho (fun _=>#[])⟩
 generalize hh1:s.heap.update a (Obj.mapSeq fun _=>#[])=H1 at k1 g1
 have g3:=Ad (seqObj "list" #[] 0) (Ad (seqObj "tuple" vs.toArray 0) g1)
 have k3:Keeps s.heap ((H1.push (seqObj "tuple" vs.toArray 0)).push (seqObj "list" #[] 0)) a:=fun b o hb e=>Ad _ (Ad _ (k1 b o hb e))
 have hsz:vs.toArray.size=vs.length:=by simp
 have fin:∀ st':SortSt,failedOf st'=none->(arrOf st').Perm (pairsOf vs)->SortedTo (arrOf st') (pairsOf vs).size->wpAny (model prog w) A (do
   let touched:=(<- seqEpoch a) != c1
   Builtin.List.listUpdate (.ref a) fun _=>(arrOf st').map (·.2)
   if let some e:=failedOf st' then rule "list.sort.comparison-raised"; throw e
   if touched then rule "list.sort.modified"; raiseError "ValueError" "list modified during sort"
   ret .none) P E { s with heap:=(H1.push (seqObj "tuple" vs.toArray 0)).push (seqObj "list" #[] 0) }:=by
  intro st' f1 f2 f3
  obtain ⟨ns',o1,o2,o3⟩:=sorted_out hI f2 f3
  refine C7 (seqEpoch_at g3 rfl ?_)
  have oz:((arrOf st').map (·.2)).size<=sizeLine+1:=by rw [Array.size_map,f2.size_eq,pairsOf_size];lia
  refine C7 (listUpdate_at g3 rfl ?_ (Be _) oz)
  rw [f1]
  simp only [bne_self_eq_false,Az,if_false]
  obtain ⟨c2,e⟩:∃ c2,(((H1.push (seqObj "tuple" vs.toArray 0)).push (seqObj "list" #[] 0)).update a (Obj.mapSeq fun _=>(arrOf st').map (·.2))).get? a=some (seqObj "list" ((arrOf st').map (·.2)) c2):=⟨_,get?_update_seq g3 fun _=>(arrOf st').map (·.2)⟩
  refine Ea (h _ ((arrOf st').map (·.2)).toList ns' c2 (fun b o hb e=>Keeps.upd _ a _ b o hb (k3 b o hb e)) ?_ o1 o2 o3)
  rw [Array.toArray_toList];exact e
 rw [list_sort_plain]
 refine C7 (listItems_at ho rfl (C7 (listUpdate_at ho rfl ?_ (by rw [hsz];exact hz) (Be _))))
 rw [hh1]
 refine C7 (seqEpoch_at g1 rfl (C7 (wpAny_newTuple ?_ (by simpa using hz))))
 refine C7 (wpAny_newList (wpAny_holding ?_) (Be _))
 show wpAny (model prog w) A _ P E { s with heap:=(H1.push (seqObj "tuple" vs.toArray 0)).push (seqObj "list" #[] 0) }
 dsimp only
 by_cases h2:vs.toArray.size < 2
 ·rw [C9 h2,C9 h2]
  refine C7 (Ea ?_)
  rw [StateT.run_pure]
  refine C7 (Ea (fin (SortSt.mk' general' (vs.toArray.zip vs.toArray) #[] 7 none) rfl (Array.Perm.refl _) fun i j hij hj=>?_))
  obtain rfl:i=j:=by rw [pairsOf_size] at hj;lia
  exact Bo _
 ·rw [C8 h2,C8 h2]
  have kk:keyKind' vs.toArray=pure oneType':=by
   match vs,hI,h2 with
   | [],_,h2=>simp at h2
   | [_],_,h2=>simp at h2
   | _::_::_,hI,_=>exact keyKind_ints hI
  rw [kk]
  refine C7 (Ea (C7 (wpAny_mono (QaW hI) ?_ fun _ _ e=>e)))
  rintro ⟨⟨⟩,st'⟩ s' ⟨rfl,f1,f2,f3⟩
  exact fin st' f1 f2 f3
theorem sorted_of {x:Value} {ns:List Int} {Q:Eh}
  (hc:∀ (R:List Value->Shared->Prop),(∀ (h':Heap) (tk:Nat) (vs:List Value),IntsAre vs ns->vs.length<=sizeLine->(∀ b o,s.heap.get? b=some o->h'.get? b=some o)->R vs { s with heap:=h',toks:=tk })->wpAny (model prog w) A.in1 (collect x) R E s)
  (h:∀ (h1 h':Heap) (tk:Nat) (out:List Value) (ns':List Int) (c:Nat),(∀ b o,s.heap.get? b=some o->h1.get? b=some o)->(∀ b o,h1.get? b=some o->h'.get? b=some o)->h'.get? h1.objs.size=some (seqObj "list" out.toArray c)->IntsAre out ns'->ns'.Perm ns->ns'.Pairwise (· <= ·)->Q (.ref h1.objs.size) { s with heap:=h',toks:=tk }) :
  wpAny (model prog w) A (call (.builtin "sorted") [x]) Q E s:=by
 refine Calls.call_function_entry kind_sorted plain_sorted entry_sorted (args_sorted1 _) ?_
 unfold Builtin.«sorted»
 refine C7 (m:=checkCount "sorted" 1 1 _) (Ea (C7 (hc _ fun h1 tk vs hI hz k1=>?_)))
 refine C7 (wpAny_newList ?_ hz)
 have g:(h1.push (seqObj "list" vs.toArray 0)).get? h1.objs.size=some (seqObj "list" vs.toArray 0):=Av _ rfl
 refine C7 (wpAny_holding (wpAny_call_entry slot_list_sort ⟨_,g,rfl⟩ entry_list_sort (Qa3 g hI hz fun h2 out ns' c k2 g2 o1 o2 o3=>⟨_,rfl,?_⟩) (args_list_sort _)))
 refine Ea ⟨_,rfl,h h1 h2 tk out ns' c k1 (fun b o e=>k2 b o (Bf (Ap e)) (Ad _ e)) g2 o1 o2 o3⟩
end
end TS
namespace D
open PySem PySem.Spec PyProof.Rows L2
variable {X:Cx}
def srt (ns:List Int):List Int:=ns.mergeSort (fun a b=>decide (a<=b))
def vv (ns:List Int):(srt ns).Perm ns:=List.mergeSort_perm _ _
theorem uZ (ns:List Int):(srt ns).Pairwise (· <= ·):=by
 have:=List.pairwise_mergeSort (le:=fun a b:Int=>decide (a<=b)) (fun a b c h1 h2=>by simp at *;lia) (fun a b=>by simp;lia) ns
 exact this.imp fun h=>by simpa using h
theorem VN {ns ms:List Int} (p:ms.Perm ns) (h:ms.Pairwise (· <= ·)):ms=srt ns :=
 (p.trans (vv ns).symm).eq_of_pairwise (fun a b _ _ h1 h2=>Int.le_antisymm h1 h2) h (uZ ns)
theorem UD:∀ {ns:List Int} {us:List Value},Vals (ns.map V.int) us->IntsAre us ns
 | [],_,.nil=>.nil
 | n::ns,_,.cons ⟨t,e⟩ r=>by subst e;exact .cons n t (UD r)
theorem YN:∀ {us:List Value} {ns:List Int},IntsAre us ns->Vals (ns.map V.int) us
 | _,_,.nil=>.nil
 | _,_,.cons n t r=>.cons ⟨t,rfl⟩ (YN r)
theorem gY:∀ {us:List Value} {ns:List Int},us.length=ns.length->(∀ (j:Nat) (u:Value) (n:Int),us[j]?=some u->ns[j]?=some n->∃ t,u=.int n t)->IntsAre us ns
  | [],[],_,_=>.nil
  | u::us,n::ns,hl,h=>by
    obtain ⟨t,rfl⟩:=h 0 u n rfl rfl
    exact .cons n t (gY (by simpa using hl) fun j u n a b=>h (j+1) u n a b)
theorem ki:∀ {kvs:List (Key×V)} {vs:List (Key×Value)},KV kvs vs->vs.map (·.1)=kvs.map (·.1)
 | _,_,.nil=>rfl
 | _,_,.cons a b=>by rw [Bb,Bb,ki b,a.1]
def Qbb (K:Aa) (H:Hp) (p:Addr) (ns:List Int):Prop:=SqL K H p (ns.map .int)∨∃ kvs:List (Key×V),H p=some (.dK kvs)/\kvs.map (·.1)=ns.map .inl
theorem Gx (hc:X.calm=true):CallR X (.builtin "sorted") (fun xs H Q=>∃ p ns,xs=[.ref p]/\Qbb X.K H p ns/\∀ l,H l=none->Q (.ref l) (upd H l (.lst ((srt ns).map .int)))):=by
 intro O9 s σ H xs us Q I r h
 obtain ⟨p,ns,rfl,hq,q⟩:=h
 have hh:X.A.handled=none:=I.ok.hd hc
 obtain ⟨u,rfl,rx⟩:=VU r
 cases rx
 have hz:ns.length<=sizeLine:=by
  rcases hq with hq | ⟨kvs,hq,e⟩
  ·have:=(I.list hq).choose_spec.2.2;simpa using this
  ·have a:=(yO I.hok hq).1
   have b:=congrArg List.length e
   simp at b;lia
 refine TS.sorted_of (ns:=ns) (fun R hR=>?_) fun h1 h' tk out ns' c k1 k2 g o1 o2 o3=>?_
 ·rcases hq with hq | ⟨kvs,hq,e⟩
  ·obtain ⟨its,r',pl,z⟩:=I.list hq
   have hI:=UD r'
   have hl:its.length=ns.length:=by have:=r'.length;simpa using this.symm
   have R1:=hR ((s.heap.push (seqObj "list" #[] 0)).update s.heap.objs.size (Obj.mapSeq (· ++ its.toArray))) s.toks its hI (by lia) fun b o e=>by
    have hlt:b < s.heap.objs.size:=Ap e
    rw [Heap.get?_update_ne _ _ _ _ (Bf hlt)];exact Ad _ e
   exact collect_list pl.isList R1 (by lia)
  ·obtain ⟨_,lo,vs,kv,hd⟩:=yO I.hok hq
   obtain ⟨ep,hat⟩:=hd.dictAt
   have kl:vs.map (·.1)=ns.map Sum.inl:=(ki kv).trans e
   have hvl:vs.length=ns.length:=by have:=congrArg List.length kl;simpa using this
   refine PySem.W.kdu_collect (PySem.W.kdl_dict (knd:=Zu X.prog X.w) (kvs:=vs) (ep:=ep) lo) hh hat (by lia) fun h1 tk acc k1 it=>hR h1 tk acc.toList (gY ?_ fun j u n a b=>?_) ?_ k1
   ·rw [Cj,it.1,hvl]
   ·obtain ⟨k,x,e1,e2⟩:=it.2 j u (by simpa using a)
    have:k=Sum.inl n:=by
     have e3:=congrArg (fun l=>l[j]?) kl
     simp [e1,b] at e3
     exact e3
    subst this
    rcases ZN (show y9 (Sum.inl n) u=true from e2) with ⟨i,t,h1,h2⟩ | ⟨_,_,h1,_⟩
    ·cases h1;exact ⟨t,h2⟩
    ·cases h1
   ·rw [Cj,it.1];lia
 ·obtain rfl:=VN o2 o3
  have I1:Inv X O9 σ H { s with heap:=h1,toks:=tk }:=I.kept k1
  have hlen:(srt ns).length<=sizeLine:=by rw [(vv ns).length_eq];exact hz
  exact ⟨.ref h1.objs.size,_,I1.laid (t':=tk) k2 (Ae _) (show ObjOk X.prog X.w _ h' _ (.lst ((srt ns).map .int)) from ⟨by simpa using hlen,out,c,YN o1,g⟩),rfl,q _ (I1.hok.fresh (Ae _))⟩
def Uw:List DV->Option (List Int)
 | []=>some []
 | .int n::r=>(Uw r).map (n :: ·)
 | _=>none
def jy:List (Key×DV)->Option (List Int)
 | []=>some []
 | (.inl n,_)::r=>(jy r).map (n :: ·)
 | _=>none
def uD {α:Type}:Option α->M α
 | some d=>pure d
 | none=>failure
theorem xx {α:Type} {o:Option α} {d:α} {U hp':Hs} (h:uD o U=some (d,hp')):o=some d/\U=hp':=by
 cases o with
 | none=>cases h
 | some x=>obtain ⟨rfl,rfl⟩:=Qi h;exact ⟨rfl,rfl⟩
def QbN:DV->M (List Int)
  | .lst ds=>uD (Uw ds)
  | .ref n=>do
    match <- Ja n with
    | .lst ds=>uD (Uw ds)
    | .dic kvs=>uD (jy kvs)
    | _=>failure
  | _=>failure
def kO:List DV->M DV:=Qca fun d=>do let ns <- QbN d;pure (.lst ((srt ns).map .int))
variable {K:Aa} {ρ:Ep} {B:Eo} {H:Hp}
theorem j9:∀ {ds:List DV} {ns:List Int} {xs:List V},Uw ds=some ns->RepL K ρ B H ds xs->xs=ns.map .int
  | [],_,xs,h,r=>by cases h;exact r
  | .int n::ds,ns,xs,h,⟨x,q,e,r1,r2⟩=>by
    obtain ⟨ms,h1,rfl⟩:=Cg.mp (show (Uw ds).map (n :: ·)=some ns from h)
    rw [e,r1.intI,j9 h1 r2];rfl
theorem UB:∀ ns:List Int,RepL K ρ B H (ns.map .int) (ns.map .int)
 | []=>rfl
 | n::ns=>⟨_,_,rfl,JW,UB ns⟩
theorem yZ:∀ {kvs:List (Key×DV)} {ns:List Int},jy kvs=some ns->kvs.map (·.1)=ns.map .inl
  | [],_,h=>by cases h;rfl
  | (.inl n,d)::kvs,ns,h=>by
    obtain ⟨ms,h1,rfl⟩:=Cg.mp (show (jy kvs).map (n :: ·)=some ns from h)
    rw [Bb,Bb,yZ h1]
theorem Qaf (hc:X.calm=true):CallR X (.builtin "sorted") (tPn X.K kO):=by
  intro O9 s σ H xs us Q I r h
  obtain ⟨ρ,B,U,ds,d,hp',W,rl,e,k⟩:=h
  obtain ⟨x,rfl,e⟩:=xw e
  obtain ⟨ns,hp1,e1,e2⟩:=Qe e
  obtain ⟨rfl,rfl⟩:=Qi e2
  obtain ⟨v,rfl,rv⟩:=rl.oneI
  have key:U=hp1/\∃ p,v=.ref p/\Qbb X.K H p ns:=by
    cases x with
    | lst zs =>
      obtain ⟨h1,rfl⟩:=xx e1
      obtain ⟨a,ys,rfl,_,sq,l⟩:=rv.lstI
      exact ⟨rfl,a,rfl,.inl (j9 h1 l▸sq)⟩
    | ref n =>
      obtain ⟨o,hp2,e3,e4⟩:=Qe (show (Ja n >>= fun o=>(match o with | .lst ds=>uD (Uw ds) | .dic kvs=>uD (jy kvs) | _=>failure:M (List Int))) U=some (ns,hp1) from e1)
      obtain ⟨e5,rfl⟩:=ZI e3
      cases o with
      | lst zs =>
        obtain ⟨h1,rfl⟩:=xx e4
        obtain ⟨a,rfl,_,ys,h2,l1⟩:=RepV.refW W rv e5
        exact ⟨rfl,a,rfl,.inl (j9 h1 l1▸SqL.of h2)⟩
      | dic kvs =>
        obtain ⟨h1,rfl⟩:=xx e4
        obtain ⟨a,rfl,_,ro⟩:=RepV.refW W rv e5
        obtain ⟨ys,h2,rk⟩:=ro.dic
        exact ⟨rfl,a,rfl,.inr ⟨ys,h2,rk.to.1.trans (yZ h1)⟩⟩
      | ins _ _=>cases e4
    | tup _=>cases e1
    | non=>cases e1
    | bl _=>cases e1
    | int _=>cases e1
    | str _=>cases e1
  obtain ⟨rfl,p,rfl,io⟩:=key
  exact Gx hc O9 s σ H _ us Q I r ⟨p,ns,rfl,io,jq W (UB _) k⟩
abbrev ClsN (K:Aa) (c:Str) (C:Addr):Prop:=PySem.W.nsIn K mainGlobals c=some (some (.ref C))
theorem ClsN.uniq {K:Aa} {c:Str} {C C':Addr} (h:ClsN K c C) (h':ClsN K c C'):C=C':=by
 have e:=h.symm.trans h';cases e;rfl
structure YX (K:Aa) (c f:Str):Prop where
 ex:∃ C,ClsN K c C/\Cls K C/\NoAttr K C f
structure XH (P:Program) (w:World) (K:Aa) (mg:Ej) (O8:Heap) (c m:Str) (k n:Nat) (F:Er):Prop where
 ex:∃ (C f:Addr) (fd:FuncData) (ps:List Str),ClsN K c C/\Cls K C/\vP K C m f/\qy P w K mg O8 CX0 k f fd ps (spD K n F)/\Binds K fd ps []
structure Qba (P:Program) (w:World) (K:Aa) (mg:Ej) (O8:Heap) (c:Str) (k n:Nat) (F:Er):Prop where
 ex:∃ (C f:Addr) (fd:FuncData) (ps:List Str),ClsN K c C/\mg c=some (.ref C)/\Mk K C f/\qy P w K mg O8 CX0 k f fd ps (spD K n F)/\Binds K fd ps []
section
variable {K:Aa} {ρ:Ep} {B:Eo} {H:Hp} {U:Hs}
abbrev RepF (K:Aa) (ρ:Ep) (B:Eo) (H:Hp):List (Str×DV)->List (Str×V)->Prop:=Paired fun p q=>p.1=q.1/\RepV K ρ B H p.2 q.2
theorem kG:∀ {fs:List (Str×DV)} {xs:List (Str×V)},xs.map (·.1)=fs.map (·.1)->RepL K ρ B H (fs.map (·.2)) (xs.map (·.2))->RepF K ρ B H fs xs
  | [],[],_,_=>.nil
  | [],_::_,e,_=>by simp at e
  | _::_,[],e,_=>by simp at e
  | p::fs,q::xs,e,r=>by
    simp only [Bb,List.cons.injEq] at e
    simp only [Bb] at r
    unfold RepL at r
    obtain ⟨x,t,e2,h1,h2⟩:=r
    simp only [List.cons.injEq] at e2
    obtain ⟨rfl,rfl⟩:=e2
    exact .cons ⟨e.1.symm,h1⟩ (kG e.2 h2)
theorem RepF.to {fs:List (Str×DV)} {xs:List (Str×V)} (r:RepF K ρ B H fs xs):xs.map (·.1)=fs.map (·.1)/\RepL K ρ B H (fs.map (·.2)) (xs.map (·.2)):=by
 induction r with
 | nil=>exact ⟨rfl,RepL.nil⟩
 | cons h _ ih=>exact ⟨by simp [ih.1,h.1],by simpa using RepL.cons h.2 ih.2⟩
theorem RepF.look {fs:List (Str×DV)} {xs:List (Str×V)} (r:RepF K ρ B H fs xs) (f:Str):(fs.lookup f=none/\xs.lookup f=none)∨∃ d v,fs.lookup f=some d/\xs.lookup f=some v/\RepV K ρ B H d v:=by
  induction r with
  | nil=>exact .inl ⟨rfl,rfl⟩
  | @cons p q _ _ h _ ih =>
    obtain ⟨p1,p2⟩:=p
    obtain ⟨q1,q2⟩:=q
    obtain ⟨h1,h2⟩:=h
    have h1:p1=q1:=h1
    subst h1
    cases e:f==p1 with
    | true=>exact .inr ⟨p2,q2,by simp [List.lookup,e],by simp [List.lookup,e],h2⟩
    | false=>simpa [List.lookup,e] using ih
def J9 (f:Str) (d:DV):List (Str×DV)->List (Str×DV)
 | []=>[(f,d)]
 | (g,x)::r=>if g=f then (g,d)::r else (g,x)::J9 f d r
theorem RepF.put (r:RepF K ρ B H fs xs) (f:Str) (rd:RepV K ρ B H d v):RepF K ρ B H (J9 f d fs) (Yx f v xs):=by
  induction r with
  | nil=>exact .cons ⟨rfl,rd⟩ .nil
  | @cons p q _ _ h t ih =>
    obtain ⟨p1,p2⟩:=p
    obtain ⟨q1,q2⟩:=q
    obtain ⟨h1,h2⟩:=h
    have h1:p1=q1:=h1
    subst h1
    unfold J9 Yx
    by_cases e:p1=f
    . rw [C9 e,C9 e];exact .cons ⟨rfl,rd⟩ t
    . rw [C8 e,C8 e];exact .cons ⟨rfl,h2⟩ ih
def RepF.len {fs:List (Str×DV)} {xs:List (Str×V)} (r:RepF K ρ B H fs xs):fs.length=xs.length:=Paired.length r
def RepF.gs (g:Gs K ρ B H ρ' B' H') (r:RepF K ρ B H fs xs):RepF K ρ' B' H' fs xs:=L2.Paired.mapP r fun _ _ h=>⟨h.1,RepV.gs g _ _ h.2⟩
theorem ORep.ins {a:Addr} {c:Str} (h:ORep K ρ B H a (.ins c fs)):∃ C dx xs,ClsN K c C/\H a=some (.ins C dx xs)/\RepF K ρ B H fs xs:=by
 obtain ⟨C,dx,xs,nc,e,ek,rl⟩:=h
 exact ⟨C,dx,xs,nc,e,kG ek rl⟩
def RepF.orep {a C dx:Addr} {c:Str} (nc:ClsN K c C) (r:RepF K ρ B H fs xs) (e:H a=some (.ins C dx xs)):ORep K ρ B H a (.ins c fs):=⟨C,dx,xs,nc,e,r.to.1,r.to.2⟩
theorem Qc6 {n:Nat} {a C dx:Addr} {c:Str} (W:WOk K ρ B U H) (i:ρ[n]?=some a) (nc:ClsN K c C) (e:H a=some (.ins C dx xs)) (r:RepF K ρ B H fs' xs'):Gr K ρ B H ρ B (upd H a (.ins C dx xs'))/\WOk K ρ B (U.set n (.ins c fs')) (upd H a (.ins C dx xs')):=by
 have g:Gr K ρ B H ρ B (upd H a (.ins C dx xs')):=Gr.wset i e
 exact ⟨g,W.wset (o':=.ins C dx xs') (v:=.ins c fs') i e ((r.gs (g.gs W.rb)).orep nc Q9)⟩
end
def onI {α:Type} (c:Str) (x:DV) (k:Nat->List (Str×DV)->M α):M α:=match x with
  | .ref n=>do
    match <- Ja n with
    | .ins c' fs=>do Qz (decide (c'=c));k n fs
    | _=>failure
  | _=>failure
theorem jE {α:Type} {c:Str} {x:DV} {d:α} {k:Nat->List (Str×DV)->M α} {U hp':Hs} (h:onI c x k U=some (d,hp')):∃ n fs,x=.ref n/\U[n]?=some (.ins c fs)/\k n fs U=some (d,hp'):=by
  cases x with
  | ref n =>
    obtain ⟨o,hp1,e1,e2⟩:=Qe (show (Ja n >>= fun o=>(match o with | .ins c' fs=>do Qz (decide (c'=c));k n fs | _=>failure:M α)) U=some (d,hp') from h)
    obtain ⟨e3,rfl⟩:=ZI e1
    cases o with
    | ins c' fs =>
      obtain ⟨_,hp2,e4,e5⟩:=Qe e2
      obtain ⟨hl,rfl⟩:=QK e4
      obtain rfl:=Ee hl
      exact ⟨n,fs,rfl,e3,e5⟩
    | lst _=>cases e2
    | dic _=>cases e2
  | non=>cases h
  | bl _=>cases h
  | int _=>cases h
  | str _=>cases h
  | tup _=>cases h
  | lst _=>cases h
def js (c f:Str) (x:DV):M DV:=onI c x fun _ fs=>Y2 (fs.lookup f)
def jQ (c f:Str) (x d:DV):M Unit:=onI c x fun n fs=>do Qz (decide (fs.length < 1000));xE n (.ins c (J9 f d fs))
def QF (c f:Str) (g:DEx):DEx:=fun env=>do let x <- g env;js c f x
def Zf (c f:Str) (fo fv:DEx):DSx:=fun env=>do let y <- fv env;let x <- fo env;jQ c f x y;pure (.nx,env)
def Yk (c f:Str) (op:DV->DV->M DV) (fo fv:DEx):DSx:=fun env=>do let x <- fo env;let v <- js c f x;let y <- fv env;let z <- op v y;jQ c f x z;pure (.nx,env)
def zG:DV->DV->M DV
 | .int i,.int j=>pure (.int (i+j))
 | _,_=>failure
def Up:DV->DV->M DV
 | .int i,.int j=>pure (.int (i - j))
 | _,_=>failure
def QD (c m:Str) (n:Nat) (F:Er) (fo:DEx) (fa:DAx):DEx:=fun env=>do
 let x <- fo env
 onI c x fun _ fs=>Qz (fs.lookup m).isNone
 let ds <- fa env
 Qz (decide (ds.length+1=n))
 F (x::ds)
def JS (c:Str) (n:Nat) (F:Er) (fa:DAx):DEx:=fun env=>do
 let ds <- fa env
 Qz (decide (ds.length+1=n))
 let x <- XX (.ins c [])
 let r <- F (x::ds)
 match r with
 | .non=>pure x
 | _=>failure
section
variable {X:Cx} {o e value:Expr} {c f m:Str} {pos pos' tpos apos:Pos} {fo fv:DEx}
theorem GP {K:Aa} {H:Hp} {U hp':Hs} {v:V} (W:WOk K ρ B U H) (r:RepV K ρ B H x v) (h:js c f x U=some (d,hp')):U=hp'/\∃ a C dx xs u,v=.ref a/\ClsN K c C/\H a=some (.ins C dx xs)/\xs.lookup f=some u/\RepV K ρ B H d u:=by
 obtain ⟨n,fs,rfl,e1,e2⟩:=jE h
 obtain ⟨hl,rfl⟩:=qW e2
 obtain ⟨a,rfl,i,ro⟩:=RepV.refW W r e1
 obtain ⟨C,dx,xs,nc,e,rf⟩:=ro.ins
 rcases rf.look f with ⟨z,_⟩ | ⟨d',u,z,zu,ru⟩
 ·rw [hl] at z;cases z
 ·rw [hl] at z;cases z
  exact ⟨rfl,a,C,dx,xs,u,rfl,nc,e,zu,ru⟩
theorem vn {K:Aa} {H:Hp} {v y:V} {z:Unit} (W:WOk K ρ B U H) (r:RepV K ρ B H x v) (rd:RepV K ρ B H d y) (h:jQ c f x d U=some (z,hp')):∃ a C dx xs,v=.ref a/\ClsN K c C/\H a=some (.ins C dx xs)/\xs.length < 1000/\Gr K ρ B H ρ B (upd H a (.ins C dx (Yx f y xs)))/\WOk K ρ B hp' (upd H a (.ins C dx (Yx f y xs))):=by
 obtain ⟨n,fs,rfl,e1,e2⟩:=jE h
 obtain ⟨_,hp1,e3,e4⟩:=Qe e2
 obtain ⟨hl,rfl⟩:=QK e3
 cases e4
 obtain ⟨a,rfl,i,ro⟩:=RepV.refW W r e1
 obtain ⟨C,dx,xs,nc,e,rf⟩:=ro.ins
 obtain ⟨g,W'⟩:=Qc6 W i nc e (rf.put f rd)
 exact ⟨a,C,dx,xs,rfl,nc,e,by rw [<- rf.len];exact Ee hl,g,W'⟩
theorem QB (hk:YX X.K c f) (ho:DE X o fo) (hb:attributeBase o f X.env (eval o X.env)=eval o X.env:=by rfl):DE X (.Attribute o f pos) (QF c f fo) :=
 L2.PE.imp (QfS ho hb) fun σ H Q zz1=>by
  obtain ⟨Z,env,ρ,B,U,d,hp',S,e,k⟩:=zz1
  obtain ⟨x,hp1,e1,e2⟩:=Qe e
  refine tD.run S e1 fun v ρ1 B1 H1 g1 S1 r1=>?_
  obtain ⟨rfl,a,C,dx,xs,u,rfl,nc,ea,hl,ru⟩:=GP S1.wo r1 e2
  obtain ⟨C',nc',cl,na⟩:=hk.ex
  obtain rfl:=nc.uniq nc'
  exact ⟨a,C,dx,xs,u,rfl,ea,cl,na,hl,k u ρ1 B1 H1 g1 S1.wo ru⟩
theorem Zm (hk:YX X.K c f) (ho:DE X o fo) (hv:DE X value fv) (hs:swapsWith value (some (.Attribute o f pos')) pos.line X.env=pure false:=by rfl):DS X (.Assign [.Attribute o f pos'] value pos) (Zf c f fo fv) :=
 L2.PS.imp (Qf9 ho hv hs) fun D σ H zz1=>by
  obtain ⟨Z,env,ρ,B,U,fl,env',hp',S,e,k⟩:=zz1
  obtain ⟨y,hp1,e1,e⟩:=Qe e
  obtain ⟨x,hp2,e2,e⟩:=Qe e
  obtain ⟨z,hp3,e3,e⟩:=Qe e
  obtain ⟨q,rfl⟩:=Qi e
  cases q
  refine tD.run S e1 fun u ρ1 B1 H1 g1 S1 r1=>tD.run S1 e2 fun v ρ2 B2 H2 g2 S2 r2=>?_
  obtain ⟨a,C,dx,xs,rfl,nc,ea,hl,g,W⟩:=vn S2.wo r2 (RepV.grow S1.wo.rb g2 _ _ r1) e3
  obtain ⟨C',nc',cl,na⟩:=hk.ex
  obtain rfl:=nc.uniq nc'
  exact ⟨a,C,dx,xs,rfl,ea,cl,na,hl,k σ ρ2 B2 _ ((g1.trans (g2.trans g)).gs S.wo.rb) (S2.grow g W)⟩
theorem xh (hk:YX X.K c f) (ho:DE X o fo) (hv:DE X value fv):DS X (.AugAssign (.Attribute o f tpos) .Add value pos) (Yk c f zG fo fv) :=
 L2.PS.imp (QaQ ho hv Qfl) fun D σ H zz1=>by
  obtain ⟨Z,env,ρ,B,U,fl,env',hp',S,e,k⟩:=zz1
  obtain ⟨x,hp1,e1,e⟩:=Qe e
  obtain ⟨v,hp2,e2,e⟩:=Qe e
  obtain ⟨y,hp3,e3,e⟩:=Qe e
  obtain ⟨z,hp4,e4,e⟩:=Qe e
  obtain ⟨_,hp5,e5,e⟩:=Qe e
  obtain ⟨q,rfl⟩:=Qi e
  cases q
  refine tD.run S e1 fun vx ρ1 B1 H1 g1 S1 r1=>?_
  obtain ⟨rfl,a,C,dx,xs,u,rfl,nc,ea,hl,ru⟩:=GP S1.wo r1 e2
  obtain ⟨C',nc',cl,na⟩:=hk.ex
  obtain rfl:=nc.uniq nc'
  refine ⟨a,C,dx,xs,u,rfl,ea,cl,na,hl,tD.run S1 e3 fun w ρ2 B2 H2 g2 S2 r2=>?_⟩
  have ru2:=RepV.grow S1.wo.rb g2 _ _ ru
  have r12:=RepV.grow S1.wo.rb g2 _ _ r1
  unfold zG at e4
  split at e4
  ·obtain ⟨rfl,rfl⟩:=Qi e4
   refine ⟨_,_,ru2.intI,r2.intI,?_⟩
   obtain ⟨a',C2,dx',xs',q1,nc2,ea',hl',g,W⟩:=vn S2.wo r12 JW e5
   cases q1
   obtain rfl:=nc2.uniq nc
   exact ⟨dx',xs',ea',hl',k σ ρ2 B2 _ ((g1.trans (g2.trans g)).gs S.wo.rb) (S2.grow g W)⟩
  ·cases e4
theorem Qb2 {C:Addr} {n:Nat} {F:Er} (nc:ClsN X.K c C) (h:tD X.K (QD c m n F fo fa) σ H Q):QcX C m (spD X.K n F) [] E0 (tD X.K fo) (tDA X.K fa) σ H Q:=by
 obtain ⟨Z,env,ρ,B,U,d,hp',S,e,k⟩:=h
 obtain ⟨x,hp1,e1,e⟩:=Qe e
 obtain ⟨_,hp2,e2,e⟩:=Qe e
 obtain ⟨ds,hp3,e3,e⟩:=Qe e
 obtain ⟨_,hp4,e4,ef⟩:=Qe e
 obtain ⟨hl,rfl⟩:=QK e4
 refine tD.run S e1 fun v ρ1 B1 H1 g1 S1 r1=>?_
 obtain ⟨i,fs,rfl,w1,w2⟩:=jE e2
 obtain ⟨hn,rfl⟩:=QK w2
 obtain ⟨a,rfl,_,ro⟩:=RepV.refW S1.wo r1 w1
 obtain ⟨C',dx,xs,nc',ea,rf⟩:=ro.ins
 obtain rfl:=nc'.uniq nc
 have hx:xs.lookup m=none:=by
  rcases rf.look m with ⟨_,z⟩ | ⟨_,_,z,_,_⟩
  ·exact z
  ·rw [z] at hn;cases hn
 refine ⟨a,dx,xs,rfl,ea,hx,tDA.run S1 e3 fun vs ρ2 B2 H2 g2 S2 r2=>?_⟩
 refine ⟨?_,ρ2,B2,hp3,_,d,hp',S2.wo,?_,ef,k.after (g1.trans g2)⟩
 ·rw [Bt,Ba,<- r2.length];exact Ee hl
 ·rw [Bt];exact RepL.cons (RepV.grow S1.wo.rb g2 _ _ r1) r2
theorem ZD {k j n:Nat} {F:Er} {es:List Expr} {pl:Sem Bool} (h:XH X.prog X.w X.K X.mg X.O8 c m j n F) (hr:Room k X.A) (hj:j<=k) (hx:Ys CX0 X E0) (ho:DE X o fo) (ha:DA X (e::es) fa)
  (hst:starEach (e::es) X.env=(false,eval e X.env)::starEach es X.env:=by rfl) (hpl:(backTo pos (starEach es X.env)).any (·.1)=false:=by rfl)
  (ht:eval (.Call (.Attribute o m apos) (e::es) [] pos) X.env=(do
   let ov <- eval o X.env
   standAt apos.atName
   let (f,first) <- holding [ov] (getMethod ov m pl)
   callWith pos f first (backTo pos (starEach (e::es) X.env)) (backToKw pos (keywordEach [] X.env))):=by rfl):DE X (.Call (.Attribute o m apos) (e::es) [] pos) (QD c m n F fo fa):=by
 obtain ⟨C,g,fd,ps,nc,cl,hm,F',hb⟩:=h.ex
 exact L2.PE.imp (QdX (pl:=pl) ho cl hm F' (hr.mono hj) hb .nil hx ha hst hpl ht) fun σ H Q q=>Qb2 nc q
theorem Zx {k j n:Nat} {F:Er} {pl:Sem Bool} (h:XH X.prog X.w X.K X.mg X.O8 c m j n F) (hr:Room k X.A) (hj:j<=k) (hx:Ys CX0 X E0) (ho:DE X o fo)
  (ht:eval (.Call (.Attribute o m apos) [] [] pos) X.env=(do
   let ov <- eval o X.env
   standAt apos.atName
   let (f,first) <- holding [ov] (getMethod ov m pl)
   callWith pos f first (backTo pos (starEach [] X.env)) (backToKw pos (keywordEach [] X.env))):=by rfl):DE X (.Call (.Attribute o m apos) [] [] pos) (QD c m n F fo Qo):=by
 obtain ⟨C,g,fd,ps,nc,cl,hm,F',hb⟩:=h.ex
 refine L2.PE.imp (Qcj (pl:=pl) ho cl hm F' (hr.mono hj) hb .nil hx ht) fun σ H Q q=>?_
 obtain ⟨Z,env,ρ,B,U,d,hp',S,e,k⟩:=q
 obtain ⟨x,hp1,e1,e⟩:=Qe e
 obtain ⟨_,hp2,e2,e⟩:=Qe e
 obtain ⟨ds,hp3,e3,e⟩:=Qe e
 obtain ⟨_,hp4,e4,ef⟩:=Qe e
 obtain ⟨hl,rfl⟩:=QK e4
 obtain ⟨rfl,rfl⟩:=Qi e3
 refine tD.run S e1 fun v ρ1 B1 H1 g1 S1 r1=>?_
 obtain ⟨i,fs,rfl,w1,w2⟩:=jE e2
 obtain ⟨hn,rfl⟩:=QK w2
 obtain ⟨a,rfl,_,ro⟩:=RepV.refW S1.wo r1 w1
 obtain ⟨C',dx,xs,nc',ea,rf⟩:=ro.ins
 obtain rfl:=nc'.uniq nc
 have hx:xs.lookup m=none:=by
  rcases rf.look m with ⟨_,z⟩ | ⟨_,_,z,_,_⟩
  ·exact z
  ·rw [z] at hn;cases hn
 exact ⟨a,dx,xs,rfl,ea,hx,Ee hl,ρ1,B1,hp1,_,d,hp',S1.wo,RepL.cons r1 RepL.nil,ef,k.after g1⟩
theorem QaU {k:Nat} {C g:Addr} {O9:Ei} {σ:St} {H:Hp} {s:Shared} {Q:VK} {us:List Value} {vs:List V} (M:Mk X.K C g) (F:qy X.prog X.w X.K X.mg X.O8 CX0 k g fd ps sp) (hr:Room (k+1) X.A) (hb:Binds X.K fd ps [])
    (hx:Ys CX0 X E0) (I:Inv X O9 σ H s) (r:Vals vs us)
    (h:∀ x dx,H x=none->H dx=none->dx≠x->X.K.lookup x=none->sp (.ref x::vs) (upd (upd H dx (.own x)) x (.ins C dx [])) (fun v H2=>v=.non/\Q (.ref x) H2) E0) :
    wpAny (model X.prog X.w) X.A (call (.ref C) us) (EP X O9 σ Q) X.xe s:=by
  have kf:X.K.lookup (s.heap.objs.size+1)=none:=by
    cases q:X.K.lookup (s.heap.objs.size+1) with
    | none=>rfl
    | some o=>exact absurd (Ap (I.kIn _ _ q)) (Nat.not_lt.mpr (Nat.le_succ _))
  have hq:=h _ _ (I.hok.fresh (Nat.le_succ _)) (I.hok.fresh (Ae _)) (Bf (Nat.lt_succ_self _)) kf
  have J:=Inv.made (C:=C) I
  have rr:Vals (V.ref (s.heap.objs.size+1)::vs) (Value.ref (s.heap.objs.size+1)::us):=.cons rfl r
  have ll:((Value.ref (s.heap.objs.size+1)::us)++[]).length=ps.length:=by
    rw [Bt,<- rr.length];exact F.len _ _ _ _ hq
  have bb:=hb _ (Value.ref (s.heap.objs.size+1)::us) J.kIn ll
  rw [Bt] at bb
  refine wpAny_call (Qb0 (f:=g) I.kIn M.makes M.init (beq_iff_eq.mp M.fn) (codeAny_mono (F.run _ X.stack _ _ ⟨Value.ref (s.heap.objs.size+1)::us,[]⟩ _ _ _ E0 (hr.make C us []) (J.env0.make C us []) bb rr hq) fun q s' z=>?_))
  cases q with
  | error e=>exact hx O9 σ _ _ e s' J z
  | ok fl =>
    cases fl with
    | ret u =>
      obtain ⟨v,H',I3,rv,ev,q3⟩:=J.after z
      subst ev
      exact ⟨rv,⟨V.ref (s.heap.objs.size+1),H',I3,rfl,q3⟩⟩
    | next=>exact z.elim
    | brk=>exact z.elim
    | cont=>exact z.elim
theorem QbZ {C:Addr} {n:Nat} {F:Er} {K:Aa} {U hp':Hs} {ds:List DV} {d:DV} {Q:VK} (nc:ClsN K c C) (hl:ds.length+1=n) (W:WOk K ρ B U H) (r:RepL K ρ B H ds vs)
  (e:(do let x <- XX (.ins c []);let r <- F (x::ds);match r with | .non=>pure x | _=>failure:M DV) U=some (d,hp')) (k:Fol K ρ B H d hp' Q) :
  ∀ x dx,H x=none->H dx=none->dx≠x->K.lookup x=none->spD K n F (.ref x::vs) (upd (upd H dx (.own x)) x (.ins C dx [])) (fun v H2=>v=.non/\Q (.ref x) H2) E0:=by
 intro x dx hx hdx ne kf
 have e1:F (.ref U.length::ds) (U++[.ins c []])=some (.non,hp')/\d=.ref U.length:=by
  obtain ⟨y,hp1,a1,a2⟩:=Qe e
  cases a1
  obtain ⟨y,hp2,a3,a4⟩:=Qe a2
  cases y with
  | non=>obtain ⟨rfl,rfl⟩:=Qi a4;exact ⟨a3,rfl⟩
  | bl _=>cases a4
  | int _=>cases a4
  | str _=>cases a4
  | tup _=>cases a4
  | lst _=>cases a4
  | ref _=>cases a4
 obtain ⟨e1,rfl⟩:=e1
 have hx':upd H dx (.own x) x=none:=by rw [QX (Ne.symm ne)];exact hx
 have g0:Gr K ρ B H ρ B (upd H dx (.own x)):=Gr.laid hdx
 have g1:Gr K ρ B (upd H dx (.own x)) (ρ++[x]) (j6 B x) (upd (upd H dx (.own x)) x (.ins C dx [])):=Gr.wnew hx' kf
 have W1:WOk K (ρ++[x]) (j6 B x) (U++[.ins c []]) (upd (upd H dx (.own x)) x (.ins C dx [])):=(W.laid hdx).wnew hx' kf (RepF.orep nc .nil Q9)
 have rx:RepV K (ρ++[x]) (j6 B x) (upd (upd H dx (.own x)) x (.ins C dx [])) (.ref U.length) (.ref x):=by
  unfold RepV
  exact ⟨x,rfl,by rw [<- W.len];simp⟩
 refine ⟨?_,ρ++[x],j6 B x,U++[.ins c []],.ref U.length::ds,.non,hp',W1,RepL.cons rx (RepL.grow W.rb (g0.trans g1) _ _ r),e1,fun v ρ' B' H' g' W' r'=>?_⟩
 ·rw [Ba,<- r.length];exact hl
 ·exact ⟨r'.nonI,k _ ρ' B' H' ((g0.trans g1).trans g') W' (RepV.grow W1.rb g' _ _ rx)⟩
theorem Kj {k j n:Nat} {F:Er} {es:List Expr} {p:Pos} (h:Qba X.prog X.w X.K X.mg X.O8 c j n F) (hr:Room k X.A) (hj:j+1<=k) (hx:Ys CX0 X E0) (ha:DA X (e::es) fa) (hg:Gl X c:=by rfl)
  (hdb:(c==("__debug__" : Str))=false:=by decide) (he:starEach (e::es) X.env=(false,eval e X.env)::starEach es X.env:=by rfl) (hpl:(backTo pos (starEach es X.env)).any (·.1)=false:=by rfl):DE X (.Call (.Name c p) (e::es) [] pos) (JS c n F fa):=by
 obtain ⟨C,g,fd,ps,nc,hm,M,F',hb⟩:=h.ex
 intro O9 s σ H Q I q
 obtain ⟨Z,env,ρ,B,U,d,hp',S,e,k⟩:=q
 obtain ⟨ds,hp1,e1,e2⟩:=Qe e
 obtain ⟨_,hp2,e3,e4⟩:=Qe e2
 obtain ⟨hl,rfl⟩:=QK e3
 refine wpAny_Call_Name_kw (KG I hg hm ?_ hdb)
 refine PySem.W.callWith_K (h₀:=X.O8) I.ok.mod.kin M.kp (thn (ha pos O9 s σ H _ I (tDA.run S e1 fun vs ρ1 B1 H1 g1 S1 r1=>QbZ (Q:=Q) nc (Ee hl) S1.wo r1 e4 (k.after g1))) fun us s1 ⟨vs,H1,I1,r,q⟩=>⟨I1.kIn,?_⟩) he hpl
 exact QaU M F' (hr.mono hj) hb hx I1 r q
end
theorem QbF {P:Program} {w:World} {K:Aa} {mg:Ej} {O8:Heap} {x qual:Str} {g:Addr} {k:Nat} {body:DSx} (F:Fun K x qual stm g fd) (Sc:Qv N ps (Qp stm))
  (h:∀ (cdv:Value) (A:Around) (outer:List Env) (s:Shared) (H:Hp) (E:XK),Room k (A.deeper (envOfC qual (Qp stm) s.heap.objs.size g cdv))->DSs (yh CX0 P w K mg O8 N qual (Qp stm) g cdv A outer s H E).nox (ZG stm) body) :
  qy P w K mg O8 CX0 (k+1) g fd ps (spD K ps.length (Q7 N.length body)):=by
 refine F.ok Sc (fun vs H Q E h=>h.1) (fun cdv A outer s H vs Q E hr sp=>?_)
 obtain ⟨hn,ρ,B,U,ds,d,hp',W,r,e,k⟩:=sp
 obtain ⟨⟨fl,env'⟩,hp1,e1,e2⟩:=Qe e
 refine ⟨_,h cdv A outer s H E hr,⟨ρ,B,H⟩,_,ρ,B,U,fl,env',hp1,xC W r,e1,fun σ' ρ' B' H' g' S'=>?_⟩
 cases fl with
 | nx=>obtain ⟨rfl,rfl⟩:=Qi e2;exact k .non ρ' B' H' S'.gr S'.wo Y6
 | rt x=>obtain ⟨rfl,rfl⟩:=Qi e2;exact fun v rv=>k v ρ' B' H' S'.gr S'.wo rv
 | bk=>cases e2
 | ct=>cases e2
theorem Qb1 {P:Program} {w:World} {K:Aa} {mg:Ej} {O8:Heap} {c m qual:Str} {C g:Addr} {k:Nat} {body:DSx} (nc:ClsN K c C) (cl:Cls K C) (me:vP K C m g) (F:Fun K m qual stm g fd) (Sc:Qv N ps (Qp stm))
  (hb:∀ (kV doc pm:Value) (an:Option Addr) (cdv ct:Value) (us:List Value),us.length=ps.length->bindArgs (PySem.W.fnOf m qual (JE stm) (ZG stm) (Qp stm) .none kV doc pm an cdv ct) ⟨us,[]⟩=pure (ps.zip us))
  (h:∀ (cdv:Value) (A:Around) (outer:List Env) (s:Shared) (H:Hp) (E:XK),Room k (A.deeper (envOfC qual (Qp stm) s.heap.objs.size g cdv))->DSs (yh CX0 P w K mg O8 N qual (Qp stm) g cdv A outer s H E).nox (ZG stm) body) :
  XH P w K mg O8 c m (k+1) ps.length (Q7 N.length body):=⟨C,g,fd,ps,nc,cl,me,QbF F Sc h,F.binds hb⟩
theorem QbM {P:Program} {w:World} {K:Aa} {mg:Ej} {O8:Heap} {c qual:Str} {C g:Addr} {k:Nat} {body:DSx} (nc:ClsN K c C) (hm:mg c=some (.ref C)) (me:Mk K C g) (F:Fun K "__init__" qual stm g fd) (Sc:Qv N ps (Qp stm))
  (hb:∀ (kV doc pm:Value) (an:Option Addr) (cdv ct:Value) (us:List Value),us.length=ps.length->bindArgs (PySem.W.fnOf "__init__" qual (JE stm) (ZG stm) (Qp stm) .none kV doc pm an cdv ct) ⟨us,[]⟩=pure (ps.zip us))
  (h:∀ (cdv:Value) (A:Around) (outer:List Env) (s:Shared) (H:Hp) (E:XK),Room k (A.deeper (envOfC qual (Qp stm) s.heap.objs.size g cdv))->DSs (yh CX0 P w K mg O8 N qual (Qp stm) g cdv A outer s H E).nox (ZG stm) body) :
  Qba P w K mg O8 c (k+1) ps.length (Q7 N.length body):=⟨C,g,fd,ps,nc,hm,me,QbF F Sc h,F.binds hb⟩
section
variable {X:Cx}
def QeV:DSx:=fun _=>failure
theorem Qdo {st:Stmt}:DS X st QeV:=L2.PS.imp Qcs fun D σ H ⟨Z,env,ρ,B,U,fl,env',hp',S,e,k⟩=>by cases e
def Ui (i:Nat) (op:DV->DV->M DV) (fe:DEx):DSx:=fun env=>do let v <- Qc i env;let y <- fe env;let z <- op v y;pure (.nx,env.set i (.val z))
end
theorem ZF {α β:Type} (m:M α) (k:α->M β) (U:Hs):(m >>= k) U=(m U).bind fun p=>k p.1 p.2:=by
 show (StateT.bind m k U)=_
 unfold StateT.bind
 cases m U with
 | none=>rfl
 | some p=>obtain ⟨a,h⟩:=p;rfl
theorem Xu {α β:Type} (f:α->β) (m:M α) (U:Hs):(f <$> m) U=(m U).map fun p=>(f p.1,p.2):=by
 show (StateT.map f m U)=_
 unfold StateT.map
 cases m U with
 | none=>rfl
 | some p=>obtain ⟨a,h⟩:=p;rfl
def run_pure {α:Type} (a:α) (U:Hs):(pure a:M α) U=some (a,U):=rfl
def JU {α:Type} (U:Hs):(failure:M α) U=none:=rfl
theorem Ju (b:Bool) (U:Hs):Qz b U=if b=true then some ((),U) else none:=by cases b<;>rfl
theorem Xt (n:Nat) (U:Hs):Ja n U=(U[n]?).map fun o=>(o,U):=by unfold Ja;cases U[n]?<;>rfl
def run_set (n:Nat) (o:OV) (U:Hs):xE n o U=some ((),U.set n o):=rfl
def Xv (o:OV) (U:Hs):XX o U=some (.ref U.length,U++[o]):=rfl
theorem Zb (U:Hs) (k:Nat) (X:OV) (h:(U[k]?).isSome=true):(U.set k X)[k]?=some X:=by
 have:k < U.length:=by
  rcases Bh k U.length with q | q
  ·exact q
  ·rw [List.getElem?_eq_none q] at h;cases h
 rw [Au this]
def QZ (U:Hs) (k n:Nat) (X:OV) (h:k≠n):(U.set k X)[n]?=U[n]?:=Am h
theorem Z9 (U:Hs) (X:OV):(U++[X])[U.length]?=some X:=by simp
mutual
def KRep (K:Aa):DV->V->Prop
 | .non,v=>v=.non
 | .bl b,v=>v=.bl b
 | .int i,v=>v=.int i
 | .str x,v=>v=.str x
 | .tup ds,v=>∃ (a:Addr) (o:Obj) (its:Array Value) (n:Nat) (xs:List V),v=.ref a/\K.lookup a=some o/\o.cls=.type "tuple" /\ o.data=.seq its n/\its.size<=sizeLine/\Vals xs its.toList/\KRepL K ds xs
 | _,_=>False
def KRepL (K:Aa):List DV->List V->Prop
 | [],xs=>xs=[]
 | d::ds,xs=>∃ x r,xs=x::r/\KRep K d x/\KRepL K ds r
end
mutual
theorem KRep.rep {K:Aa} {B:Eo} (hb:∀ a,B a->K.lookup a=none):∀ (d:DV) (v:V),KRep K d v->RepV K ρ B H d v
  | .non,_,h=>by unfold KRep at h;unfold RepV;exact h
  | .bl _,_,h=>by unfold KRep at h;unfold RepV;exact h
  | .int _,_,h=>by unfold KRep at h;unfold RepV;exact h
  | .str _,_,h=>by unfold KRep at h;unfold RepV;exact h
  | .lst _,_,h=>by unfold KRep at h;exact h.elim
  | .ref _,_,h=>by unfold KRep at h;exact h.elim
  | .tup ds,_,h=>by
    unfold KRep at h;unfold RepV
    obtain ⟨a,o,its,n,xs,rfl,h1,h2,h3,h4,h5,h6⟩:=h
    exact ⟨a,xs,rfl,fun z=>(by rw [hb a z] at h1;cases h1),.inr ⟨o,its,n,h1,h2,h3,h4,h5⟩,KRepL.rep hb ds xs h6⟩
theorem KRepL.rep {K:Aa} {B:Eo} (hb:∀ a,B a->K.lookup a=none):∀ (ds:List DV) (xs:List V),KRepL K ds xs->RepL K ρ B H ds xs
  | [],_,h=>by unfold KRepL at h;unfold RepL;exact h
  | d::ds,_,h=>by
    unfold KRepL at h;unfold RepL
    obtain ⟨x,r,e,h1,h2⟩:=h
    exact ⟨x,r,e,KRep.rep hb d x h1,KRepL.rep hb ds r h2⟩
end
theorem uu {K:Aa} {a:Addr} {od:Option Addr} {its:Array Value} {n:Nat} {sl:Array (Option Value)} (h:K.lookup a=some ⟨.type "tuple", od,.seq its n,sl⟩) (hs:its.size<=sizeLine) (hv:Vals xs its.toList) (hl:KRepL K ds xs):KRep K (.tup ds) (.ref a):=by
 unfold KRep;exact ⟨a,_,its,n,xs,rfl,h,rfl,rfl,hs,hv,hl⟩
theorem QbP {K:Aa}:KRep K .non .non:=by unfold KRep;rfl
theorem Qfu {K:Aa} {i:Int}:KRep K (.int i) (.int i):=by unfold KRep;rfl
theorem KB {K:Aa}:KRepL K [] []:=by unfold KRepL;rfl
theorem qI {K:Aa} {d:DV} {x:V} (h:KRep K d x) (h':KRepL K ds r):KRepL K (d::ds) (x::r):=by unfold KRepL;exact ⟨x,r,rfl,h,h'⟩
theorem Qdi {X:Cx} {x:Str} {a:Addr} {pos:Pos} (hg:Gl X x) (hm:X.mg x=some (.ref a)) (hk:KRep X.K (.tup ds) (.ref a)) (hd:(x==("__debug__" : Str))=false:=by decide):DE X (.Name x pos) (eC (.tup ds)) :=
 (kA (v:=.ref a) hg hm rfl hd).imp fun σ H Q zz1=>by
  obtain ⟨Z,env,ρ,B,U,d',hp',S,e,k⟩:=zz1
  obtain ⟨rfl,rfl⟩:=Qi e
  exact k _ ρ B H Gr.refl S.wo (KRep.rep S.wo.bk _ _ hk)
theorem Qdv {b:DV->DSx} {d:DV} (h:b d env U=some ((.nx,env1),hp1)):qD b (d::ds) env U=qD b ds env1 hp1:=by
 rw [qD,Qh h]
theorem QbH (U:Hs) (x:OV) (t:Hs):(U++x::t)[U.length]?=some x:=by simp
theorem QcG (U:Hs) (x y:OV) (t:Hs):(U++x::t).set U.length y=U++y::t:=by
 rw [List.set_append_right _ _ (Ae _)];simp
theorem Qeo {U:Hs} {n:Nat} (h:U[n]?=some x):U.set n x=U:=by
 obtain ⟨hl,rfl⟩:=Ac.mp h
 exact List.set_getElem_self hl
theorem yu {n i:Nat} {d:DV} (h:(Z3 0 n)[i]?=some d):i < n/\d=.int (i:Int):=by
 obtain ⟨h1,h2⟩:=uM h
 exact ⟨h1,by rw [h2];simp⟩
theorem Qa2 {n:Nat} (h:n<=1000000):VJ (n:Int)=true:=QcO (by lia) (by lia)
theorem Qb4 {i:Int} (h:0<=i):∃ j:Nat,i=j:=⟨i.toNat,by lia⟩
theorem QdF {n i:Nat} (h:i < n):ixN n (i:Int)=some i:=by unfold ixN;rw [C9 (by lia),C9 (by lia)];simp
theorem uP {f:DXx} {g:DGx} {r:(Fl×En)×Hs} (h:f env U=some (nxD ds,hp1)) (h':yk (nxD ds) (fun d env=>do let env' <- g d env;body env') 100000 0 env hp1=some r):kL f g body env U=some r:=by
 unfold kL
 rw [Qh h];exact h'
theorem q8 {f:DIx} {g:DGx} {r:(Fl×En)×Hs} (h:f env U=some (ds,hp1)) (h':qD (fun d env=>do let env' <- g d env;body env') ds env hp1=some r):uO f g body env U=some r:=by
 unfold uO
 rw [Qh h];exact h'
theorem Qeh {m:Nat} (h:m<=1000000) (U:Hs):QaS [.int (m:Int)] U=some (Z3 0 m,U):=by
 have e:QaS [.int (m:Int)]=pure (Z3 0 (m:Int).toNat):=by
  simp only [QaS,Qa2 h,Qz,if_true,Eg]
 rw [e,B7];rfl
theorem Kx {f:DAx} {m:Nat} (h:f env U=some ([.int (m:Int)],hp1)) (hm:m<=1000000):Qav f env U=some (Z3 0 m,hp1):=by
 unfold Qav
 rw [Qh h];exact Qeh hm hp1
theorem vM {f:DEx} (h:f env U=some (.lst ds,hp1)):xLs f env U=some (nxD ds,hp1):=by
 unfold xLs
 rw [Qh h];rfl
section
variable {X:Cx}
def jC (x:DV):List DV->M DV
 | [y]=>onL x fun n ds=>onL y fun _ es=>do Qz (decide (ds.length+es.length<=lim));xE n (.lst (ds++es));pure .non
 | _=>failure
theorem QbY:MtR X "list.extend" (tPm X.K jC):=by
 intro O9 s σ H x vs v us Q I rx rv h
 obtain ⟨ρ,B,U,dx,es,d,hp',W,r1,r2,e,k⟩:=h
 unfold jC at e
 split at e
 ·rename_i y
  obtain ⟨n,ds,rfl,h0,e⟩:=jF e
  obtain ⟨m,zs,rfl,h0',e⟩:=jF e
  obtain ⟨_,hp1,e1,e2⟩:=Qe e
  obtain ⟨hl,rfl⟩:=QK e1
  cases e2
  obtain ⟨a,rfl,i1,xs,h1,l1⟩:=RepV.refW W r1 h0
  obtain ⟨w,rfl,rw'⟩:=r2.oneI
  obtain ⟨b,rfl,i2,ys,h2,l2⟩:=RepV.refW W rw' h0'
  obtain ⟨g,W'⟩:=jV W i1 h1 (RepL.append l1 l2)
  exact QaG O9 s σ H _ _ v us Q I rx rv ⟨a,b,xs,ys,rfl,rfl,h1,h2,by rw [<- l1.length,<- l2.length];exact Bj (Ee hl) KH,k _ ρ B _ g W' Y6⟩
 ·cases e
def KJ (x:DV):List DV->M DV
 | []=>onL x fun n _=>do xE n (.lst []);pure .non
 | _=>failure
theorem QdI:MtR X "list.clear" (tPm X.K KJ):=by
 intro O9 s σ H x vs v us Q I rx rv h
 obtain ⟨ρ,B,U,dx,es,d,hp',W,r1,r2,e,k⟩:=h
 unfold KJ at e
 split at e
 ·obtain ⟨n,ds,rfl,h0,e⟩:=jF e
  cases e
  obtain ⟨a,rfl,i1,xs,h1,l1⟩:=RepV.refW W r1 h0
  have hv:vs=[]:=by unfold RepL at r2;exact r2
  obtain ⟨g,W'⟩:=jV W i1 h1 RepL.nil
  exact Qb3 O9 s σ H _ _ v us Q I rx rv ⟨a,xs,rfl,hv,h1,k _ ρ B _ g W' Y6⟩
 ·cases e
end
end D
namespace L2
open PySem PySem.Spec PyProof.Rows
abbrev XI (h:Heap) (z p o:Addr) (f:Value) (b:Bool):Prop:=h.get? z=some { cls:=Value.type "zip", data:=Data.fields #[f,Value.bool b,Value.bool false,Value.ref p,Value.ref o] }
structure ZU (h:Heap) (z p o i j a b:Addr) (n:Nat):Prop where
 zz:∃ f fl,XI h z p o f fl/\(f=.none∨∃ T:Nat,f=rawInt T)
 pp:IsPair h p (.ref i) (.ref j)
 oo:∃ x y,IsPair h o x y
 ii:h.IsTupleIter i a n
 jj:h.IsTupleIter j b n
section
variable {prog:Program} {w:World} {A:Around} {E:Eh} {s:Shared}
theorem vL {a:Addr} {Q:Option Obj->Shared->Prop} (h:Q (s.heap.get? a) s):wpAny (model prog w) A (loadIfAlive a) Q E s:=by
 intro Γ p hΓ
 unfold loadIfAlive
 rw [Sem.wp_loadIfAlive]
 exact Ea (M:=model prog w) (A:=A) (E:=E) h Γ p hΓ
theorem kY {z p o:Addr} {f:Value} {fl:Bool} {Q:Bool->Shared->Prop} (zz:XI s.heap z p o f fl) (hf:f=.none∨∃ T:Nat,f=rawInt T) (q1:Q true s) (q2:∀ g,XI g z p o f true->Heap.ExtBut z s.heap g->g.objs.size=s.heap.objs.size->Q false { s with heap:=g }):
    wpAny (model prog w) A (Builtin.SmallTypes.ownedTupleIsFree (.ref z)) Q E s:=by
  unfold Builtin.SmallTypes.ownedTupleIsFree
  rcases hf with rfl | ⟨T,rfl⟩
  . exact C7 (wpAny_field zz rfl (x:=.none) rfl (Ea q1))
  . refine C7 (wpAny_field zz rfl (x:=rawInt T) rfl ?_)
    show wpAny _ _ (loadIfAlive (T:Int).toNat >>= _) _ _ _
    refine C7 (vL ?_)
    cases hT:s.heap.get? (T:Int).toNat with
    | none=>exact Ea q1
    | some ob =>
      show wpAny _ _ (field (.ref z) 1 >>= _) _ _ _
      refine C7 (wpAny_field zz rfl (x:=.bool fl) rfl ?_)
      cases fl with
      | true=>exact Ea (q2 _ zz (fun _ _ _ e=>e) rfl)
      | false =>
        show wpAny _ _ (setField (.ref z) 1 (.bool true) >>= _) _ _ _
        exact C7 (wpAny_setField_rec zz (by simp) fun g z1 k1=>Ea (q2 g z1 k1.extBut k1.1))
theorem QeC {z p o i j a b:Addr} {n:Nat} {xs ys:Array Value} {Q:Eh} (D:ZA z p o i j a b) (S:ZU s.heap z p o i j a b n) (ha:s.heap.IsTuple a xs) (hb:s.heap.IsTuple b ys) (hx:xs[n]?=some x) (hy:ys[n]?=some y)
  (k:∀ g,ZU g z p o i j a b (n+1)->IsPair g s.heap.objs.size x y->g.objs.size=s.heap.objs.size+1->(∀ c u,c≠z->c≠o->c≠i->c≠j->s.heap.get? c=some u->g.get? c=some u)->Q (.ref s.heap.objs.size) { s with heap:=g }) :
  wpAny (model prog w) A (Builtin.«zip.__next__» ⟨[.ref z],[]⟩) (fun fin s'=>∃ v,fin=.done (.ret v)/\Q v s') E s:=by
 obtain ⟨⟨f,fl,zz,hf⟩,pp,⟨u1,u2,oo⟩,ii,jj⟩:=S
 have ht:∀ {g g':Heap} {q c:Addr} {vs:Array Value},Heap.SameBut q g g'->c≠q->g.IsTuple c vs->g'.IsTuple c vs:=fun {g g' q c vs} sb hc ⟨ob,e,r⟩=>⟨ob,sb.extBut _ _ hc e,r⟩
 show wpAny _ _ (field (.ref z) 2 >>= _) _ _ _
 refine C7 (wpAny_field zz rfl (x:=.bool false) rfl ?_)
 show wpAny _ _ (field (.ref z) 3 >>= _) _ _ _
 refine C7 (wpAny_field zz rfl (x:=.ref p) rfl ?_)
 refine C7 (wpAny_seqItems pp rfl ?_)
 show wpAny _ _ (Builtin.SmallTypes.ownedTupleIsFree (.ref z) >>= _) _ _ _
 refine C7 (kY zz hf ?_ ?_)
 ·simp only [if_true]
  refine C7 (wpAny_rule ?_)
  refine C7 (wpAny_field zz rfl (x:=.ref o) rfl ?_)
  refine C7 (wpAny_setField_rec zz (by simp) fun g1 z1 k1=>?_)
  replace z1:XI g1 z p o .ellipsis fl:=z1
  refine C7 ?_
  simp only [List.zipIdx_cons,List.zipIdx_nil,List.forIn_cons,List.forIn_nil]
  refine C7 (C7 (wpAny_onRaise ?_))
  show wpAny _ _ (Builtin.SmallTypes.nextOf (.ref i) >>= _) _ _ _
  refine C7 (zd (ii.extBut k1.extBut D.iz) (ht k1 D.az ha) hx fun g2 i2 k2=>Ea ?_)
  have o2:IsPair g2 o u1 u2:=k2.extBut _ _ D.oi (k1.extBut _ _ D.oz oo)
  refine C7 (wpAny_seqItems o2 rfl ?_)
  refine C7 (wpAny_updateSeq_pair o2 fun g3 o3 k3=>?_)
  replace o3:IsPair g3 o x u2:=o3
  refine C7 (wpAny_letGo (Ea ?_))
  refine C7 (C7 (wpAny_onRaise ?_))
  show wpAny _ _ (Builtin.SmallTypes.nextOf (.ref j) >>= _) _ _ _
  refine C7 (zd (((jj.extBut k1.extBut D.jz).extBut k2.extBut D.ij.symm).extBut k3.extBut D.oj.symm) (ht k3 D.bo (ht k2 D.bi (ht k1 D.bz hb))) hy fun g4 j4 k4=>Ea ?_)
  have o4:IsPair g4 o x u2:=k4.extBut _ _ D.oj o3
  refine C7 (wpAny_seqItems o4 rfl ?_)
  refine C7 (wpAny_updateSeq_pair o4 fun g5 o5 k5=>?_)
  replace o5:IsPair g5 o x y:=o5
  refine C7 (wpAny_letGo (Ea (Ea ?_)))
  refine C7 (wpAny_seqItems o5 rfl ?_)
  refine C7 (wpAny_newTuple ?_)
  have sz:g5.objs.size=s.heap.objs.size:=by rw [k5.1,k4.1,k3.1,k2.1,k1.1]
  have z5:XI g5 z p o .ellipsis fl:=k5.extBut _ _ D.oz.symm (k4.extBut _ _ D.jz.symm (k3.extBut _ _ D.oz.symm (k2.extBut _ _ D.iz.symm z1)))
  have kk:∀ c u,c≠z->c≠o->c≠i->c≠j->s.heap.get? c=some u->g5.get? c=some u:=fun c u c1 c2 c3 c4 e=>k5.extBut _ _ c2 (k4.extBut _ _ c4 (k3.extBut _ _ c2 (k2.extBut _ _ c3 (k1.extBut _ _ c1 e))))
  have i5:g5.IsTupleIter i a (n+1):=((i2.extBut k3.extBut D.oi.symm).extBut k4.extBut D.ij).extBut k5.extBut D.oi.symm
  have j5:g5.IsTupleIter j b (n+1):=j4.extBut k5.extBut D.oj.symm
  have zl:z < g5.objs.size:=Ap z5
  show wpAny _ _ (Builtin.SmallTypes.ownedTupleHandOut (.ref z) (.ref g5.objs.size) >>= _) _ _ _
  refine C7 ?_
  unfold Builtin.SmallTypes.ownedTupleHandOut
  have z6:XI (g5.push { cls:=.type "tuple", data:=.seq #[x,y] }) z p o .ellipsis fl:=Ad _ z5
  refine C7 (wpAny_setField_rec z6 (by simp) fun g7 z7 k7=>?_)
  replace z7:XI g7 z p o (rawInt g5.objs.size) fl:=z7
  refine wpAny_setField_rec z7 (by simp) fun g8 z8 k8=>?_
  replace z8:XI g8 z p o (rawInt g5.objs.size) false:=z8
  have up:∀ c u,c≠z->g5.get? c=some u->g8.get? c=some u:=fun c u c1 e=>k8.extBut _ _ c1 (k7.extBut _ _ c1 (Ad _ e))
  have t8:IsPair g8 g5.objs.size x y:=k8.extBut _ _ (C5 zl) (k7.extBut _ _ (C5 zl) (Av _ rfl))
  have s8:g8.objs.size=g5.objs.size+1:=by rw [k8.1,k7.1,Co]
  refine Ea ⟨_,rfl,?_⟩
  show Q (.ref g5.objs.size) _
  rw [sz] at z8 t8 s8
  rw [sz]
  exact k g8 ⟨⟨_,_,z8,.inr ⟨_,rfl⟩⟩,up _ _ D.pz (kk _ _ D.pz D.po D.pi D.pj pp),⟨x,y,up _ _ D.oz o5⟩,i5.at fun u e=>up _ u D.iz e,j5.at fun u e=>up _ u D.jz e⟩ t8 s8 fun c u c1 c2 c3 c4 e=>up c u c1 (kk c u c1 c2 c3 c4 e)
 ·intro g1 z1 k1 sz1
  simp only [Az,if_false]
  refine C7 ?_
  have ia1:g1.IsTuple a xs:=let ⟨ob,e,r⟩:=ha;⟨ob,k1 _ _ D.az e,r⟩
  have ib1:g1.IsTuple b ys:=let ⟨ob,e,r⟩:=hb;⟨ob,k1 _ _ D.bz e,r⟩
  simp only [List.forIn_toArray,List.forIn_cons,List.forIn_nil]
  refine C7 (C7 (wpAny_holding ?_))
  show wpAny _ _ (Builtin.SmallTypes.nextOf (.ref i) >>= _) _ _ _
  refine C7 (zd (s:={ s with heap:=g1 }) (ii.extBut k1 D.iz) ia1 hx fun g2 i2 k2=>Ea (Ea ?_))
  refine C7 (C7 (wpAny_holding ?_))
  show wpAny _ _ (Builtin.SmallTypes.nextOf (.ref j) >>= _) _ _ _
  refine C7 (zd (s:={ s with heap:=g2 }) ((jj.extBut k1 D.jz).extBut k2.extBut D.ij.symm) (ht k2 D.bi ib1) hy fun g3 j3 k3=>Ea (Ea ?_))
  refine Ea ?_
  refine C7 (wpAny_newTuple ?_ (show (2:Nat)<=sizeLine by decide))
  have sz:g3.objs.size=s.heap.objs.size:=by rw [k3.1,k2.1,sz1]
  have kk:∀ c u,c≠z->c≠i->c≠j->s.heap.get? c=some u->(g3.push { cls:=.type "tuple", data:=.seq #[x,y] }).get? c=some u:=fun c u c1 c3 c4 e=>Ad _ (k3.extBut _ _ c4 (k2.extBut _ _ c3 (k1 _ _ c1 e)))
  have z3:XI (g3.push { cls:=.type "tuple", data:=.seq #[x,y] }) z p o f true:=Ad _ (k3.extBut _ _ D.jz.symm (k2.extBut _ _ D.iz.symm z1))
  refine Ea ⟨_,rfl,?_⟩
  show Q (.ref g3.objs.size) _
  rw [sz]
  refine k _ ⟨⟨f,true,z3,hf⟩,kk _ _ D.pz D.pi D.pj pp,⟨u1,u2,kk _ _ D.oz D.oi D.oj oo⟩,(i2.extBut k3.extBut D.ij).at fun u e=>Ad _ e,j3.at fun u e=>Ad _ e⟩ ?_ (by rw [Co,sz]) fun c u c1 _ c3 c4 e=>kk c u c1 c3 c4 e
  rw [<- sz];exact Av _ rfl
theorem QeD {z p o i j a b:Addr} {n:Nat} {xs ys:Array Value} {Q:PySem.Fin->Shared->Prop} (hh:A.handled=none) (D:ZA z p o i j a b) (S:ZU s.heap z p o i j a b n) (ha:s.heap.IsTuple a xs) (hb:s.heap.IsTuple b ys) (he:xs[n]?=none∨ys[n]?=none)
    (k:∀ g x,(∀ c u,c≠z->c≠o->c≠i->c≠j->s.heap.get? c=some u->g.get? c=some u)->(∃ u,g.get? x=some u/\u.cls=.type "StopIteration")->E (.ref x) { s with heap:=g }) :
    wpAny (model prog w) A (Builtin.«zip.__next__» ⟨[.ref z],[]⟩) Q E s:=by
  obtain ⟨⟨f,fl,zz,hf⟩,pp,⟨u1,u2,oo⟩,ii,jj⟩:=S
  have ht:∀ {g g':Heap} {q c:Addr} {vs:Array Value},Heap.SameBut q g g'->c≠q->g.IsTuple c vs->g'.IsTuple c vs:=fun {g g' q c vs} sb hc ⟨ob,e,r⟩=>⟨ob,sb.extBut _ _ hc e,r⟩
  show wpAny _ _ (field (.ref z) 2 >>= _) _ _ _
  refine C7 (wpAny_field zz rfl (x:=.bool false) rfl ?_)
  show wpAny _ _ (field (.ref z) 3 >>= _) _ _ _
  refine C7 (wpAny_field zz rfl (x:=.ref p) rfl ?_)
  refine C7 (wpAny_seqItems pp rfl ?_)
  show wpAny _ _ (Builtin.SmallTypes.ownedTupleIsFree (.ref z) >>= _) _ _ _
  refine C7 (kY zz hf ?_ ?_)
  . simp only [if_true]
    refine C7 (wpAny_rule ?_)
    refine C7 (wpAny_field zz rfl (x:=.ref o) rfl ?_)
    refine C7 (wpAny_setField_rec zz (by simp) fun g1 z1 k1=>?_)
    replace z1:XI g1 z p o .ellipsis fl:=z1
    refine C7 ?_
    simp only [List.zipIdx_cons,List.zipIdx_nil,List.forIn_cons,List.forIn_nil]
    refine C7 (C7 (wpAny_onRaise ?_))
    show wpAny _ _ (Builtin.SmallTypes.nextOf (.ref i) >>= _) _ _ _
    cases hx:xs[n]? with
    | none =>
      refine C7 (Gd hh (ii.extBut k1.extBut D.iz) (ht k1 D.az ha) hx fun g2 x k2 h2=>?_)
      obtain ⟨oe,h3,h4⟩:=h2
      have z2:XI g2 z p o .ellipsis fl:=k2 _ _ D.iz.symm z1
      have xz:x≠z:=fun q=>by subst q;rw [z2] at h3;cases h3;simp at h4
      exact wpAny_setField_rec z2 (by simp) fun g3 _ k3=>k g3 x (fun c u c1 _ c3 _ e=>k3.extBut _ _ c1 (k2 _ _ c3 (k1.extBut _ _ c1 e))) ⟨oe,k3.extBut _ _ xz h3,h4⟩
    | some x0 =>
      have hy:ys[n]?=none:=by rcases he with h | h;rw [hx] at h;cases h;exact h
      refine C7 (zd (ii.extBut k1.extBut D.iz) (ht k1 D.az ha) hx fun g2 i2 k2=>Ea ?_)
      have o2:IsPair g2 o u1 u2:=k2.extBut _ _ D.oi (k1.extBut _ _ D.oz oo)
      refine C7 (wpAny_seqItems o2 rfl ?_)
      refine C7 (wpAny_updateSeq_pair o2 fun g3 o3 k3=>?_)
      refine C7 (wpAny_letGo (Ea ?_))
      refine C7 (C7 (wpAny_onRaise ?_))
      show wpAny _ _ (Builtin.SmallTypes.nextOf (.ref j) >>= _) _ _ _
      refine C7 (Gd hh (((jj.extBut k1.extBut D.jz).extBut k2.extBut D.ij.symm).extBut k3.extBut D.oj.symm) (ht k3 D.bo (ht k2 D.bi (ht k1 D.bz hb))) hy fun g4 x k4 h2=>?_)
      obtain ⟨oe,h3,h4⟩:=h2
      have z4:XI g4 z p o .ellipsis fl:=k4 _ _ D.jz.symm (k3.extBut _ _ D.oz.symm (k2.extBut _ _ D.iz.symm z1))
      have xz:x≠z:=fun q=>by subst q;rw [z4] at h3;cases h3;simp at h4
      exact wpAny_setField_rec z4 (by simp) fun g5 _ k5=>k g5 x (fun c u c1 c2 c3 c4 e=>k5.extBut _ _ c1 (k4 _ _ c4 (k3.extBut _ _ c2 (k2.extBut _ _ c3 (k1.extBut _ _ c1 e))))) ⟨oe,k5.extBut _ _ xz h3,h4⟩
  . intro g1 z1 k1 sz1
    simp only [Az,if_false]
    refine C7 ?_
    have ia1:g1.IsTuple a xs:=let ⟨ob,e,r⟩:=ha;⟨ob,k1 _ _ D.az e,r⟩
    have ib1:g1.IsTuple b ys:=let ⟨ob,e,r⟩:=hb;⟨ob,k1 _ _ D.bz e,r⟩
    simp only [List.forIn_toArray,List.forIn_cons,List.forIn_nil]
    refine C7 (C7 (wpAny_holding ?_))
    show wpAny _ _ (Builtin.SmallTypes.nextOf (.ref i) >>= _) _ _ _
    cases hx:xs[n]? with
    | none =>
      exact C7 (Gd (s:={ s with heap:=g1 }) hh (ii.extBut k1 D.iz) ia1 hx fun g2 x k2 h2=>k g2 x (fun c u c1 _ c3 _ e=>k2 _ _ c3 (k1 _ _ c1 e)) h2)
    | some x0 =>
      have hy:ys[n]?=none:=by rcases he with h | h;rw [hx] at h;cases h;exact h
      refine C7 (zd (s:={ s with heap:=g1 }) (ii.extBut k1 D.iz) ia1 hx fun g2 i2 k2=>Ea (Ea ?_))
      refine C7 (C7 (wpAny_holding ?_))
      show wpAny _ _ (Builtin.SmallTypes.nextOf (.ref j) >>= _) _ _ _
      exact C7 (Gd (s:={ s with heap:=g2 }) hh ((jj.extBut k1 D.jz).extBut k2.extBut D.ij.symm) (ht k2 D.bi ib1) hy fun g3 x k3 h2=>k g3 x (fun c u c1 _ c3 c4 e=>k3 _ _ c4 (k2.extBut _ _ c3 (k1 _ _ c1 e))) h2)
end
theorem ZU.at {h h':Heap} {z p o i j a b:Addr} {n:Nat} (S:ZU h z p o i j a b n) (k:∀ c∈[z,p,o,i,j],∀ u,h.get? c=some u->h'.get? c=some u):ZU h' z p o i j a b n:=by
 obtain ⟨⟨f,fl,zz,hf⟩,pp,⟨u1,u2,oo⟩,ii,jj⟩:=S
 exact ⟨⟨f,fl,k z (by simp) _ zz,hf⟩,k p (by simp) _ pp,⟨u1,u2,k o (by simp) _ oo⟩,ii.at fun u e=>k i (by simp) u e,jj.at fun u e=>k j (by simp) u e⟩
theorem Qa7 {P:Program} {w:World} {K:Aa} {xn:Str} {pos:Pos} {z p o i j a b:Addr} (D:ZA z p o i j a b):Qbd P w K (.Name xn pos) (Itz K a b) [z,p,o,i,j] z (fun n h=>ZU h z p o i j a b n) where
 mem:=by simp
 obj:=fun n h S c hc=>by
  obtain ⟨⟨f,fl,zz,hf⟩,pp,⟨u1,u2,oo⟩,⟨oi,ei,ci,di⟩,⟨oj,ej,cj,dj⟩⟩:=S
  simp only [Bk,Cf,or_false] at hc
  rcases hc with rfl | rfl | rfl | rfl | rfl
  ·exact ⟨_,zz,fun v q=>by have q':Data.fields _=Data.cell v:=q;cases q'⟩
  ·exact ⟨_,pp,fun v q=>by have q':Data.seq _ _=Data.cell v:=q;cases q'⟩
  ·exact ⟨_,oo,fun v q=>by have q':Data.seq _ _=Data.cell v:=q;cases q'⟩
  ·exact ⟨oi,ei,fun v q=>by rw [di] at q;cases q⟩
  ·exact ⟨oj,ej,fun v q=>by rw [dj] at q;cases q⟩
 keep:=fun n h h' S k=>S.at k
 item:=by
  intro X hP hw hK hc n O9 s σ H E I hf S hg
  subst hP hw hK
  obtain ⟨xs,ys,x,y,qa,qb,hx,hy⟩:=hg
  obtain ⟨ia,ra,pa,_⟩:=I.tuple qa
  obtain ⟨ib,rb,pb,_⟩:=I.tuple qb
  obtain ⟨u,hu,ru⟩:=ra.get hx
  obtain ⟨v,hv,rv⟩:=rb.get hy
  obtain ⟨f0,fl0,zz0,hf0⟩:=S.zz
  have hT:s.TypeIs (.ref z) "zip" := ⟨_,zz0,rfl⟩
  unfold pyNext
  refine C7 (wpAny_attempt (wpAny_callSpecial?_slot (name:=Str.ofString "__next__") hT F.slot_zip_next (wpAny_call_entry F.slot_zip_next hT F.entry_zip_next
   (QeC D S (show s.heap.IsTuple a ia.toArray from pa) (show s.heap.IsTuple b ib.toArray from pb) (by simpa using hu) (by simpa using hv) fun g' S' tp sz kp=>Ea ?_) (F.args_zip_next_1 _))))
  refine ⟨_,rfl,Ea ?_⟩
  have kp':∀ c q,c∉[z,p,o,i,j]->s.heap.get? c=some q->g'.get? c=some q:=fun c q hc e=>by
   simp only [Bk,Cf,or_false,not_or] at hc
   exact kp c q hc.1 hc.2.2.1 hc.2.2.2.1 hc.2.2.2.2 e
  have ne:∀ c∈[z,p,o,i,j],c≠s.heap.objs.size:=fun c hc e=>by
   obtain ⟨_,pp,⟨u1,u2,oo⟩,⟨oi,ei,_⟩,⟨oj,ej,_⟩⟩:=S
   simp only [Bk,Cf,or_false] at hc
   rcases hc with rfl | rfl | rfl | rfl | rfl
   ·exact Bf (Ap zz0) e
   ·exact Bf (Ap pp) e
   ·exact Bf (Ap oo) e
   ·exact Bf (Ap ei) e
   ·exact Bf (Ap ej) e
  refine ⟨.ref s.heap.objs.size,upd H s.heap.objs.size (.tup [x,y]),I.turnNew (t':=s.toks) hf kp' (us:=[u,v]) (.cons ru (.cons rv .nil)) (show 2<=sizeLine by decide) ⟨_,tp,rfl,_,rfl⟩,rfl,
   ⟨_,x,y,I.hok.fresh (Ae _),fun xs' h=>by rw [I.tuple_inj h qa];exact hx,fun ys' h=>by rw [I.tuple_inj h qb];exact hy,rfl,rfl⟩,S',fun c hc=>?_⟩
  rw [QX (ne c hc)];exact (hf c hc).1
 done:=by
  intro X hP hw hK hc n O9 s σ H E I hf S hg
  subst hP hw hK
  obtain ⟨xs,ys,qa,qb,hs⟩:=hg
  obtain ⟨ia,ra,pa,_⟩:=I.tuple qa
  obtain ⟨ib,rb,pb,_⟩:=I.tuple qb
  have l1:=ra.length
  have l2:=rb.length
  obtain ⟨f0,fl0,zz0,hf0⟩:=S.zz
  have hT:s.TypeIs (.ref z) "zip" := ⟨_,zz0,rfl⟩
  unfold pyNext
  refine C7 (wpAny_attempt (wpAny_callSpecial?_slot (name:=Str.ofString "__next__") hT F.slot_zip_next (wpAny_call_entry F.slot_zip_next hT F.entry_zip_next
   (QeD (I.ok.hd hc) D S (show s.heap.IsTuple a ia.toArray from pa) (show s.heap.IsTuple b ib.toArray from pb) (by rcases hs with q | q;exact .inl (by simp;lia);exact .inr (by simp;lia)) fun g x kp hx=>?_) (F.args_zip_next_1 _))))
  obtain ⟨ox,h1,h2⟩:=hx
  refine C7 (wpAny_isInstance (T := "StopIteration") (b:=true) ⟨ox,h1,h2⟩ isSubtype_stop ?_)
  refine Ea ⟨rfl,I.turnL (t':=s.toks) hf fun c q hc e=>?_⟩
  simp only [Bk,Cf,or_false,not_or] at hc
  exact kp c q hc.1 hc.2.2.1 hc.2.2.2.1 hc.2.2.2.2 e
 self:=fun _ _ _ _ _ S h=>by
  obtain ⟨f0,fl0,zz0,hf0⟩:=S.zz
  have hT:Shared.TypeIs _ (Value.ref z) "zip" := ⟨_,zz0,rfl⟩
  refine wpAny_pyIter_slot hT F.slot_zip_iter (wpAny_call_entry F.slot_zip_iter hT F.entry_zip_iter ?_ (F.args_zip_iter_1 _))
  exact Ea ⟨_,rfl, "zip", _,hT,(F.slot_zip_next).1,h⟩
section
variable {X:Cx} {xn:Str} {p2:Pos}
theorem QeA {R:It->Hp->Prop} {E:Eh} {a b:Addr} (I:Inv X O9 σ H s) (qa:SqT X.K H a xs) (qb:SqT X.K H b ys) (q:R (Itz X.K a b) H):
  wpAny (model X.prog X.w) X.A (call (.type "zip") [.ref a,.ref b]) (fun v s1=>wpAny (model X.prog X.w) X.A (pyIter v) (PIE X O9 σ (.Name xn p2) R) E s1) E s:=by
 obtain ⟨ia,ra,pa,_⟩:=I.tuple qa
 obtain ⟨ib,rb,pb,_⟩:=I.tuple qb
 refine callType_new F.called_zip (by decide) (F.typeCall_zip_2 _ _) (F.newCall_zip_2 _ _) (fun obj=>F.args_object_init_3 obj _ _) F.entry_zip_new (QeB a b ia.toArray ib.toArray) ⟨show s.heap.IsTuple a ia.toArray from pa,show s.heap.IsTuple b ib.toArray from pb,?_⟩
 have z1:(zt1 s.heap a).objs.size=s.heap.objs.size+1:=Co ..
 have z2:(zt2 s.heap a b).objs.size=s.heap.objs.size+2:=by rw [Co,z1]
 have z3:(zt3 s.heap a b).objs.size=s.heap.objs.size+3:=by rw [Co,z2]
 have z4:(zt4 s.heap a b).objs.size=s.heap.objs.size+4:=by rw [Co,z3]
 have g5:(zt5 s.heap a b).get? (zt4 s.heap a b).objs.size=some _:=Av _ rfl
 have g4:(zt5 s.heap a b).get? (zt3 s.heap a b).objs.size=some _:=Ad _ (Av _ rfl)
 have g3:(zt5 s.heap a b).get? (zt2 s.heap a b).objs.size=some _:=Ad _ (Ad _ (Av _ rfl))
 have g2:(zt5 s.heap a b).get? (zt1 s.heap a).objs.size=some _:=Ad _ (Ad _ (Ad _ (Av _ rfl)))
 have g1:(zt5 s.heap a b).get? s.heap.objs.size=some _:=Ad _ (Ad _ (Ad _ (Ad _ (Av _ rfl))))
 show _/\_
 have kp:∀ c o,s.heap.get? c=some o->(zt5 s.heap a b).get? c=some o:=fun c o e=>Ad _ (Ad _ (Ad _ (Ad _ (Ad _ e))))
 refine ⟨⟨_,g5,rfl⟩,?_⟩
 rw [z2,z3,z4] at g5
 rw [z1,z2] at g3
 rw [z3] at g4
 rw [z1] at g2
 rw [z4]
 have la:a < s.heap.objs.size:=by obtain ⟨o,e,_⟩:=pa;exact Ap e
 have lb:b < s.heap.objs.size:=by obtain ⟨o,e,_⟩:=pb;exact Ap e
 have D:ZA (s.heap.objs.size+4) (s.heap.objs.size+2) (s.heap.objs.size+3) s.heap.objs.size (s.heap.objs.size+1) a b:=by constructor<;>first | exact Bf la | exact Bf lb | exact Bf (Ay la (Nat.le_add_right _ _)) | exact Bf (Ay lb (Nat.le_add_right _ _)) | exact Bf (by lia) | exact C5 (by lia)
 have I1:Inv X O9 σ H { s with heap:=zt5 s.heap a b }:=I.kept (t':=s.toks) kp
 have S:ZU (zt5 s.heap a b) (s.heap.objs.size+4) (s.heap.objs.size+2) (s.heap.objs.size+3) s.heap.objs.size (s.heap.objs.size+1) a b 0:=⟨⟨_,_,g5,.inl rfl⟩,g3,⟨_,_,g4⟩,⟨_,g1,rfl,rfl⟩,⟨_,g2,rfl,rfl⟩⟩
 refine wpAny_pyIter_zip (s:={ s with heap:=zt5 s.heap a b }) g5 ⟨_,[s.heap.objs.size+4,s.heap.objs.size+2,s.heap.objs.size+3,s.heap.objs.size,s.heap.objs.size+1],_,Itz X.K a b,H,rfl,I1,Qa7 D,S,fun c hc=>?_,q⟩
 have hc':s.heap.objs.size<=c:=by
  simp only [Bk,Cf,or_false] at hc
  rcases hc with rfl | rfl | rfl | rfl | rfl<;>first | exact Ae _ | exact Nat.le_add_right _ _
 exact I.fpOk hc' (I.hok.fresh hc')
theorem Qd1 {p pos:Pos} (hg:Gl X "zip") (hm:X.mg "zip" = none) (ha:PA X [x,y] ta) (hs:starEach [x,y] X.env=[(false,eval x X.env),(false,eval y X.env)]:=by rfl) (hs2:starEach [y] X.env=[(false,eval y X.env)]:=by rfl):
    PI X (.Name xn p2) (.Call (.Name "zip" p) [x,y] [] pos) (QgR X.K ta):=by
  intro O9 s σ H R I h
  refine Call_ (Vb I hg hm boot_zip (PyProof.Rows.callWith_type1 (thn (ha pos O9 s σ H _ I h) fun us s1 ⟨vs,H1,I1,r1,q1⟩=>?_) (by rw [hs,hs2]) (by rw [hs2];rfl)))
  obtain ⟨a,b,xs,ys,e,qa,qb,q⟩:=q1
  subst e
  cases r1 with
  | cons r rr =>
    cases rr with
    | cons r' rr =>
      cases rr
      cases r
      cases r'
      exact QeA I1 qa qb q
end
end L2
namespace D
open PySem PySem.Spec PyProof.Rows L2
section
variable {X:Cx} {xn:Str} {p2:Pos} {f g:DEx}
theorem Qdn {p pos:Pos} (hg:Gl X "zip") (hm:X.mg "zip" = none) (hx:DE X x f) (hy:DE X y g) (hs:starEach [x,y] X.env=[(false,eval x X.env),(false,eval y X.env)]:=by rfl) (hs2:starEach [y] X.env=[(false,eval y X.env)]:=by rfl):
  DI X (.Name xn p2) (.Call (.Name "zip" p) [x,y] [] pos) (QbL f g) :=
 L2.PI.imp (Qd1 hg hm (Y3 hx (Y3 hy pa_nil (by rw [hs2];rfl)) (by rw [hs,hs2])) hs hs2) fun σ H R zz1=>by
  obtain ⟨Z,env,ρ,B,U,ds,hp',S,e,k⟩:=zz1
  obtain ⟨d1,hp1,e1,e⟩:=Qe e
  obtain ⟨xs,hp2,e2,e⟩:=Qe e
  obtain ⟨rfl,rfl⟩:=xI e2
  obtain ⟨d2,hp3,e3,e⟩:=Qe e
  obtain ⟨ys,hp4,e4,e⟩:=Qe e
  obtain ⟨rfl,rfl⟩:=xI e4
  obtain ⟨rfl,rfl⟩:=Qi e
  refine tD.run S e1 fun v ρ1 B1 H1 g1 S1 r1=>tD.run S1 e3 fun u ρ2 B2 H2 g2 S2 r2=>?_
  obtain ⟨a,vs,rfl,na,qa,la⟩:=(RepV.grow S1.wo.rb g2 _ _ r1).tupI
  obtain ⟨b,us,rfl,nb,qb,lb⟩:=r2.tupI
  exact ⟨a,b,vs,us,rfl,qa,qb,k _ ρ2 B2 H2 (g1.trans g2) S2.wo (Qfn na qa la nb qb lb)⟩
end
end D
namespace TR
structure Pg where
 lv:Nat
 ks:List Int
 ps:List Int
 hi:Option Int
 sd:Option Nat
structure Sh where
 O2:Nat
 pg:List Pg
 top:Nat
 rd:Int
 wr:Int
inductive Deed where
 | find (k:Int) | put (k w:Int) | cut (k:Int) | stretch (l h:Int)
def Deed.key:Deed->Int
 | .find k=>k
 | .put k _=>k
 | .cut k=>k
 | .stretch l _=>l
structure Wk where
 O0:Deed
 aim:Int
 O4:Nat
 O6:Option Nat
 O3:List (Nat×Nat)
 Oz:Option Nat
 O1:Option Int
 O5:List (Int×Int)
 O7:Bool
inductive Row where
 | non
 | side (n t:Nat)
 | down (n t:Nat)
 | found (n:Nat) (w:Option Int)
 | put (n:Nat) (w:Option Int) (k:Option Nat)
 | cut (n:Nat) (w:Option Int)
 | read (n:Nat) (ps:Em) (t:Option (Nat×Int))
 | told (n:Nat) (k:Option Nat)
 | raised (n t:Nat)
def cLe (ks:List Int) (k:Int):Nat:=(ks.filter fun x=>decide (x<=k)).length
def cLt (ks:List Int) (k:Int):Nat:=(ks.filter fun x=>decide (x < k)).length
def Jh (fs:List (Nat×Nat)) (k:Nat):Option Nat:=(fs.find? fun p=>decide (p.1=k)).map (·.2)
def zS (fs:List (Nat×Nat)) (k v:Nat):List (Nat×Nat):=if (fs.any fun p=>decide (p.1=k))=true then fs.map (fun p=>if p.1=k then (p.1,v) else p) else fs++[(k,v)]
def Zh (p:Pg) (k:Int):Bool:=match p.hi with
 | none=>false
 | some h=>decide (h<=k)
def QR (p:Pg) (k:Int):Option Int:=if cLt p.ks k=cLe p.ks k then none else p.ps[cLt p.ks k]?
def QH (p:Pg) (k w:Int):Pg:={ p with ks:=p.ks.take (cLt p.ks k)++k::p.ks.drop (cLe p.ks k),ps:=p.ps.take (cLt p.ks k)++w::p.ps.drop (cLe p.ks k) }
def without (p:Pg) (k:Int):Pg:={ p with ks:=p.ks.take (cLt p.ks k)++p.ks.drop (cLe p.ks k),ps:=p.ps.take (cLt p.ks k)++p.ps.drop (cLe p.ks k) }
def Q2 (p:Pg) (k:Int) (c:Nat):Pg:={ p with ks:=p.ks.take (cLe p.ks k)++k::p.ks.drop (cLe p.ks k),ps:=p.ps.take (cLe p.ks k+1)++(c:Int)::p.ps.drop (cLe p.ks k+1) }
def mid (p:Pg):Nat:=p.ks.length / 2
def Zj (p:Pg):Nat:=if p.lv=0 then mid p else mid p+1
def JJ (p:Pg):Int:=p.ks.getD (mid p) 0
def QS (p:Pg) (n:Nat):Pg:=⟨p.lv,p.ks.take (mid p),p.ps.take (Zj p),some (JJ p),some n⟩
def QC (p:Pg):Pg:=⟨p.lv,p.ks.drop (Zj p),p.ps.drop (Zj p),p.hi,p.sd⟩
def Qs (S:Sh) (w:Wk) (n:Nat) (p:Pg):Option Nat×Sh×Wk :=
 if p.ks.length<=S.O2 then (none,{ S with pg:=S.pg.set n p,wr:=S.wr+1 },{ w with O7:=true })
 else (some S.pg.length,{ S with pg:=(S.pg++[QC p]).set n (QS p S.pg.length),wr:=S.wr+1+1 },{ w with Oz:=some S.pg.length,aim:=JJ p,O4:=p.lv+1,O6:=Jh w.O3 (p.lv+1) })
def QT (p:Pg) (l h:Int):List (Int×Int):=(p.ks.zip p.ps).filter fun q=>decide (l<=q.1)&&decide (q.1 < h)
def ZO (S:Sh) (w:Wk) (n:Nat) (p:Pg):Row×Sh×Wk:=match w.O0 with
  | .find _=>(.found n (QR p w.aim),S,{ w with O1:=QR p w.aim,O7:=true })
  | .put _ x=>match Qs S { w with O1:=QR p w.aim } n (QH p w.aim x) with
    | (r,S2,w2)=>(.put n (QR p w.aim) r,S2,w2)
  | .cut _=>(.cut n (QR p w.aim),if (QR p w.aim).isSome=true then { S with pg:=S.pg.set n (without p w.aim),wr:=S.wr+1 } else S,{ w with O1:=QR p w.aim,O7:=true })
  | .stretch l h=>match p.hi,p.sd with
    | some x,some s=>if h<=x then (.read n (QT p l h) none,S,{ w with O5:=w.O5++QT p l h,O7:=true })
        else (.read n (QT p l h) (some (s,x)),S,{ w with O5:=w.O5++QT p l h,aim:=x,O6:=some s })
    | _,_=>(.read n (QT p l h) none,S,{ w with O5:=w.O5++QT p l h,O7:=true })
def Jg (S:Sh) (w:Wk):Option (Row×Sh×Wk) :=
  if w.O7=true then some (.non,S,w) else
  match S.pg[w.O6.getD S.top]? with
  | none=>none
  | some p =>
    if w.O6=none/\p.lv < w.O4 then
      match w.Oz with
      | none=>none
      | some k=>some (.raised S.top S.pg.length,{ S with rd:=S.rd+1,pg:=S.pg++[⟨p.lv+1,[w.aim],[(S.top:Int),(k:Int)],none,none⟩],top:=S.pg.length,wr:=S.wr+1 },{ w with O7:=true })
    else if Zh p w.aim=true then
      match p.sd with
      | none=>none
      | some s=>some (.side (w.O6.getD S.top) s,{ S with rd:=S.rd+1 },{ w with O6:=some s })
    else if w.O4 < p.lv then
      match p.ps[cLe p.ks w.aim]? with
      | none=>none
      | some c=>some (.down (w.O6.getD S.top) c.toNat,{ S with rd:=S.rd+1 },{ w with O3:=zS w.O3 p.lv (w.O6.getD S.top),O6:=some c.toNat })
    else if 0 < w.O4 then
      match w.Oz with
      | none=>none
      | some k=>match Qs { S with rd:=S.rd+1 } w (w.O6.getD S.top) (Q2 p w.aim k) with
        | (r,S2,w2)=>some (.told (w.O6.getD S.top) r,S2,w2)
    else some (ZO { S with rd:=S.rd+1 } w (w.O6.getD S.top) p)
theorem Yp {ks:List Int} (h:ks.Pairwise (· < ·)) (k:Int):ks.take (cLe ks k)=ks.filter (fun x=>decide (x<=k))/\ks.drop (cLe ks k)=ks.filter (fun x=>decide (k < x)):=by
  unfold cLe
  induction ks with
  | nil=>simp
  | cons x xs ih =>
    obtain ⟨h1,h2⟩:=Cp.mp h
    by_cases q:x<=k
    . obtain ⟨i1,i2⟩:=ih h2
      have q':¬ k < x:=by lia
      simp [As,q,q',i1,i2]
    . have e:xs.filter (fun y=>decide (y<=k))=[]:=by
        rw [List.filter_eq_nil_iff]
        intro y hy;have:=h1 y hy;simp;lia
      have e2:xs.filter (fun y=>decide (k < y))=xs:=by
        rw [Ct]
        intro y hy;have:=h1 y hy;simp;lia
      have q':k < x:=by lia
      simp [As,q,q',e,e2]
theorem Y8 {ks:List Int} (h:ks.Pairwise (· < ·)) (k:Int):ks.take (cLt ks k)=ks.filter (fun x=>decide (x < k))/\ks.drop (cLt ks k)=ks.filter (fun x=>decide (k<=x)):=by
  unfold cLt
  induction ks with
  | nil=>simp
  | cons x xs ih =>
    obtain ⟨h1,h2⟩:=Cp.mp h
    by_cases q:x < k
    . obtain ⟨i1,i2⟩:=ih h2
      have q':¬ k<=x:=by lia
      simp [As,q,q',i1,i2]
    . have e:xs.filter (fun y=>decide (y < k))=[]:=by
        rw [List.filter_eq_nil_iff]
        intro y hy;have:=h1 y hy;simp;lia
      have e2:xs.filter (fun y=>decide (k<=y))=xs:=by
        rw [Ct]
        intro y hy;have:=h1 y hy;simp;lia
      have q':k<=x:=by lia
      simp [As,q,q',e,e2]
def Jz (ks:List Int) (k:Int):cLe ks k<=ks.length:=Cb _ _
def j7 (ks:List Int) (k:Int):cLt ks k<=ks.length:=Cb _ _
theorem Kf (ks:List Int) (k:Int):cLt ks k<=cLe ks k:=by
  unfold cLt cLe
  induction ks with
  | nil=>simp
  | cons x xs ih =>
    by_cases q:x < k
    . have:x<=k:=by lia
      simp [As,q,this,ih]
    . by_cases q2:x<=k
      . simp [As,q,q2];lia
      . simp [As,q,q2,ih]
theorem Qbl {ks:List Int} (h:ks.Pairwise (· < ·)) (k:Int):cLe ks k<=cLt ks k+1:=by
  unfold cLt cLe
  induction ks with
  | nil=>simp
  | cons x xs ih =>
    obtain ⟨h1,h2⟩:=Cp.mp h
    by_cases q:x < k
    . have:x<=k:=by lia
      have:=ih h2
      simp [As,q, *]
    . have e:xs.filter (fun y=>decide (y<=k))=[]:=by
        rw [List.filter_eq_nil_iff]
        intro y hy;have:=h1 y hy;simp;lia
      by_cases q2:x<=k<;>simp [As,q,q2,e]
theorem yX {ks:List Int} (h:ks.Pairwise (· < ·)) (k:Int):(ks.take (cLt ks k)++k::ks.drop (cLe ks k)).Pairwise (· < ·):=by
 rw [(Y8 h k).1,(Yp h k).2]
 rw [Bv]
 refine ⟨h.filter _,Cp.mpr ⟨fun y hy=>?_,h.filter _⟩,fun x hx y hy=>?_⟩
 ·simpa using (Bm.mp hy).2
 ·have h1:x < k:=by simpa using (Bm.mp hx).2
  rcases Bk.mp hy with rfl | hy
  ·exact h1
  ·have h2:k < y:=by simpa using (Bm.mp hy).2
   lia
theorem jx {ks:List Int} (h:ks.Pairwise (· < ·)) {k x:Int} (hx:x∈ks.take (cLt ks k)++k::ks.drop (cLe ks k)):x=k∨x∈ks:=by
 rcases Ai.mp hx with hx | hx
 ·exact .inr (Bx hx)
 ·rcases Bk.mp hx with rfl | hx
  ·exact .inl rfl
  ·exact .inr (Cd hx)
theorem v7 {ks:List Int} (h:ks.Pairwise (· < ·)) (k:Int):(ks.take (cLt ks k)++ks.drop (cLe ks k)).Pairwise (· < ·):=by
 rw [(Y8 h k).1,(Yp h k).2]
 rw [Bv]
 refine ⟨h.filter _,h.filter _,fun x hx y hy=>?_⟩
 have h1:x < k:=by simpa using (Bm.mp hx).2
 have h2:k < y:=by simpa using (Bm.mp hy).2
 lia
theorem gD {ks:List Int} {k x:Int} (hx:x∈ks.take (cLt ks k)++ks.drop (cLe ks k)):x∈ks:=by
 rcases Ai.mp hx with hx | hx
 ·exact Bx hx
 ·exact Cd hx
theorem Qbm {ks:List Int} (h:k∉ks):cLt ks k=cLe ks k:=by
 unfold cLt cLe
 congr 1
 apply List.filter_congr
 intro x hx
 have:x≠k:=fun e=>h (e▸hx)
 by_cases q:x < k
 ·have:x<=k:=by lia
  simp [q,this]
 ·have:¬ x<=k:=by lia
  simp [q,this]
theorem qE (fs:List (Nat×Nat)) (k v j:Nat):Jh (zS fs k v) j=if j=k then some v else Jh fs j:=by
  unfold zS Jh
  by_cases h:(fs.any fun p=>decide (p.1=k))=true
  . rw [C9 h]
    induction fs with
    | nil=>simp at h
    | cons p fs ih =>
      simp only [Bb,B8]
      by_cases q:p.1=k
      . by_cases e:j=k
        . subst e;simp [q]
        . have:¬ k=j:=fun z=>e z.symm
          simp only [q,if_true,this,decide_false]
          by_cases h2:(fs.any fun p=>decide (p.1=k))=true
          . have:=ih h2;simpa [e] using this
          . have hid:fs.map (fun p=>if p.1=k then (p.1,v) else p)=fs:=by
              conv=>rhs;rw [<- List.map_id fs]
              apply List.map_congr_left
              intro x hx
              have:¬ x.1=k:=fun z=>h2 (by rw [List.any_eq_true];exact ⟨x,hx,by simpa using z⟩)
              simp [this]
            rw [hid,C8 e]
      . have h2:(fs.any fun p=>decide (p.1=k))=true:=by simpa [Cs,q] using h
        have:=ih h2
        simp only [q,if_false]
        by_cases e:p.1=j
        . have:¬ j=k:=fun z=>q (e.trans z)
          simp [e,this]
        . simpa [e] using this
  . rw [C8 h,List.find?_append]
    have hn:∀ p∈fs,¬ p.1=k:=fun p U z=>h (by rw [List.any_eq_true];exact ⟨p,U,by simpa using z⟩)
    by_cases e:j=k
    . subst e
      have:fs.find? (fun p=>decide (p.1=j))=none:=by
        rw [List.find?_eq_none];intro p U;simpa using hn p U
      simp [this]
    . have:¬ k=j:=fun z=>e z.symm
      simp [this,e]
abbrev Bg:=Nat->Option Int
def leB (b:Option Int) (x:Int):Prop:=∀ v,b=some v->v<=x
def ltB (b:Option Int) (x:Int):Prop:=∀ v,b=some v->v < x
def ltH (x:Int) (h:Option Int):Prop:=∀ v,h=some v->x < v
def leBB (b c:Option Int):Prop:=∀ v,b=some v->∃ u,c=some u/\v<=u
def leBB.refl (b:Option Int):leBB b b:=fun v h=>⟨v,h,Bo _⟩
theorem leBB.trans {a b c:Option Int} (h:leBB a b) (g:leBB b c):leBB a c:=fun v e=>by
 obtain ⟨u,e1,l1⟩:=h v e
 obtain ⟨x,e2,l2⟩:=g u e1
 exact ⟨x,e2,by lia⟩
theorem leBB.leB {a b:Option Int} {x:Int} (h:leBB a b) (g:leB b x):leB a x:=fun v e=>by
 obtain ⟨u,e1,l1⟩:=h v e
 have:=g u e1;lia
def Z8 (b:Option Int) (ks:List Int):Nat->Option Int
 | 0=>b
 | j+1=>ks[j]?
structure Jv (O2:Nat) (b:Option Int) (p:Pg):Prop where
 sorted:p.ks.Pairwise (· < ·)
 few:p.ks.length<=O2
 parts:p.ps.length=p.ks.length+(if p.lv=0 then 0 else 1)
 low:∀ k∈p.ks,leB b k
 lowF:0 < p.lv->∀ k∈p.ks,ltB b k
 high:∀ k∈p.ks,ltH k p.hi
 wide:∀ h,p.hi=some h->ltB b h
structure Tree (S:Sh) (bg:Bg):Prop where
 room2:2<=S.O2
 root:∃ r:Pg,S.pg[S.top]?=some r/\∀ (n:Nat) (p:Pg),S.pg[n]?=some p->p.lv<=r.lv
 rbg:bg S.top=none
 page:∀ (n:Nat) (p:Pg),S.pg[n]?=some p->Jv S.O2 (bg n) p
 link:∀ (n:Nat) (p:Pg),S.pg[n]?=some p->(p.hi=none/\p.sd=none)∨∃ (h:Int) (s:Nat) (q:Pg),p.hi=some h/\p.sd=some s/\S.pg[s]?=some q/\q.lv=p.lv/\bg s=some h
 kid:∀ (n:Nat) (p:Pg),S.pg[n]?=some p->0 < p.lv->∀ j k,p.ps[j]?=some k->∃ (c:Nat) (q:Pg),k=(c:Int)/\S.pg[c]?=some q/\q.lv+1=p.lv/\bg c=Z8 (bg n) p.ks j
 dis:∀ (n m:Nat) (p q:Pg),S.pg[n]?=some p->S.pg[m]?=some q->p.lv=q.lv->n≠m->(∃ h v,p.hi=some h/\bg m=some v/\h<=v)∨(∃ h v,q.hi=some h/\bg n=some v/\h<=v)
 pred:∀ (n:Nat) (p:Pg),S.pg[n]?=some p->∀ v,bg n=some v->∃ (m:Nat) (q:Pg),S.pg[m]?=some q/\q.lv=p.lv/\q.hi=some v
theorem Tree.uniq {S:Sh} {bg:Bg} (T:Tree S bg) {n m:Nat} {p q:Pg} (hn:S.pg[n]?=some p) (hm:S.pg[m]?=some q) (hl:p.lv=q.lv) (hb:bg n=bg m):n=m:=by
 rcases Nat.decEq n m with h | h
 ·exfalso
  rcases T.dis n m p q hn hm hl h with ⟨x,v,h1,h2,h3⟩ | ⟨x,v,h1,h2,h3⟩
  ·have:=(T.page n p hn).wide x h1 v (hb.trans h2);lia
  ·have:=(T.page m q hm).wide x h1 v (hb.symm.trans h2);lia
 ·exact h
structure Grow (S:Sh) (bg:Bg) (S':Sh) (bg':Bg):Prop where
 old:∀ (n:Nat) (p:Pg),S.pg[n]?=some p->bg' n=bg n/\∃ p':Pg,S'.pg[n]?=some p'/\p'.lv=p.lv
def Grow.refl:Grow S bg S bg:=⟨fun n p h=>⟨rfl,p,h,rfl⟩⟩
theorem Grow.trans (a:Grow S bg S' bg') (b:Grow S' bg' S'' bg''):Grow S bg S'' bg'':=⟨fun n p h=>by
 obtain ⟨e1,p1,h1,l1⟩:=a.old n p h
 obtain ⟨e2,p2,h2,l2⟩:=b.old n p1 h1
 exact ⟨e2.trans e1,p2,h2,l2.trans l1⟩⟩
def Untold (S:Sh) (k:Nat):Prop:=∀ (n:Nat) (p:Pg),S.pg[n]?=some p->0 < p.lv->(k:Int)∉p.ps
structure WOk (S:Sh) (bg:Bg) (w:Wk):Prop where
 at_:∀ n:Nat,w.O6=some n->∃ p:Pg,S.pg[n]?=some p/\w.O4<=p.lv/\leB (bg n) w.aim
 none_:w.O6=none->∀ l f,Jh w.O3 l=some f->l < w.O4
 kept:∀ l f,Jh w.O3 l=some f->∃ p:Pg,S.pg[f]?=some p/\p.lv=l
 above:∀ (n:Nat) (p:Pg),w.O6=some n->S.pg[n]?=some p->∀ l f,Jh w.O3 l=some f->p.lv < l->leBB (bg f) (bg n)
 chain:∀ l f l' f',Jh w.O3 l=some f->Jh w.O3 l'=some f'->w.O4<=l->l < l'->leBB (bg f') (bg f)
 gap:∀ (n:Nat) (p:Pg),w.O6=some n->S.pg[n]?=some p->w.O4 < p.lv->∀ l f,Jh w.O3 l=some f->l < w.O4∨p.lv < l
 full:∀ (n:Nat) (p:Pg),w.O6=some n->S.pg[n]?=some p->∀ l' f',Jh w.O3 l'=some f'->∀ l,p.lv < l->l<=l'->∃ f,Jh w.O3 l=some f
 tell:0 < w.O4->∃ (k:Nat) (q:Pg),w.Oz=some k/\S.pg[k]?=some q/\q.lv+1=w.O4/\bg k=some w.aim
theorem WOk.grow {w:Wk} (W:WOk S bg w) (g:Grow S bg S' bg'):WOk S' bg' w where
 at_:=fun n h=>by
  obtain ⟨p,h1,h2,h3⟩:=W.at_ n h
  obtain ⟨e,p',h4,h5⟩:=g.old n p h1
  exact ⟨p',h4,by lia,by rw [e];exact h3⟩
 none_:=W.none_
 kept:=fun l f h=>by
  obtain ⟨p,h1,h2⟩:=W.kept l f h
  obtain ⟨e,p',h4,h5⟩:=g.old f p h1
  exact ⟨p',h4,by lia⟩
 above:=fun n p' U hn l f hf hl=>by
  obtain ⟨p,h1,_⟩:=W.at_ n U
  obtain ⟨e,p2,h4,h5⟩:=g.old n p h1
  rw [h4] at hn;cases hn
  obtain ⟨pf,h6,_⟩:=W.kept l f hf
  rw [e,(g.old f pf h6).1]
  exact W.above n p U h1 l f hf (by lia)
 chain:=fun l f l' f' h h' a b=>by
  obtain ⟨p,h1,_⟩:=W.kept l f h
  obtain ⟨p',h1',_⟩:=W.kept l' f' h'
  rw [(g.old f p h1).1,(g.old f' p' h1').1]
  exact W.chain l f l' f' h h' a b
 gap:=fun n p' U hn a l f hf=>by
  obtain ⟨p,h1,_⟩:=W.at_ n U
  obtain ⟨e,p2,h4,h5⟩:=g.old n p h1
  rw [h4] at hn;cases hn
  rw [h5]
  exact W.gap n p U h1 (by lia) l f hf
 full:=fun n p' U hn l' f' hf l a b=>by
  obtain ⟨p,h1,_⟩:=W.at_ n U
  obtain ⟨e,p2,h4,h5⟩:=g.old n p h1
  rw [h4] at hn;cases hn
  exact W.full n p U h1 l' f' hf l (by lia) b
 tell:=fun h=>by
  obtain ⟨k,q,h1,h2,h3,h4⟩:=W.tell h
  obtain ⟨e,p',h5,h6⟩:=g.old k q h2
  exact ⟨k,p',h1,h5,by lia,by rw [e];exact h4⟩
theorem WOk.fresh {w:Wk} (h1:w.O6=none) (h2:w.O3=[]) (h3:w.O4=0):WOk S bg w where
 at_:=fun n h=>by rw [h1] at h;cases h
 none_:=fun _ l f h=>by rw [h2] at h;cases h
 kept:=fun l f h=>by rw [h2] at h;cases h
 above:=fun n p h=>by rw [h1] at h;cases h
 chain:=fun l f l' f' h=>by rw [h2] at h;cases h
 gap:=fun n p h=>by rw [h1] at h;cases h
 full:=fun n p h=>by rw [h1] at h;cases h
 tell:=fun h=>by lia
theorem Jy {α:Type} {xs:List α} {n m:Nat} {x y:α} (h:(xs.set n x)[m]?=some y):(m=n/\y=x/\n < xs.length)∨(m≠n/\xs[m]?=some y):=by
 by_cases e:m=n
 ·subst e
  by_cases hl:m < xs.length
  ·rw [Au hl] at h;cases h;exact .inl ⟨rfl,rfl,hl⟩
  ·rw [List.getElem?_eq_none (by simpa using hl)] at h;cases h
 ·rw [Am (Ne.symm e)] at h;exact .inr ⟨e,h⟩
theorem kM {α:Type} {xs:List α} {n m:Nat} {x y:α} (h:xs[m]?=some y):(xs.set n x)[m]?=some (if m=n then x else y):=by
 have hl:=(Ac.mp h).1
 by_cases e:m=n
 ·subst e;rw [Au hl,C9 rfl]
 ·rw [Am (Ne.symm e),h,C8 e]
theorem Tree.write {S:Sh} {bg:Bg} (T:Tree S bg) {n:Nat} {p p':Pg} {x y:Int} (hn:S.pg[n]?=some p) (hl:p'.lv=p.lv) (hh:p'.hi=p.hi) (hs:p'.sd=p.sd) (ok:Jv S.O2 (bg n) p')
  (hk:0 < p.lv->∀ j k,p'.ps[j]?=some k->∃ (c:Nat) (q:Pg),k=(c:Int)/\S.pg[c]?=some q/\q.lv+1=p.lv/\bg c=Z8 (bg n) p'.ks j) :
  Tree { S with pg:=S.pg.set n p',rd:=x,wr:=y } bg/\Grow S bg { S with pg:=S.pg.set n p',rd:=x,wr:=y } bg:=by
 have old:∀ (m:Nat) (q:Pg),S.pg[m]?=some q->∃ q':Pg,(S.pg.set n p')[m]?=some q'/\q'.lv=q.lv/\q'.hi=q.hi/\q'.sd=q.sd:=fun m q h=>by
  refine ⟨_,kM h,?_⟩
  by_cases e:m=n
  ·subst e;rw [hn] at h;cases h;simp [hl,hh,hs]
  ·simp [e]
 have new:∀ (m:Nat) (q':Pg),(S.pg.set n p')[m]?=some q'->∃ q:Pg,S.pg[m]?=some q/\q'.lv=q.lv/\q'.hi=q.hi/\q'.sd=q.sd:=fun m q' h=>by
  rcases Jy h with ⟨rfl,rfl,_⟩ | ⟨_,h⟩
  ·exact ⟨p,hn,hl,hh,hs⟩
  ·exact ⟨q',h,rfl,rfl,rfl⟩
 refine ⟨⟨T.room2,?_,T.rbg,fun m q h=>?_,fun m q h=>?_,fun m q h h0 j k hj=>?_,fun a b q r ha hb hab e=>?_,fun m q h v hv=>?_⟩,⟨fun m q h=>⟨rfl,by obtain ⟨q',h1,h2,_⟩:=old m q h;exact ⟨q',h1,h2⟩⟩⟩⟩
 ·obtain ⟨r,h1,h2⟩:=T.root
  obtain ⟨r',h3,h4,_⟩:=old _ _ h1
  exact ⟨r',h3,fun m q h=>by obtain ⟨q0,h5,h6,_⟩:=new m q h;rw [h6,h4];exact h2 m q0 h5⟩
 ·rcases Jy h with ⟨rfl,rfl,_⟩ | ⟨_,h⟩
  ·exact ok
  ·exact T.page m q h
 ·obtain ⟨q0,h1,h2,h3,h4⟩:=new m q h
  rcases T.link m q0 h1 with ⟨a,b⟩ | ⟨x,s,r,a,b,c,d,e⟩
  ·exact .inl ⟨h3.trans a,h4.trans b⟩
  ·obtain ⟨r',c1,c2,_⟩:=old s r c
   exact .inr ⟨x,s,r',h3.trans a,h4.trans b,c1,by rw [c2,d,h2],e⟩
 ·rcases Jy h with ⟨rfl,rfl,_⟩ | ⟨_,h⟩
  ·obtain ⟨c,r,h1,h2,h3,h4⟩:=hk (by lia) j k hj
   obtain ⟨r',c1,c2,_⟩:=old c r h2
   exact ⟨c,r',h1,c1,by lia,h4⟩
  ·obtain ⟨c,r,h1,h2,h3,h4⟩:=T.kid m q h h0 j k hj
   obtain ⟨r',c1,c2,_⟩:=old c r h2
   exact ⟨c,r',h1,c1,by lia,h4⟩
 ·obtain ⟨q0,h1,h2,h3,_⟩:=new a q ha
  obtain ⟨r0,h5,h6,h7,_⟩:=new b r hb
  rw [h3,h7]
  exact T.dis a b q0 r0 h1 h5 (by lia) e
 ·obtain ⟨q0,h1,h2,_⟩:=new m q h
  obtain ⟨a,r,h3,h4,h5⟩:=T.pred m q0 h1 v hv
  obtain ⟨r',c1,c2,c3,_⟩:=old a r h3
  exact ⟨a,r',c1,by lia,c3.trans h5⟩
theorem Jd {α:Type} {xs:List α} {x:α} {m:Nat} {y:α} (h:(xs++[x])[m]?=some y):(m=xs.length/\y=x)∨xs[m]?=some y:=by
 rcases Bh m xs.length with q | q
 ·rw [Ah q] at h;exact .inr h
 ·rw [Aq q] at h
  by_cases e:m - xs.length=0
  ·rw [e] at h;simp at h;exact .inl ⟨by lia,h.symm⟩
  ·rw [List.getElem?_eq_none (by simp;lia)] at h;cases h
theorem JD {α:Type} {xs:List α} {x:α} {m:Nat} {y:α} (h:xs[m]?=some y):(xs++[x])[m]?=some y:=by
 rw [Ah (Ac.mp h).1];exact h
def Zi {α:Type} {xs:List α} {m:Nat} {y:α} (h:xs[m]?=some y):m < xs.length:=(Ac.mp h).1
def XQ (bg:Bg) (l:Nat) (k:Option Int):Bg:=fun i=>if i=l then k else bg i
theorem Ur {bg:Bg} {l:Nat} {k:Option Int} {i:Nat} (h:i < l):XQ bg l k i=bg i:=by unfold XQ;rw [C8 (by lia)]
theorem Z4 {l:Nat} {k:Option Int}:XQ bg l k l=k:=by unfold XQ;rw [C9 rfl]
section
variable {S:Sh} {bg:Bg} {n:Nat} {p P:Pg}
theorem Yh (h3:1<=P.ks.length):P.ks[mid P]?=some (JJ P):=by
 have:mid P < P.ks.length:=by unfold mid;lia
 unfold JJ
 rw [List.getD_eq_getElem?_getD,Ab this];rfl
theorem Ya {ks:List Int} (h:ks.Pairwise (· < ·)) {i j:Nat} {x y:Int} (hi:ks[i]?=some x) (hj:ks[j]?=some y) (hij:i < j):x < y:=by
 obtain ⟨a,rfl⟩:=Ac.mp hi
 obtain ⟨b,rfl⟩:=Ac.mp hj
 exact List.pairwise_iff_getElem.mp h i j a b hij
theorem Kz (ok:Jv P.ks.length (bg n) P) (h3:3<=P.ks.length):ltB (bg n) (JJ P):=by
 intro v hv
 have h0:P.ks[0]?=some (P.ks[0]'(by lia)):=Ab _
 have a:=ok.low _ (B9 (by lia:0 < P.ks.length)) v hv
 have b:=Ya ok.sorted h0 (Yh (P:=P) (by lia)) (by unfold mid;lia)
 lia
theorem QfH (ok:Jv P.ks.length (bg n) P) (h3:3<=P.ks.length) (hr:P.ks.length<=S.O2+1) (l:Nat):Jv S.O2 (bg n) (QS P l) where
 sorted:=ok.sorted.sublist (List.take_sublist _ _)
 few:=by show (P.ks.take (mid P)).length<=_;rw [A9];unfold mid;lia
 parts:=by
  show (P.ps.take (Zj P)).length=(P.ks.take (mid P)).length+(if P.lv=0 then 0 else 1)
  have:=ok.parts
  rw [A9,A9]
  unfold Zj mid
  split at this<;>split<;>simp_all<;>lia
 low:=fun k hk=>ok.low k (Bx hk)
 lowF:=fun h k hk=>ok.lowF h k (Bx hk)
 high:=fun k hk v hv=>by
  cases hv
  obtain ⟨i,hi,e⟩:=Cr.mp hk
  simp only [QS,Cy] at e
  have hi':i < mid P:=by have:=hi;rw [show (QS P l).ks=P.ks.take (mid P) from rfl,A9] at this;lia
  exact Ya ok.sorted (i:=i) (by rw [<- e];exact Ab _) (Yh (P:=P) (by lia)) hi'
 wide:=fun h hh=>by cases hh;exact Kz ok h3
theorem QfF (ok:Jv P.ks.length (bg n) P) (h3:3<=P.ks.length) (hr:P.ks.length<=S.O2+1):Jv S.O2 (some (JJ P)) (QC P) where
 sorted:=ok.sorted.sublist (List.drop_sublist _ _)
 few:=by show (P.ks.drop (Zj P)).length<=_;rw [Bq];unfold Zj mid;split<;>lia
 parts:=by
  show (P.ps.drop (Zj P)).length=(P.ks.drop (Zj P)).length+(if P.lv=0 then 0 else 1)
  have:=ok.parts
  rw [Bq,Bq]
  unfold Zj mid
  split at this<;>split<;>simp_all<;>lia
 low:=fun k hk v hv=>by
  cases hv
  obtain ⟨i,hi,e⟩:=Cr.mp hk
  rw [show (QC P).ks=P.ks.drop (Zj P) from rfl] at hi
  have hi2:Zj P+i < P.ks.length:=by rw [Bq] at hi;lia
  have e':P.ks[Zj P+i]?=some k:=by rw [<- e];rw [Ab hi2];simp [QC]
  rcases Bh (mid P) (Zj P+i) with q | q
  ·exact Ck (Ya ok.sorted (Yh (P:=P) (by lia)) e' q)
  ·have:mid P=Zj P+i:=by unfold Zj at q ⊢;split<;>simp_all<;>lia
   rw [<- this,Yh (P:=P) (by lia)] at e';cases e';lia
 lowF:=fun h k hk v hv=>by
  cases hv
  obtain ⟨i,hi,e⟩:=Cr.mp hk
  rw [show (QC P).ks=P.ks.drop (Zj P) from rfl] at hi
  have hi2:Zj P+i < P.ks.length:=by rw [Bq] at hi;lia
  have e':P.ks[Zj P+i]?=some k:=by rw [<- e];rw [Ab hi2];simp [QC]
  have h':0 < P.lv:=h
  exact Ya ok.sorted (Yh (P:=P) (by lia)) e' (by unfold Zj;rw [C8 (by lia)];lia)
 high:=fun k hk=>ok.high k (Cd hk)
 wide:=fun h hh v hv=>by
  cases hv
  exact ok.high _ (Aw (Yh (P:=P) (by lia))) h hh
theorem Tree.split (T:Tree S bg) {x y:Int} (hn:S.pg[n]?=some p) (hl:P.lv=p.lv) (hh:P.hi=p.hi) (hs:P.sd=p.sd) (ok:Jv P.ks.length (bg n) P) (h1:S.O2 < P.ks.length) (h2:P.ks.length<=S.O2+1)
  (hk:0 < p.lv->∀ j k,P.ps[j]?=some k->∃ (c:Nat) (q:Pg),k=(c:Int)/\S.pg[c]?=some q/\q.lv+1=p.lv/\bg c=Z8 (bg n) P.ks j) :
  Tree { S with pg:=(S.pg++[QC P]).set n (QS P S.pg.length),rd:=x,wr:=y } (XQ bg S.pg.length (some (JJ P)))/\Grow S bg { S with pg:=(S.pg++[QC P]).set n (QS P S.pg.length),rd:=x,wr:=y } (XQ bg S.pg.length (some (JJ P))):=by
 have r2:=T.room2
 have h3:3<=P.ks.length:=by lia
 have hnl:=Zi hn
 have kg:=Yh (P:=P) (by lia)
 have kl:=Kz ok h3
 have kh:∀ h,p.hi=some h->JJ P < h:=fun h e=>ok.high _ (Aw kg) h (hh.trans e)
 have bo:∀ m q,S.pg[m]?=some q->XQ bg S.pg.length (some (JJ P)) m=bg m:=fun m q h=>Ur (Zi h)
 have old:∀ (m:Nat) (q:Pg),S.pg[m]?=some q->∃ q':Pg,((S.pg++[QC P]).set n (QS P S.pg.length))[m]?=some q'/\q'.lv=q.lv/\(m≠n->q'=q)/\(m=n->q'=QS P S.pg.length):=fun m q h=>by
  refine ⟨_,kM (JD h),?_,fun e=>by rw [C8 e],fun e=>by rw [C9 e]⟩
  by_cases e:m=n
  ·subst e;rw [hn] at h;cases h;rw [C9 rfl];exact hl
  ·rw [C8 e]
 have gl:((S.pg++[QC P]).set n (QS P S.pg.length))[S.pg.length]?=some (QC P):=by
  rw [Am (by lia),Aq (Ae _)];simp
 have gn:((S.pg++[QC P]).set n (QS P S.pg.length))[n]?=some (QS P S.pg.length):=by
  rw [Au (by simp;lia)]
 have new:∀ (m:Nat) (q:Pg),((S.pg++[QC P]).set n (QS P S.pg.length))[m]?=some q->(m=n/\q=QS P S.pg.length)∨(m=S.pg.length/\q=QC P)∨(m≠n/\S.pg[m]?=some q):=fun m q h=>by
  rcases Jy h with ⟨a,b,_⟩ | ⟨a,b⟩
  ·exact .inl ⟨a,b⟩
  ·rcases Jd b with c | c
   ·exact .inr (.inl c)
   ·exact .inr (.inr ⟨a,c⟩)
 have olv:(QS P S.pg.length).lv=p.lv:=hl
 have nlv:(QC P).lv=p.lv:=hl
 refine ⟨⟨r2,?_,?_,fun m q h=>?_,fun m q h=>?_,fun m q h h0 j k hj=>?_,fun a b q r ha hb hab e=>?_,fun m q h v hv=>?_⟩,⟨fun m q h=>⟨bo m q h,by obtain ⟨q',a,b,_⟩:=old m q h;exact ⟨q',a,b⟩⟩⟩⟩
 ·obtain ⟨r,a,b⟩:=T.root
  obtain ⟨r',c,d,_⟩:=old _ _ a
  refine ⟨r',c,fun m q h=>?_⟩
  rcases new m q h with ⟨_,rfl⟩ | ⟨_,rfl⟩ | ⟨_,h⟩
  ·rw [olv,d];exact b n p hn
  ·rw [nlv,d];exact b n p hn
  ·rw [d];exact b m q h
 ·obtain ⟨r,a,_⟩:=T.root
  rw [show XQ bg S.pg.length (some (JJ P)) S.top=bg S.top from bo _ _ a];exact T.rbg
 ·rcases new m q h with ⟨rfl,rfl⟩ | ⟨rfl,rfl⟩ | ⟨_,h⟩
  ·rw [bo _ _ hn];exact QfH ok h3 h2 _
  ·rw [Z4];exact QfF ok h3 h2
  ·rw [bo _ _ h];exact T.page m q h
 ·rcases new m q h with ⟨rfl,rfl⟩ | ⟨rfl,rfl⟩ | ⟨_,h⟩
  ·exact .inr ⟨JJ P,S.pg.length,QC P,rfl,rfl,gl,rfl,Z4⟩
  ·rcases T.link n p hn with ⟨a,b⟩ | ⟨z,s,r,a,b,c,d,e⟩
   ·exact .inl ⟨hh.trans a,hs.trans b⟩
   ·obtain ⟨r',c1,c2,_⟩:=old s r c
    exact .inr ⟨z,s,r',hh.trans a,hs.trans b,c1,by rw [c2,d,nlv],by rw [bo _ _ c];exact e⟩
  ·rcases T.link m q h with ⟨a,b⟩ | ⟨z,s,r,a,b,c,d,e⟩
   ·exact .inl ⟨a,b⟩
   ·obtain ⟨r',c1,c2,_⟩:=old s r c
    exact .inr ⟨z,s,r',a,b,c1,by rw [c2,d],by rw [bo _ _ c];exact e⟩
 ·have lift:∀ {b0:Option Int} {ks0:List Int} {j0:Nat} {b1:Option Int} {ks1:List Int} {l1:Nat},Z8 b0 ks0 j0=Z8 b1 ks1 j->l1=p.lv->(∃ (c:Nat) (q:Pg),k=(c:Int)/\S.pg[c]?=some q/\q.lv+1=p.lv/\bg c=Z8 b0 ks0 j0)->∃ (c:Nat) (q:Pg),k=(c:Int)/\((S.pg++[QC P]).set n (QS P S.pg.length))[c]?=some q/\q.lv+1=l1/\XQ bg S.pg.length (some (JJ P)) c=Z8 b1 ks1 j:=fun {b0 ks0 j0 b1 ks1 l1} e el zz1=>by
   obtain ⟨c,q,a1,a2,a3,a4⟩:=zz1
   obtain ⟨q',c1,c2,_⟩:=old c q a2
   exact ⟨c,q',a1,c1,by lia,by rw [bo _ _ a2,a4,e]⟩
  rcases new m q h with ⟨rfl,rfl⟩ | ⟨rfl,rfl⟩ | ⟨_,h⟩
  ·rw [olv] at h0
   have hc:Zj P=mid P+1:=by unfold Zj;rw [C8 (by lia)]
   have hjl:j < mid P+1:=by
    have:=Zi hj
    rw [show (QS P S.pg.length).ps=P.ps.take (Zj P) from rfl,A9,hc] at this;lia
   have hj':P.ps[j]?=some k:=by
    rw [show (QS P S.pg.length).ps=P.ps.take (Zj P) from rfl,Ca (by lia)] at hj;exact hj
   refine lift ?_ olv (hk h0 j k hj')
   rw [bo _ _ hn]
   cases j with
   | zero=>rfl
   | succ i=>show P.ks[i]?=(P.ks.take (mid P))[i]?;rw [Ca (by lia)]
  ·rw [nlv] at h0
   have hc:Zj P=mid P+1:=by unfold Zj;rw [C8 (by lia)]
   have hj':P.ps[mid P+1+j]?=some k:=by
    rw [show (QC P).ps=P.ps.drop (Zj P) from rfl,Cc,hc] at hj;exact hj
   refine lift ?_ nlv (hk h0 _ k hj')
   rw [Z4]
   cases j with
   | zero=>show P.ks[mid P+0]?=some (JJ P);exact kg
   | succ i=>show P.ks[mid P+1+i]?=(P.ks.drop (Zj P))[i]?;rw [Cc,hc]
  ·obtain ⟨c,r,a1,a2,a3,a4⟩:=T.kid m q h h0 j k hj
   obtain ⟨r',c1,c2,_⟩:=old c r a2
   exact ⟨c,r',a1,c1,by lia,by rw [bo _ _ a2,bo _ _ h,a4]⟩
 ·have on:∀ (b:Nat) (r:Pg),b≠n->S.pg[b]?=some r->p.lv=r.lv->(∃ h v,(QS P S.pg.length).hi=some h/\XQ bg S.pg.length (some (JJ P)) b=some v/\h<=v)∨(∃ h v,r.hi=some h/\XQ bg S.pg.length (some (JJ P)) n=some v/\h<=v):=fun b r hbn hb hlv=>by
   rcases T.dis n b p r hn hb hlv (Ne.symm hbn) with ⟨h,v,a1,a2,a3⟩ | ⟨h,v,a1,a2,a3⟩
   ·exact .inl ⟨JJ P,v,rfl,by rw [bo _ _ hb];exact a2,by have:=kh h a1;lia⟩
   ·exact .inr ⟨h,v,a1,by rw [bo _ _ hn];exact a2,a3⟩
  have nn:∀ (b:Nat) (r:Pg),b≠n->S.pg[b]?=some r->p.lv=r.lv->(∃ h v,(QC P).hi=some h/\XQ bg S.pg.length (some (JJ P)) b=some v/\h<=v)∨(∃ h v,r.hi=some h/\XQ bg S.pg.length (some (JJ P)) S.pg.length=some v/\h<=v):=fun b r hbn hb hlv=>by
   rcases T.dis n b p r hn hb hlv (Ne.symm hbn) with ⟨h,v,a1,a2,a3⟩ | ⟨h,v,a1,a2,a3⟩
   ·exact .inl ⟨h,v,hh.trans a1,by rw [bo _ _ hb];exact a2,a3⟩
   ·exact .inr ⟨h,JJ P,a1,Z4,by have:=kl v a2;lia⟩
  rcases new a q ha with ⟨rfl,rfl⟩ | ⟨rfl,rfl⟩ | ⟨na,ha2⟩
  ·rcases new b r hb with ⟨rfl,rfl⟩ | ⟨rfl,rfl⟩ | ⟨nb,hb2⟩
   ·exact absurd rfl e
   ·exact .inl ⟨JJ P,JJ P,rfl,Z4,Bo _⟩
   ·exact on b r nb hb2 (by rw [<- hab,olv])
  ·rcases new b r hb with ⟨rfl,rfl⟩ | ⟨rfl,rfl⟩ | ⟨nb,hb2⟩
   ·exact .inr ⟨JJ P,JJ P,rfl,Z4,Bo _⟩
   ·exact absurd rfl e
   ·exact nn b r nb hb2 (by rw [<- hab,nlv])
  ·rcases new b r hb with ⟨rfl,rfl⟩ | ⟨rfl,rfl⟩ | ⟨nb,hb2⟩
   ·exact (on a q na ha2 (by rw [hab,olv])).symm
   ·exact (nn a q na ha2 (by rw [hab,nlv])).symm
   ·rcases T.dis a b q r ha2 hb2 hab e with ⟨h,v,a1,a2,a3⟩ | ⟨h,v,a1,a2,a3⟩
    ·exact .inl ⟨h,v,a1,by rw [bo _ _ hb2];exact a2,a3⟩
    ·exact .inr ⟨h,v,a1,by rw [bo _ _ ha2];exact a2,a3⟩
 ·have pr:∀ (l:Nat) (z:Pg),S.pg[l]?=some z->z.hi=some v->∃ (m:Nat) (q:Pg),((S.pg++[QC P]).set n (QS P S.pg.length))[m]?=some q/\q.lv=z.lv/\q.hi=some v:=fun l z hz hv=>by
   by_cases e:l=n
   ·subst e;rw [hn] at hz;cases hz
    exact ⟨_,_,gl,nlv,hh.trans hv⟩
   ·obtain ⟨z',c1,c2,c3,_⟩:=old l z hz
    exact ⟨l,z',c1,c2,by rw [c3 e];exact hv⟩
  rcases new m q h with ⟨rfl,rfl⟩ | ⟨rfl,rfl⟩ | ⟨nm,h⟩
  ·rw [bo _ _ hn] at hv
   obtain ⟨a,z,b1,b2,b3⟩:=T.pred m p hn v hv
   obtain ⟨c,z',d1,d2,d3⟩:=pr a z b1 b3
   exact ⟨c,z',d1,by rw [d2,b2,olv],d3⟩
  ·rw [Z4] at hv
   exact ⟨n,_,gn,by rw [olv,nlv],hv⟩
  ·rw [bo _ _ h] at hv
   obtain ⟨a,z,b1,b2,b3⟩:=T.pred m q h v hv
   obtain ⟨c,z',d1,d2,d3⟩:=pr a z b1 b3
   exact ⟨c,z',d1,by rw [d2,b2],d3⟩
end
section
variable {S:Sh} {bg:Bg} {n:Nat} {p:Pg}
theorem Tree.raise (T:Tree S bg) {r q:Pg} {k:Nat} {aim x y:Int} (hr:S.pg[S.top]?=some r) (hk:S.pg[k]?=some q) (hl:q.lv=r.lv) (hb:bg k=some aim):
    Tree { S with rd:=x,pg:=S.pg++[⟨r.lv+1,[aim],[(S.top:Int),(k:Int)],none,none⟩],top:=S.pg.length,wr:=y } (XQ bg S.pg.length none)/\Grow S bg { S with rd:=x,pg:=S.pg++[⟨r.lv+1,[aim],[(S.top:Int),(k:Int)],none,none⟩],top:=S.pg.length,wr:=y } (XQ bg S.pg.length none):=by
  have r2:=T.room2
  have lev:∀ (m:Nat) (z:Pg),S.pg[m]?=some z->z.lv<=r.lv:=fun m z h=>by
    obtain ⟨r',a,b⟩:=T.root
    rw [hr] at a;cases a;exact b m z h
  have bo:∀ (m:Nat) (z:Pg),S.pg[m]?=some z->XQ bg S.pg.length none m=bg m:=fun m z h=>Ur (Zi h)
  have gl:(S.pg++[(⟨r.lv+1,[aim],[(S.top:Int),(k:Int)],none,none⟩:Pg)])[S.pg.length]?=some ⟨r.lv+1,[aim],[(S.top:Int),(k:Int)],none,none⟩:=by simp
  refine ⟨⟨r2,⟨_,gl,fun m z h=>?_⟩,Z4,fun m z h=>?_,fun m z h=>?_,fun m z h h0 j c hj=>?_,fun a b z z' ha hb' hab e=>?_,fun m z h v hv=>?_⟩,⟨fun m z h=>⟨bo m z h,z,JD h,rfl⟩⟩⟩
  . rcases Jd h with ⟨_,rfl⟩ | h
    . exact Ae _
    . exact Nat.le_succ_of_le (lev m z h)
  . rcases Jd h with ⟨rfl,rfl⟩ | h
    . rw [Z4]
      exact ⟨by simp,by show 1<=S.O2;lia,by simp,fun k hk v hv=>(by cases hv),fun _ k hk v hv=>(by cases hv),fun k hk v hv=>(by cases hv),fun h hh=>(by cases hh)⟩
    . rw [bo _ _ h];exact T.page m z h
  . rcases Jd h with ⟨rfl,rfl⟩ | h
    . exact .inl ⟨rfl,rfl⟩
    . rcases T.link m z h with a | ⟨z1,s,z2,a,b,c,d,e⟩
      . exact .inl a
      . exact .inr ⟨z1,s,z2,a,b,JD c,d,by rw [bo _ _ c];exact e⟩
  . rcases Jd h with ⟨rfl,rfl⟩ | h
    . match j,hj with
      | 0,hj =>
        cases hj
        exact ⟨S.top,r,rfl,JD hr,rfl,by rw [bo _ _ hr,Z4];exact T.rbg⟩
      | 1,hj =>
        cases hj
        exact ⟨k,q,rfl,JD hk,by show q.lv+1=r.lv+1;lia,by rw [bo _ _ hk];exact hb⟩
      | j+2,hj=>simp at hj
    . obtain ⟨c',z',a1,a2,a3,a4⟩:=T.kid m z h h0 j c hj
      exact ⟨c',z',a1,JD a2,a3,by rw [bo _ _ a2,bo _ _ h,a4]⟩
  . rcases Jd ha with ⟨rfl,rfl⟩ | ha2
    . rcases Jd hb' with ⟨rfl,rfl⟩ | hb2
      . exact absurd rfl e
      . have:=lev b z' hb2;have:r.lv+1=z'.lv:=hab;lia
    . rcases Jd hb' with ⟨rfl,rfl⟩ | hb2
      . have:=lev a z ha2;have:z.lv=r.lv+1:=hab;lia
      . rcases T.dis a b z z' ha2 hb2 hab e with ⟨h,v,a1,a2,a3⟩ | ⟨h,v,a1,a2,a3⟩
        . exact .inl ⟨h,v,a1,by rw [bo _ _ hb2];exact a2,a3⟩
        . exact .inr ⟨h,v,a1,by rw [bo _ _ ha2];exact a2,a3⟩
  . rcases Jd h with ⟨rfl,rfl⟩ | h
    . rw [Z4] at hv;cases hv
    . rw [bo _ _ h] at hv
      obtain ⟨a,z1,b1,b2,b3⟩:=T.pred m z h v hv
      exact ⟨a,z1,JD b1,b2,b3⟩
theorem zH {k:Int} (h:Zh p k=false):ltH k p.hi:=fun v hv=>by
 unfold Zh at h;rw [hv] at h;simp at h;lia
theorem ya {O2:Nat} (ok:Jv O2 (bg n) p) (hl:p.lv=0) {k x:Int} (h1:leB (bg n) k) (h2:ltH k p.hi):Jv (QH p k x).ks.length (bg n) (QH p k x) where
 sorted:=yX ok.sorted k
 few:=Ae _
 parts:=by
  have a:=ok.parts
  rw [C9 hl] at a
  have b:=j7 p.ks k
  have c:=Jz p.ks k
  show (p.ps.take (cLt p.ks k)++x::p.ps.drop (cLe p.ks k)).length=(p.ks.take (cLt p.ks k)++k::p.ks.drop (cLe p.ks k)).length+(if p.lv=0 then 0 else 1)
  rw [C9 hl]
  simp only [An,Ba,A9,Bq];lia
 low:=fun y hy=>by
  rcases jx ok.sorted hy with rfl | hy
  ·exact h1
  ·exact ok.low y hy
 lowF:=fun h=>by have:0 < p.lv:=h;lia
 high:=fun y hy=>by
  rcases jx ok.sorted hy with rfl | hy
  ·exact h2
  ·exact ok.high y hy
 wide:=ok.wide
theorem jU {O2:Nat} (ok:Jv O2 (bg n) p) {k x:Int}:(QH p k x).ks.length<=O2+1:=by
 have b:=j7 p.ks k
 have c:=Jz p.ks k
 have d:=Kf p.ks k
 have e:=ok.few
 show (p.ks.take (cLt p.ks k)++k::p.ks.drop (cLe p.ks k)).length<=_
 simp only [An,Ba,A9,Bq];lia
theorem gi {O2:Nat} (ok:Jv O2 (bg n) p) (hl:p.lv=0) {k:Int}:Jv O2 (bg n) (without p k) where
 sorted:=v7 ok.sorted k
 few:=by
  have b:=j7 p.ks k
  have c:=Jz p.ks k
  have d:=Kf p.ks k
  have e:=ok.few
  show (p.ks.take (cLt p.ks k)++p.ks.drop (cLe p.ks k)).length<=_
  simp only [An,A9,Bq];lia
 parts:=by
  have a:=ok.parts
  rw [C9 hl] at a
  have b:=j7 p.ks k
  have c:=Jz p.ks k
  show (p.ps.take (cLt p.ks k)++p.ps.drop (cLe p.ks k)).length=(p.ks.take (cLt p.ks k)++p.ks.drop (cLe p.ks k)).length+(if p.lv=0 then 0 else 1)
  rw [C9 hl]
  simp only [An,A9,Bq];lia
 low:=fun y hy=>ok.low y (gD hy)
 lowF:=fun h=>by have:0 < p.lv:=h;lia
 high:=fun y hy=>ok.high y (gD hy)
 wide:=ok.wide
theorem vB (T:Tree S bg) (hn:S.pg[n]?=some p) {k:Nat} {q:Pg} {aim:Int} (hk:S.pg[k]?=some q) (hl:q.lv+1=p.lv) (hb:bg k=some aim) (hu:Untold S k):aim∉p.ks/\bg n≠some aim:=by
 have ok:=T.page n p hn
 have h0:0 < p.lv:=by lia
 have pl:=ok.parts
 rw [C8 (by lia)] at pl
 have key:∀ j,Z8 (bg n) p.ks j=some aim->j < p.ps.length->False:=fun j e hj=>by
  obtain ⟨c,z,a1,a2,a3,a4⟩:=T.kid n p hn h0 j _ (Ab hj)
  have:c=k:=T.uniq a2 hk (by lia) (by rw [a4,e,hb])
  subst this
  exact hu n p hn h0 (by rw [<- a1];exact B9 hj)
 refine ⟨fun hm=>?_,fun e=>key 0 e (by lia)⟩
 obtain ⟨i,hi,e⟩:=Cr.mp hm
 exact key (i+1) (by show p.ks[i]?=some aim;rw [Ab hi,e]) (by lia)
theorem qd {k:Int} {c:Nat} (h:k∉p.ks):(Q2 p k c).ks=p.ks.take (cLt p.ks k)++k::p.ks.drop (cLe p.ks k):=by
 show p.ks.take (cLe p.ks k)++k::p.ks.drop (cLe p.ks k)=_
 rw [Qbm h]
theorem VW {O2:Nat} (ok:Jv O2 (bg n) p) (hl:0 < p.lv) {k:Int} {c:Nat} (hk:k∉p.ks) (h1:ltB (bg n) k) (h2:ltH k p.hi):Jv (Q2 p k c).ks.length (bg n) (Q2 p k c) where
 sorted:=by rw [qd hk];exact yX ok.sorted k
 few:=Ae _
 parts:=by
  have a:=ok.parts
  rw [C8 (by lia)] at a
  have d:=Jz p.ks k
  show (p.ps.take (cLe p.ks k+1)++(c:Int)::p.ps.drop (cLe p.ks k+1)).length=(p.ks.take (cLe p.ks k)++k::p.ks.drop (cLe p.ks k)).length+(if p.lv=0 then 0 else 1)
  rw [C8 (by lia)]
  simp only [An,Ba,A9,Bq];lia
 low:=fun y hy=>by
  rw [qd hk] at hy
  rcases jx ok.sorted hy with rfl | hy
  ·exact fun v hv=>Ck (h1 v hv)
  ·exact ok.low y hy
 lowF:=fun h y hy=>by
  rw [qd hk] at hy
  rcases jx ok.sorted hy with rfl | hy
  ·exact h1
  ·exact ok.lowF hl y hy
 high:=fun y hy=>by
  rw [qd hk] at hy
  rcases jx ok.sorted hy with rfl | hy
  ·exact h2
  ·exact ok.high y hy
 wide:=ok.wide
theorem x9 {O2:Nat} (ok:Jv O2 (bg n) p) {k:Int} {c:Nat}:(Q2 p k c).ks.length<=O2+1:=by
 have d:=Jz p.ks k
 have e:=ok.few
 show (p.ks.take (cLe p.ks k)++k::p.ks.drop (cLe p.ks k)).length<=_
 simp only [An,Ba,A9,Bq];lia
theorem K9 (T:Tree S bg) (hn:S.pg[n]?=some p) {k:Nat} {q:Pg} {aim:Int} (hk:S.pg[k]?=some q) (hl:q.lv+1=p.lv) (hb:bg k=some aim):
    ∀ j c,(Q2 p aim k).ps[j]?=some c->∃ (c':Nat) (q:Pg),c=(c':Int)/\S.pg[c']?=some q/\q.lv+1=p.lv/\bg c'=Z8 (bg n) (Q2 p aim k).ks j:=by
  intro j c hj
  have ok:=T.page n p hn
  have h0:0 < p.lv:=by lia
  have pl:=ok.parts
  rw [C8 (by lia)] at pl
  have d:=Jz p.ks aim
  have hj:(p.ps.take (cLe p.ks aim+1)++(k:Int)::p.ps.drop (cLe p.ks aim+1))[j]?=some c:=hj
  show ∃ (c':Nat) (q:Pg),c=(c':Int)/\S.pg[c']?=some q/\q.lv+1=p.lv/\bg c'=Z8 (bg n) (p.ks.take (cLe p.ks aim)++aim::p.ks.drop (cLe p.ks aim)) j
  have lt:(p.ps.take (cLe p.ks aim+1)).length=cLe p.ks aim+1:=by rw [A9];lia
  have lk:(p.ks.take (cLe p.ks aim)).length=cLe p.ks aim:=by rw [A9];lia
  rcases Bh j (cLe p.ks aim+1) with h | h
  . rw [Ah (by lia),Ca h] at hj
    obtain ⟨c',z,a1,a2,a3,a4⟩:=T.kid n p hn h0 j c hj
    refine ⟨c',z,a1,a2,a3,?_⟩
    rw [a4]
    cases j with
    | zero=>rfl
    | succ i =>
      show p.ks[i]?=(p.ks.take (cLe p.ks aim)++aim::p.ks.drop (cLe p.ks aim))[i]?
      rw [Ah (by lia),Ca (by lia)]
  . rw [Aq (by lia),lt] at hj
    rcases Bh (cLe p.ks aim+1) j with h2 | h2
    . obtain ⟨i,rfl⟩:∃ i,j=cLe p.ks aim+2+i:=⟨j - (cLe p.ks aim+2),by lia⟩
      rw [show cLe p.ks aim+2+i - (cLe p.ks aim+1)=i+1 by lia,List.getElem?_cons_succ,Cc] at hj
      obtain ⟨c',z,a1,a2,a3,a4⟩:=T.kid n p hn h0 _ c hj
      refine ⟨c',z,a1,a2,a3,?_⟩
      rw [a4]
      rw [show cLe p.ks aim+1+i=(cLe p.ks aim+i)+1 by lia,show cLe p.ks aim+2+i=(cLe p.ks aim+1+i)+1 by lia]
      show p.ks[cLe p.ks aim+i]?=(p.ks.take (cLe p.ks aim)++aim::p.ks.drop (cLe p.ks aim))[cLe p.ks aim+1+i]?
      rw [Aq (by lia),lk,show cLe p.ks aim+1+i - cLe p.ks aim=i+1 by lia,List.getElem?_cons_succ,Cc]
    . have e:j=cLe p.ks aim+1:=by lia
      subst e
      rw [show cLe p.ks aim+1 - (cLe p.ks aim+1)=0 by lia] at hj
      cases hj
      refine ⟨k,q,rfl,hk,hl,?_⟩
      rw [hb]
      show some aim=(p.ks.take (cLe p.ks aim)++aim::p.ks.drop (cLe p.ks aim))[cLe p.ks aim]?
      rw [Aq (by lia),lk];simp
end
structure Stp (S:Sh) (bg:Bg) (w:Wk) (S':Sh) (bg':Bg) (w':Wk):Prop where
 tree:Tree S' bg'
 grow:Grow S bg S' bg'
 wok:w'.O7=false->WOk S' bg' w'
 unt:∀ k v,Untold S k->bg k=some v->(0 < w.O4->w.Oz≠some k)->Untold S' k
 new:∀ k,w'.O7=false->0 < w'.O4->w'.Oz=some k->Untold S' k/\((0 < w.O4/\w.Oz=some k)∨S.pg.length<=k)
 O2:S'.O2=S.O2
 len:S'.pg.length<=S.pg.length+1
def Tree.rd {S:Sh} (T:Tree S bg) (x y:Int):Tree { S with rd:=x,wr:=y } bg:=⟨T.room2,T.root,T.rbg,T.page,T.link,T.kid,T.dis,T.pred⟩
section
variable {S:Sh} {bg:Bg} {n:Nat} {p P:Pg} {w:Wk}
theorem Untold.set {S:Sh} {n:Nat} {p P:Pg} {k:Nat} {x y:Int} (h:Untold S k) (hn:S.pg[n]?=some p) (hl:P.lv=p.lv) (hs:0 < p.lv->(k:Int)∈P.ps->(k:Int)∈p.ps):Untold { S with pg:=S.pg.set n P,rd:=x,wr:=y } k:=fun m q hm h0 hk=>by
 rcases Jy hm with ⟨rfl,rfl,_⟩ | ⟨_,hm⟩
 ·exact h m p hn (by lia) (hs (by lia) hk)
 ·exact h m q hm h0 hk
theorem Untold.halves {S:Sh} {n:Nat} {p P:Pg} {k l:Nat} {x y:Int} (h:Untold S k) (hn:S.pg[n]?=some p) (hl:P.lv=p.lv) (hs:0 < p.lv->(k:Int)∈P.ps->(k:Int)∈p.ps):Untold { S with pg:=(S.pg++[QC P]).set n (QS P l),rd:=x,wr:=y } k:=fun m q hm h0 hk=>by
 rcases Jy hm with ⟨rfl,rfl,_⟩ | ⟨_,hm⟩
 ·have h0':0 < P.lv:=h0
  exact h m p hn (by lia) (hs (by lia) (Bx hk))
 ·rcases Jd hm with ⟨rfl,rfl⟩ | hm
  ·have h0':0 < P.lv:=h0
   exact h n p hn (by lia) (hs (by lia) (Cd hk))
  ·exact h m q hm h0 hk
theorem Tree.untold_new (T:Tree S bg) {k:Nat} (h:S.pg.length<=k):Untold S k:=fun m q hm h0 hk=>by
 obtain ⟨j,hj,e⟩:=Cr.mp hk
 obtain ⟨c,z,a1,a2,_⟩:=T.kid m q hm h0 j _ (Ab hj)
 rw [e] at a1
 have:k=c:=by lia
 have:=Zi a2;lia
theorem UZ (T:Tree S bg) (hn:S.pg[n]?=some p) (hl:P.lv=p.lv) (hh:P.hi=p.hi) (hs:P.sd=p.sd) (ok:Jv P.ks.length (bg n) P) (h2:P.ks.length<=S.O2+1)
  (hk:0 < p.lv->∀ j k,P.ps[j]?=some k->∃ (c:Nat) (q:Pg),k=(c:Int)/\S.pg[c]?=some q/\q.lv+1=p.lv/\bg c=Z8 (bg n) P.ks j)
  (W:WOk S bg w) (hw:w.O7=false) (hpl:w.O6=some n∨w.O6=none) (hg:p.lv=w.O4) (hsub:∀ k:Nat,0 < p.lv->(k:Int)∈P.ps->(k:Int)∈p.ps∨(0 < w.O4/\w.Oz=some k)) :
  ∃ bg',Stp S bg w (Qs S w n P).2.1 bg' (Qs S w n P).2.2:=by
 unfold Qs
 by_cases hr:P.ks.length<=S.O2
 ·rw [C9 hr]
  obtain ⟨T',G⟩:=T.write (x:=S.rd) (y:=S.wr+1) (p':=P) hn hl hh hs ⟨ok.sorted,hr,ok.parts,ok.low,ok.lowF,ok.high,ok.wide⟩ hk
  refine ⟨bg,T',G,fun h=>(by cases h),fun k v hu hb hne=>hu.set hn hl fun h0 hm=>?_,fun k h=>(by cases h),rfl,(by simp)⟩
  rcases hsub k h0 hm with a | ⟨a,b⟩
  ·exact a
  ·exact absurd b (hne a)
 ·rw [C8 hr]
  obtain ⟨T',G⟩:=T.split (x:=S.rd) (y:=S.wr+1+1) hn hl hh hs ok (by lia) h2 hk
  have r2:=T.room2
  have kl:=Kz ok (by lia)
  have gl:((S.pg++[QC P]).set n (QS P S.pg.length))[S.pg.length]?=some (QC P):=by
   rw [Am (by have:=Zi hn;lia),Aq (Ae _)];simp
  have pln:∀ f,Jh w.O3 (p.lv+1)=some f->w.O6=some n:=fun f hf=>by
   rcases hpl with h | h
   ·exact h
   ·have:=W.none_ h _ f hf;lia
  refine ⟨_,T',G,fun _=>?_,fun k v hu hb hne=>hu.halves hn hl fun h0 hm=>?_,fun k _ _ e=>?_,rfl,by simp⟩
  ·have lv':P.lv=w.O4:=hl.trans hg
   refine ⟨fun f hf=>?_,fun hnone l f hf=>?_,fun l f hf=>?_,fun f q hf hq l f' hf' hlt=>?_,fun l f l' f' hf hf' a b=>?_,fun f q hf hq hlt=>?_,fun f q hf hq l' f' hf' l a b=>?_,fun _=>⟨S.pg.length,QC P,rfl,gl,rfl,Z4⟩⟩
   ·have hf:Jh w.O3 (P.lv+1)=some f:=hf
    rw [hl] at hf
    obtain ⟨q,a1,a2⟩:=W.kept _ f hf
    obtain ⟨e,q',a3,a4⟩:=G.old f q a1
    refine ⟨q',a3,?_,?_⟩
    ·show P.lv+1<=q'.lv;lia
    ·rw [e]
     intro v hv
     obtain ⟨u,b1,b2⟩:=W.above n p (pln f hf) hn _ f hf (by lia) v hv
     have:=kl u b1;show v<=JJ P;lia
   ·have hnone:Jh w.O3 (P.lv+1)=none:=hnone
    show l < P.lv+1
    rcases Bh l (P.lv+1) with h | h
    ·exact h
    ·exfalso
     rcases hpl with U | U
     ·obtain ⟨f0,hf0⟩:=W.full n p U hn l f hf (P.lv+1) (by lia) h
      rw [hnone] at hf0;cases hf0
     ·have:=W.none_ U l f hf;lia
   ·obtain ⟨q,a1,a2⟩:=W.kept l f hf
    obtain ⟨e,q',a3,a4⟩:=G.old f q a1
    exact ⟨q',a3,by lia⟩
   ·have hf:Jh w.O3 (P.lv+1)=some f:=hf
    obtain ⟨q0,a1,a2⟩:=W.kept _ f hf
    obtain ⟨q1,b1,b2⟩:=W.kept _ f' hf'
    obtain ⟨e,q',a3,a4⟩:=G.old f q0 a1
    rw [e,(G.old f' q1 b1).1]
    rw [a3] at hq;cases hq
    exact W.chain _ f l f' hf hf' (by lia) (by lia)
   ·obtain ⟨q0,a1,a2⟩:=W.kept _ f hf
    obtain ⟨q1,b1,b2⟩:=W.kept _ f' hf'
    rw [(G.old f q0 a1).1,(G.old f' q1 b1).1]
    have a:P.lv+1<=l:=a
    exact W.chain l f l' f' hf hf' (by lia) b
   ·have hf:Jh w.O3 (P.lv+1)=some f:=hf
    obtain ⟨q0,a1,a2⟩:=W.kept _ f hf
    obtain ⟨e,q',a3,a4⟩:=G.old f q0 a1
    have hlt2:P.lv+1 < q.lv:=hlt
    rw [a3] at hq;cases hq
    lia
   ·have hf:Jh w.O3 (P.lv+1)=some f:=hf
    obtain ⟨q0,a1,a2⟩:=W.kept _ f hf
    obtain ⟨e,q',a3,a4⟩:=G.old f q0 a1
    rw [a3] at hq;cases hq
    rw [hl] at hf
    exact W.full n p (pln f hf) hn l' f' hf' l (by lia) b
  ·rcases hsub k h0 hm with a | ⟨a,b⟩
   ·exact a
   ·exact absurd b (hne a)
  ·have e:S.pg.length=k:=Ak e
   subst e
   refine ⟨(T.untold_new (Ae _)).halves hn hl fun h0 hm=>?_,.inr (Ae _)⟩
   obtain ⟨j,hj,e⟩:=Cr.mp hm
   obtain ⟨c,z,a1,a2,_⟩:=hk h0 j _ (Ab hj)
   rw [e] at a1
   have:S.pg.length=c:=by lia
   have:=Zi a2;lia
end
section
variable {S:Sh} {bg:Bg} {n:Nat} {p:Pg} {w:Wk}
theorem QaB {ks:List Int} (h:ks.Pairwise (· < ·)) {k x:Int} {i:Nat} (hi:i < cLe ks k) (hx:ks[i]?=some x):x<=k:=by
 have e:(ks.take (cLe ks k))[i]?=some x:=by rw [Ca hi];exact hx
 rw [(Yp h k).1] at e
 simpa using (Bm.mp (Aw e)).2
theorem gW (T:Tree S bg) (W:WOk S bg w) (hpl:w.O6=some n∨w.O6=none) (hn:S.pg[n]?=some p) (hg:w.O4<=p.lv) {s:Nat} {q:Pg} {h:Int} (hh:p.hi=some h) (hs:S.pg[s]?=some q) (hl:q.lv=p.lv) (hb:bg s=some h) {w':Wk} (e1:w'.O6=some s) (e2:w'.O3=w.O3) (e3:w'.O4=w.O4) (e4:h<=w'.aim) (e5:0 < w.O4->w'.Oz=w.Oz/\w'.aim=w.aim):WOk S bg w' where
 at_:=fun m hm=>by
  rw [e1] at hm;cases hm
  exact ⟨q,hs,by lia,fun v hv=>by rw [hb] at hv;cases hv;exact e4⟩
 none_:=fun hm=>by rw [e1] at hm;cases hm
 kept:=fun l f hf=>W.kept l f (e2▸hf)
 above:=fun m z hm hz l f hf hlt=>by
  rw [e1] at hm;cases hm
  rw [hs] at hz;cases hz
  rw [e2] at hf
  rcases hpl with U | U
  ·refine (W.above n p U hn l f hf (by lia)).trans fun v hv=>⟨h,hb,?_⟩
   have:=(T.page n p hn).wide h hh v hv;lia
  ·have:=W.none_ U l f hf;lia
 chain:=fun l f l' f' hf hf' a b=>W.chain l f l' f' (e2▸hf) (e2▸hf') (e3▸a) b
 gap:=fun m z hm hz hlt l f hf=>by
  rw [e1] at hm;cases hm
  rw [hs] at hz;cases hz
  rw [e2] at hf
  rcases hpl with U | U
  ·rcases W.gap n p U hn (by lia) l f hf with a | a
   ·exact .inl (by lia)
   ·exact .inr (by lia)
  ·exact .inl (by have:=W.none_ U l f hf;lia)
 full:=fun m z hm hz l' f' hf' l a b=>by
  rw [e1] at hm;cases hm
  rw [hs] at hz;cases hz
  rw [e2] at hf' ⊢
  rcases hpl with U | U
  ·exact W.full n p U hn l' f' hf' l (by lia) b
  ·have:=W.none_ U l' f' hf';lia
 tell:=fun h0=>by
  rw [e3] at h0 ⊢
  obtain ⟨k,z,a1,a2,a3,a4⟩:=W.tell h0
  obtain ⟨b1,b2⟩:=e5 h0
  exact ⟨k,z,b1.trans a1,a2,a3,by rw [b2];exact a4⟩
theorem Qdy (T:Tree S bg) (W:WOk S bg w) (hpl:w.O6=some n∨(w.O6=none/\n=S.top)) (hn:S.pg[n]?=some p) (hg:w.O4 < p.lv) {c:Nat} {q:Pg} (hc:S.pg[c]?=some q) (hl:q.lv+1=p.lv) (hb:bg c=Z8 (bg n) p.ks (cLe p.ks w.aim)):WOk S bg { w with O3:=zS w.O3 p.lv n,O6:=some c }:=by
  have ok:=T.page n p hn
  have lb:leBB (bg n) (bg c):=by
    rw [hb]
    cases e:cLe p.ks w.aim with
    | zero=>exact leBB.refl _
    | succ i =>
      intro v hv
      have hi:i < p.ks.length:=by have:=Jz p.ks w.aim;lia
      refine ⟨p.ks[i],Ab hi,Ck (ok.lowF (by lia) _ (B9 hi) v hv)⟩
  have la:leB (bg n) w.aim:=by
    rcases hpl with U | ⟨_,rfl⟩
    . obtain ⟨p',a1,a2,a3⟩:=W.at_ n U
      exact a3
    . intro v hv;rw [T.rbg] at hv;cases hv
  have ca:leB (bg c) w.aim:=by
    rw [hb]
    cases e:cLe p.ks w.aim with
    | zero=>exact la
    | succ i=>intro v hv;exact QaB ok.sorted (by lia) hv
  have old:∀ l f,Jh w.O3 l=some f->l≠p.lv->l < w.O4∨(p.lv < l/\w.O6=some n):=fun l f hf hne=>by
    rcases hpl with U | ⟨U,_⟩
    . rcases W.gap n p U hn hg l f hf with a | a
      . exact .inl a
      . exact .inr ⟨a,U⟩
    . exact .inl (W.none_ U l f hf)
  have gp:∀ l f,Jh (zS w.O3 p.lv n) l=some f->(l=p.lv/\f=n)∨(l≠p.lv/\Jh w.O3 l=some f):=fun l f hf=>by
    rw [qE] at hf
    by_cases e:l=p.lv
    . rw [C9 e] at hf;cases hf;exact .inl ⟨e,rfl⟩
    . rw [C8 e] at hf;exact .inr ⟨e,hf⟩
  refine ⟨fun m hm=>?_,fun hm=>(by cases hm),fun l f hf=>?_,fun m z hm hz l f hf hlt=>?_,fun l f l' f' hf hf' a b=>?_,fun m z hm hz hlt l f hf=>?_,fun m z hm hz l' f' hf' l a b=>?_,W.tell⟩
  . cases hm
    refine ⟨q,hc,?_,ca⟩
    show w.O4<=q.lv;lia
  . rcases gp l f hf with ⟨rfl,rfl⟩ | ⟨_,h⟩
    . exact ⟨p,hn,rfl⟩
    . exact W.kept l f h
  . cases hm
    rw [hc] at hz;cases hz
    rcases gp l f hf with ⟨rfl,rfl⟩ | ⟨hne,h⟩
    . exact lb
    . rcases old l f h hne with a | ⟨a,U⟩
      . lia
      . exact (W.above n p U hn l f h a).trans lb
  . have a:w.O4<=l:=a
    rcases gp l f hf with ⟨rfl,rfl⟩ | ⟨hne,h⟩
    . rcases gp l' f' hf' with ⟨rfl,rfl⟩ | ⟨hne',h'⟩
      . lia
      . rcases old l' f' h' hne' with c1 | ⟨c1,U⟩
        . lia
        . exact W.above _ p U hn l' f' h' c1
    . rcases gp l' f' hf' with ⟨rfl,rfl⟩ | ⟨hne',h'⟩
      . rcases old l f h hne with c1 | ⟨c1,U⟩<;>lia
      . exact W.chain l f l' f' h h' a b
  . cases hm
    rw [hc] at hz;cases hz
    show l < w.O4∨_
    rcases gp l f hf with ⟨rfl,rfl⟩ | ⟨hne,h⟩
    . exact .inr (by lia)
    . rcases old l f h hne with c1 | ⟨c1,U⟩
      . exact .inl c1
      . exact .inr (by lia)
  . cases hm
    rw [hc] at hz;cases hz
    by_cases e:l=p.lv
    . exact ⟨n,by rw [qE,C9 e]⟩
    . rcases gp l' f' hf' with ⟨rfl,rfl⟩ | ⟨hne,h⟩
      . lia
      . rcases old l' f' h hne with c1 | ⟨c1,U⟩
        . lia
        . obtain ⟨f,hf⟩:=W.full n p U hn l' f' h l (by lia) b
          exact ⟨f,by rw [qE,C8 e];exact hf⟩
def Stp.of_rd {S':Sh} {bg':Bg} {w':Wk} {x y:Int} (h:Stp { S with rd:=x,wr:=y } bg w S' bg' w'):Stp S bg w S' bg' w':=⟨h.tree,⟨h.grow.old⟩,h.wok,h.unt,h.new,h.O2,h.len⟩
theorem Stp.still (T:Tree S bg) {w':Wk} {x y:Int} (hu:0 < w.O4->∀ k,w.Oz=some k->Untold S k) (h:w'.O7=false->WOk S bg w'/\(w'.O4=w.O4/\(0 < w.O4->w'.Oz=w.Oz))):Stp S bg w { S with rd:=x,wr:=y } bg w' where
 tree:=T.rd x y
 grow:=⟨fun n p h=>⟨rfl,p,h,rfl⟩⟩
 wok:=fun e=>let W:=(h e).1;⟨W.at_,W.none_,W.kept,W.above,W.chain,W.gap,W.full,W.tell⟩
 unt:=fun k v hu _ _=>hu
 new:=fun k e g0 hk=>by
  obtain ⟨_,e1,e2⟩:=h e
  rw [e1] at g0
  rw [e2 g0] at hk
  exact ⟨hu g0 k hk,.inl ⟨g0,hk⟩⟩
 O2:=rfl
 len:=Nat.le_succ _
def WOk.rd (W:WOk S bg w) (x y:Int):WOk { S with rd:=x,wr:=y } bg w:=⟨W.at_,W.none_,W.kept,W.above,W.chain,W.gap,W.full,W.tell⟩
theorem K7 (T:Tree S bg) (W:WOk S bg w) (hw:w.O7=false) (hu:0 < w.O4->∀ k,w.Oz=some k->Untold S k):∃ r S' w' bg',Jg S w=some (r,S',w')/\Stp S bg w S' bg' w':=by
  obtain ⟨n,hn0,hpl⟩:∃ n,w.O6.getD S.top=n/\(w.O6=some n∨(w.O6=none/\n=S.top)):=by
    cases e:w.O6 with
    | none=>exact ⟨S.top,rfl,.inr ⟨rfl,rfl⟩⟩
    | some m=>exact ⟨m,rfl,.inl rfl⟩
  obtain ⟨p,hn⟩:∃ p,S.pg[n]?=some p:=by
    rcases hpl with U | ⟨_,rfl⟩
    . obtain ⟨p,a,_⟩:=W.at_ n U;exact ⟨p,a⟩
    . obtain ⟨p,a,_⟩:=T.root;exact ⟨p,a⟩
  have hpl':w.O6=some n∨w.O6=none:=hpl.imp id And.left
  have ok:=T.page n p hn
  have la:leB (bg n) w.aim:=by
    rcases hpl with U | ⟨_,rfl⟩
    . obtain ⟨p',a1,a2,a3⟩:=W.at_ n U
      exact a3
    . intro v hv;rw [T.rbg] at hv;cases hv
  unfold Jg
  rw [C8 (by rw [hw];simp),hn0]
  simp only [hn]
  by_cases hr:w.O6=none/\p.lv < w.O4
  . rw [C9 hr]
    have htop:n=S.top:=by
      rcases hpl with U | ⟨_,e⟩
      . rw [hr.1] at U;cases U
      . exact e
    subst htop
    obtain ⟨k,q,a1,a2,a3,a4⟩:=W.tell (by lia)
    simp only [a1]
    have lev:q.lv<=p.lv:=by
      obtain ⟨r,b1,b2⟩:=T.root
      rw [hn] at b1;cases b1;exact b2 k q a2
    obtain ⟨T',G⟩:=T.raise (x:=S.rd+1) (y:=S.wr+1) hn a2 (by lia) a4
    refine ⟨_,_,_,_,rfl,T',G,fun h=>(by cases h),fun k' v hu' hb hne m z hm h0 hk'=>?_,fun k' h=>(by cases h),rfl,by simp⟩
    rcases Jd hm with ⟨rfl,rfl⟩ | hm
    . have hk2:(k':Int)=(S.top:Int)∨(k':Int)=(k:Int):=by simpa using hk'
      rcases hk2 with e | e
      . have:k'=S.top:=by lia
        subst this;rw [T.rbg] at hb;cases hb
      . have:k'=k:=by lia
        subst this;exact hne (by lia) a1
    . exact hu' m z hm h0 hk'
  . rw [C8 hr]
    have hg:w.O4<=p.lv:=by
      rcases hpl with U | ⟨U,_⟩
      . obtain ⟨p',b1,b2,_⟩:=W.at_ n U
        rw [hn] at b1;cases b1;exact b2
      . exact Cz fun h=>hr ⟨U,h⟩
    cases hb:Zh p w.aim with
    | true =>
      rw [C9 rfl]
      rcases T.link n p hn with ⟨a,b⟩ | ⟨h,s,q,a,b,c,d,e⟩
      . unfold Zh at hb;rw [a] at hb;cases hb
      . simp only [b]
        have ha:h<=w.aim:=by unfold Zh at hb;rw [a] at hb;simpa using hb
        exact ⟨_,_,_,bg,rfl,Stp.still T hu fun _=>⟨gW T W hpl' hn hg a c d e rfl rfl rfl ha fun _=>⟨rfl,rfl⟩,rfl,fun _=>rfl⟩⟩
    | false =>
      have lh:=zH hb
      rw [C8 (by simp)]
      by_cases hd:w.O4 < p.lv
      . rw [C9 hd]
        have pl:=ok.parts
        rw [C8 (by lia)] at pl
        have hc:cLe p.ks w.aim < p.ps.length:=by have:=Jz p.ks w.aim;lia
        obtain ⟨c,q,a1,a2,a3,a4⟩:=T.kid n p hn (by lia) _ _ (Ab hc)
        rw [Ab hc,a1]
        simp only [B7]
        exact ⟨_,_,_,bg,rfl,Stp.still T hu fun _=>⟨Qdy T W hpl hn hd a2 a3 a4,rfl,fun _=>rfl⟩⟩
      . rw [C8 hd]
        have hlv:p.lv=w.O4:=by lia
        by_cases h0:0 < w.O4
        . rw [C9 h0]
          obtain ⟨k,q,a1,a2,a3,a4⟩:=W.tell h0
          simp only [a1]
          obtain ⟨n1,n2⟩:=vB T hn a2 (by lia) a4 (hu h0 k a1)
          have lt:ltB (bg n) w.aim:=fun v hv=>by
            have:=la v hv
            have:v≠w.aim:=fun e=>n2 (by rw [hv,e])
            lia
          obtain ⟨bg',st⟩:=UZ (S:={ S with rd:=S.rd+1,wr:=S.wr }) (P:=Q2 p w.aim k) (T.rd _ _) hn rfl rfl rfl (VW ok (by lia) n1 lt lh) (x9 ok) (fun _=>K9 T hn a2 (by lia) a4) (W.rd _ _) hw hpl' hlv (fun k' _ hm=>by
            rcases Ai.mp hm with hm | hm
            . exact .inl (Bx hm)
            . rcases Bk.mp hm with e | hm
              . have:k'=k:=by lia
                subst this;exact .inr ⟨h0,a1⟩
              . exact .inl (Cd hm))
          exact ⟨_,_,_,bg',rfl,st.of_rd⟩
        . rw [C8 h0]
          have hz:p.lv=0:=by lia
          have g0:w.O4=0:=by lia
          unfold ZO
          cases hdd:w.O0 with
          | find k=>exact ⟨_,_,_,bg,rfl,Stp.still T hu fun h=>(by cases h)⟩
          | put k x =>
            have W1:WOk { S with rd:=S.rd+1,wr:=S.wr } bg ({ O0:=.put k x,aim:=w.aim,O4:=w.O4,O6:=w.O6,O3:=w.O3,Oz:=w.Oz,O1:=QR p w.aim,O5:=w.O5,O7:=w.O7 }:Wk):=⟨W.at_,W.none_,W.kept,W.above,W.chain,W.gap,W.full,W.tell⟩
            obtain ⟨bg',st⟩:=UZ (S:={ S with rd:=S.rd+1,wr:=S.wr }) (w:=({ O0:=.put k x,aim:=w.aim,O4:=w.O4,O6:=w.O6,O3:=w.O3,Oz:=w.Oz,O1:=QR p w.aim,O5:=w.O5,O7:=w.O7 }:Wk)) (P:=QH p w.aim x) (T.rd _ _) hn rfl rfl rfl (ya ok hz la lh) (jU ok) (fun h=>(by lia)) W1 hw hpl' hlv (fun k' h=>(by lia))
            exact ⟨_,_,_,bg',rfl,⟨st.tree,⟨st.grow.old⟩,st.wok,st.unt,st.new,st.O2,st.len⟩⟩
          | cut k =>
            dsimp only
            by_cases hs:(QR p w.aim).isSome=true
            . rw [C9 hs]
              obtain ⟨T',G⟩:=T.write (x:=S.rd+1) (y:=S.wr+1) (p':=without p w.aim) hn rfl rfl rfl (gi ok hz) (fun h=>(by lia))
              exact ⟨_,_,_,bg,rfl,T',G,fun h=>(by cases h),fun k' v hu' _ _=>hu'.set hn rfl fun h=>(by lia),fun k' h=>(by cases h),rfl,by simp⟩
            . rw [C8 hs]
              exact ⟨_,_,_,bg,rfl,Stp.still T hu fun h=>(by cases h)⟩
          | stretch l h =>
            dsimp only
            rcases T.link n p hn with ⟨a,b⟩ | ⟨x,s,q,a,b,c,d,e⟩
            . simp only [a,b]
              exact ⟨_,_,_,bg,rfl,Stp.still T hu fun h=>(by cases h)⟩
            . simp only [a,b]
              by_cases hx:h<=x
              . rw [C9 hx]
                exact ⟨_,_,_,bg,rfl,Stp.still T hu fun h=>(by cases h)⟩
              . rw [C8 hx]
                exact ⟨_,_,_,bg,rfl,Stp.still T hu fun _=>⟨gW T W hpl' hn hg a c d e rfl rfl rfl (Bo _) (fun z=>(by lia)),rfl,fun _=>rfl⟩⟩
end
def ltO:Option Int->Option Int->Bool
 | none,some _=>true
 | some v,some u=>decide (v < u)
 | _,none=>false
theorem UL {a b c:Option Int} (h:ltO a b=true) (g:ltO b c=true):ltO a c=true:=by
 cases a<;>cases b<;>cases c<;>simp_all [ltO];lia
theorem yq (a:Option Int):ltO a a=false:=by cases a<;>simp [ltO]
theorem jB {b:Option Int} {h:Int} (w:ltB b h):ltO b (some h)=true:=by
 cases b with
 | none=>rfl
 | some v=>simpa [ltO] using w v rfl
theorem gR {α:Type} (p q:α->Bool):∀ l:List α,(∀ x∈l,q x=true->p x=true)->(l.filter q).length<=(l.filter p).length
  | [],_=>Ae _
  | x::l,h=>by
    have ih:=gR p q l fun y hy=>h y (Ax _ hy)
    have hx:=h x (by simp)
    by_cases a:q x=true
    . simp [As,a,hx a,ih]
    . by_cases b:p x=true
      . simp [As,a,b];lia
      . simp [As,a,b,ih]
theorem jp {α:Type} (p q:α->Bool):∀ l:List α,(∀ x∈l,q x=true->p x=true)->(∃ a∈l,p a=true/\q a=false)->(l.filter q).length < (l.filter p).length
  | [],_,h=>by obtain ⟨a,h,_⟩:=h;cases h
  | x::l,h,⟨a,ha,pa,qa⟩=>by
    have le:=gR p q l fun y hy=>h y (Ax _ hy)
    rcases Bk.mp ha with rfl | ha
    . simp [As,pa,qa];lia
    . have ih:=jp p q l (fun y hy=>h y (Ax _ hy)) ⟨a,ha,pa,qa⟩
      have hx:=h x (by simp)
      by_cases a:q x=true
      . simp [As,a,hx a];lia
      . by_cases b:p x=true
        . simp [As,a,b];lia
        . simp [As,a,b];lia
section
variable {S:Sh} {bg:Bg}
theorem K5 (T:Tree S bg) {n s:Nat} {p:Pg} (hn:S.pg[n]?=some p) (hs:p.sd=some s):∃ h q,p.hi=some h/\S.pg[s]?=some q/\q.lv=p.lv/\bg s=some h/\ltO (bg n) (bg s)=true:=by
 rcases T.link n p hn with ⟨_,b⟩ | ⟨h,s',q,a,b,c,d,e⟩
 ·rw [hs] at b;cases b
 ·rw [hs] at b;cases b
  exact ⟨h,q,a,c,d,e,by rw [e];exact jB ((T.page n p hn).wide h a)⟩
def mu (S:Sh) (bg:Bg) (n:Nat):Nat:=((List.range S.pg.length).filter fun m=>ltO (bg n) (bg m)).length
def lvB (S:Sh) (f:Nat->Bool) (n:Nat):Bool:=match S.pg[n]? with
 | some p=>f p.lv
 | none=>false
theorem XU (S:Sh) (j:Nat):∀ l:List Nat,(l.filter (lvB S fun x=>decide (x < j+1))).length=(l.filter (lvB S fun x=>decide (x < j))).length+(l.filter (lvB S fun x=>decide (x=j))).length
  | []=>rfl
  | n::l=>by
    have ih:=XU S j l
    have e:∀ f:Nat->Bool,((n::l).filter (lvB S f)).length=(if lvB S f n=true then 1 else 0)+(l.filter (lvB S f)).length:=fun f=>by
      by_cases h:lvB S f n=true
      . simp [As,h];lia
      . simp [As,h]
    rw [e,e,e,ih]
    unfold lvB
    cases S.pg[n]? with
    | none=>simp
    | some p =>
      simp only [decide_eq_true_eq]
      rcases Nat.lt_trichotomy p.lv j with h | h | h
      . rw [C9 (by lia),C9 h,C8 (by lia)];lia
      . rw [C9 (by lia),C8 (by lia),C9 h];lia
      . rw [C8 (by lia),C8 (by lia),C8 (by lia)];lia
theorem yH (S:Sh) (l:List Nat):(l.filter (lvB S fun x=>decide (x < 0))).length=0:=by
 rw [List.length_eq_zero_iff,List.filter_eq_nil_iff]
 intro n _
 unfold lvB
 cases S.pg[n]?<;>simp
theorem j8 {L:Nat} (h:∀ (n:Nat) (p:Pg),S.pg[n]?=some p->p.lv<=L):((List.range S.pg.length).filter (lvB S fun x=>decide (x < L+1))).length=S.pg.length:=by
 rw [Ct.mpr,List.length_range]
 intro n hn
 rw [Ch] at hn
 unfold lvB
 rw [Ab hn]
 have:=h n _ (Ab hn)
 simp;lia
end
theorem Qcv (fs:List (Nat×Nat)) (k v:Nat):(zS fs k v).length<=fs.length+1:=by
 unfold zS;split<;>simp
theorem jS (S:Sh) (w:Wk) (n:Nat) (P:Pg):(Qs S w n P).2.2.O3=w.O3/\(Qs S w n P).2.2.O5=w.O5:=by
 unfold Qs;split<;>exact ⟨rfl,rfl⟩
theorem G9 (p:Pg) (l h:Int):(QT p l h).length<=p.ks.length:=by
 unfold QT
 refine Bj (Cb _ _) ?_
 rw [List.length_zip];lia
theorem uv (S:Sh) (w:Wk) (n:Nat) (p:Pg):(ZO S w n p).2.2.O3=w.O3/\(ZO S w n p).2.2.O5.length<=w.O5.length+p.ks.length:=by
  obtain ⟨O0,aim,O4,O6,O3,Oz,O1,O5,O7⟩:=w
  cases O0 with
  | find k=>exact ⟨rfl,by simp [ZO]⟩
  | put k x =>
    have:=jS S ⟨.put k x,aim,O4,O6,O3,Oz,QR p aim,O5,O7⟩ n (QH p aim x)
    refine ⟨this.1,?_⟩
    show (Qs S ⟨.put k x,aim,O4,O6,O3,Oz,QR p aim,O5,O7⟩ n (QH p aim x)).2.2.O5.length<=_
    rw [this.2]
    exact Nat.le_add_right _ _
  | cut k=>exact ⟨rfl,by simp [ZO]⟩
  | stretch l h =>
    have pl:=G9 p l h
    unfold ZO
    dsimp only
    split
    . split
      . exact ⟨rfl,by simp;lia⟩
      . exact ⟨rfl,by simp;lia⟩
    . exact ⟨rfl,by simp;lia⟩
theorem VO {S S':Sh} {w w':Wk} {r:Row} {m:Nat} (hk:∀ (n:Nat) (p:Pg),S.pg[n]?=some p->p.ks.length<=m) (h:Jg S w=some (r,S',w')):w'.O3.length<=w.O3.length+1/\w'.O5.length<=w.O5.length+m:=by
 unfold Jg at h
 split at h
 ·cases h;exact ⟨by lia,by lia⟩
 ·split at h
  ·cases h
  ·rename_i p U
   have kl:=hk _ p U
   split at h
   ·split at h
    ·cases h
    ·cases h;exact ⟨by simp,by simp⟩
   ·split at h
    ·split at h
     ·cases h
     ·cases h;exact ⟨by simp,by simp⟩
    ·split at h
     ·split at h
      ·cases h
      ·cases h;exact ⟨Qcv _ _ _,by simp⟩
     ·split at h
      ·split at h
       ·cases h
       ·rename_i c hc
        have z:=jS { S with rd:=S.rd+1 } w (w.O6.getD S.top) (Q2 p w.aim c)
        have e:=Ak h
        have e2:(Qs { S with rd:=S.rd+1 } w (w.O6.getD S.top) (Q2 p w.aim c)).2.2=w':=congrArg (fun t=>t.2.2) e
        rw [e2] at z
        exact ⟨by rw [z.1];lia,by rw [z.2];lia⟩
      ·have e:=Ak h
       have z:=uv { S with rd:=S.rd+1 } w (w.O6.getD S.top) p
       rw [e] at z
       have z2:w'.O5.length<=w.O5.length+p.ks.length:=z.2
       have z1:w'.O3=w.O3:=z.1
       exact ⟨by rw [z1];lia,by lia⟩
def fresh (d:Deed):Wk:=⟨d,d.key,0,none,[],none,none,[],false⟩
end TR
namespace D
open PySem PySem.Spec PyProof.Rows L2
def oN:Option Nat->DV
 | none=>.non
 | some n=>.int n
def pgD (p:TR.Pg):DV:=.tup [.int p.lv,.tup (p.ks.map .int),.tup (p.ps.map .int),opt p.hi,oN p.sd]
def Zy:TR.Deed->DV
 | .find k=>.tup [.str "find", .int k]
 | .put k w=>.tup [.str "put", .int k,.int w]
 | .cut k=>.tup [.str "cut", .int k]
 | .stretch l h=>.tup [.str "stretch", .int l,.int h]
def fkD (fs:List (Nat×Nat)):List (Key×DV):=fs.map fun p=>(.inl p.1,.int p.2)
def prD (ps:Em):List DV:=ps.map fun p=>.tup [.int p.1,.int p.2]
def wkF (s f q:Nat) (d a g p n w e:DV):List (Str×DV):=[("shelf", .ref s),("deed", d),("aim", a),("goal", g),("place", p),("forks", .ref f),("new_page", n),("worth", w),("pairs", .ref q),("ended", e)]
def wkO (s f q:Nat) (w:TR.Wk):OV:=.ins "Walk" (wkF s f q (Zy w.O0) (.int w.aim) (.int w.O4) (oN w.O6) (oN w.Oz) (opt w.O1) (.bl w.O7))
def Vr:TR.Row->DV
 | .non=>.non
 | .side n t=>.tup [.str "side", .int n,.int t]
 | .down n t=>.tup [.str "down", .int n,.int t]
 | .found n w=>.tup [.str "found", .int n,opt w]
 | .put n w k=>.tup [.str "put", .int n,opt w,oN k]
 | .cut n w=>.tup [.str "cut", .int n,opt w]
 | .read n ps none=>.tup [.str "read", .int n,.tup (prD ps),.non,.non]
 | .read n ps (some (t,a))=>.tup [.str "read", .int n,.tup (prD ps),.int t,.int a]
 | .told n k=>.tup [.str "told", .int n,oN k]
 | .raised n t=>.tup [.str "raised", .int n,.int t]
section
variable (s f q:Nat) (d a g p n w e x:DV)
theorem Qa8:List.lookup ("shelf" : Str) (wkF s f q d a g p n w e)=some (.ref s):=by rfl
theorem qT:List.lookup ("deed" : Str) (wkF s f q d a g p n w e)=some d:=by rfl
theorem Yq:List.lookup ("aim" : Str) (wkF s f q d a g p n w e)=some a:=by rfl
theorem vJ:List.lookup ("goal" : Str) (wkF s f q d a g p n w e)=some g:=by rfl
theorem YQ:List.lookup ("place" : Str) (wkF s f q d a g p n w e)=some p:=by rfl
theorem U4:List.lookup ("forks" : Str) (wkF s f q d a g p n w e)=some (.ref f):=by rfl
theorem Gc:List.lookup ("new_page" : Str) (wkF s f q d a g p n w e)=some n:=by rfl
theorem YR:List.lookup ("worth" : Str) (wkF s f q d a g p n w e)=some w:=by rfl
theorem U5:List.lookup ("pairs" : Str) (wkF s f q d a g p n w e)=some (.ref q):=by rfl
theorem YO:List.lookup ("ended" : Str) (wkF s f q d a g p n w e)=some e:=by rfl
def Qey:(wkF s f q d a g p n w e).length=10:=rfl
theorem Qc2:List.lookup ("go_on" : Str) (wkF s f q d a g p n w e)=none:=by rfl
theorem Qgq:List.lookup ("do_deed" : Str) (wkF s f q d a g p n w e)=none:=by rfl
theorem Qgr:List.lookup ("tell_fork" : Str) (wkF s f q d a g p n w e)=none:=by rfl
theorem Qgs:List.lookup ("raise_root_over" : Str) (wkF s f q d a g p n w e)=none:=by rfl
theorem Qc3:List.lookup ("settle" : Str) (wkF s f q d a g p n w e)=none:=by rfl
theorem Qgt:List.lookup ("find_worth" : Str) (wkF s f q d a g p n w e)=none:=by rfl
theorem Qgu:List.lookup ("put_pair" : Str) (wkF s f q d a g p n w e)=none:=by rfl
theorem Qgv:List.lookup ("cut_key" : Str) (wkF s f q d a g p n w e)=none:=by rfl
theorem Qgw:List.lookup ("read_pairs" : Str) (wkF s f q d a g p n w e)=none:=by rfl
theorem kW:List.lookup ("step" : Str) (wkF s f q d a g p n w e)=none:=by rfl
theorem zc:List.lookup ("over" : Str) (wkF s f q d a g p n w e)=none:=by rfl
theorem yz:List.lookup ("answer" : Str) (wkF s f q d a g p n w e)=none:=by rfl
end
theorem Qdt (fs:List (Nat×Nat)) (k v:Nat):YG (fkD fs) (.inl (k:Int)) (.int v)=fkD (TR.zS fs k v):=by
 unfold YG TR.zS
 have e:((fkD fs).any fun kv=>decide (kv.1=(.inl (k:Int):Key)))=fs.any fun p=>decide (p.1=k):=by
  unfold fkD
  rw [List.any_map]
  congr 1
  funext p
  simp only [Function.comp]
  congr 1
  simp
  lia
 rw [e]
 by_cases h:(fs.any fun p=>decide (p.1=k))=true
 ·rw [C9 h,C9 h]
  unfold fkD
  rw [List.map_map,List.map_map]
  apply List.map_congr_left
  intro p _
  simp only [Function.comp]
  by_cases q:p.1=k
  ·simp [q]
  ·have:¬ ((p.1:Int)=(k:Int)):=by lia
   simp [q,this]
 ·rw [C8 h,C8 h]
  simp [fkD]
theorem Qdu (fs:List (Nat×Nat)) (k:Nat):J0 (fkD fs) (.inl (k:Int))=(TR.Jh fs k).map fun v=>.int v:=by
  induction fs with
  | nil=>rfl
  | cons p r ih =>
    rw [show fkD (p::r)=(.inl (p.1:Int),.int p.2)::fkD r from rfl,U3,ih]
    unfold TR.Jh
    rw [B8]
    by_cases q:p.1=k
    . simp [q]
    . have:¬ ((p.1:Int)=(k:Int)):=by lia
      simp [q,this]
def Qds (fs:List (Nat×Nat)):(fkD fs).length=fs.length:=Br _
section
variable {c f m:Str} {o e:DEx} {fa:DAx} {env:En} {U hp1 hp2:Hs} {a n:Nat} {fs:List (Str×DV)} {d v:DV} {ds:List DV} {F:Er}
theorem KN {α:Type} {k:Nat->List (Str×DV)->M α} (h:U[a]?=some (.ins c fs)):onI c (.ref a) k U=k a fs U:=by
 show (Ja a >>= _) U=_
 rw [Qh (ZX h)]
 show (Qz (decide (c=c)) >>= fun _=>k a fs) U=_
 rw [Ed rfl];rfl
theorem Jk (he:e env U=some (v,hp1)) (ho:o env hp1=some (.ref a,hp1)) (h:hp1[a]?=some (.ins c fs)) (hl:fs.length < 1000):Zf c f o e env U=some ((.nx,env),hp1.set a (.ins c (J9 f v fs))):=by
 unfold Zf
 rw [Qh he,Qh ho]
 unfold jQ
 have:onI c (.ref a) (fun n fs=>do Qz (decide (fs.length < 1000));xE n (.ins c (J9 f v fs))) hp1=some ((),hp1.set a (.ins c (J9 f v fs))):=by
  rw [KN h,Ed hl];rfl
 rw [Qh this];rfl
theorem Q8 (ho:o env U=some (.ref a,hp1)) (h:hp1[a]?=some (.ins c fs)) (hf:fs.lookup f=some d):QF c f o env U=some (d,hp1):=by
 unfold QF
 rw [Qh ho]
 unfold js
 rw [KN h,hf];rfl
theorem Q5 (ho:o env U=some (.ref a,U)) (h:U[a]?=some (.ins c fs)) (hm:fs.lookup m=none) (ha:fa env U=some (ds,hp1)) (hn:ds.length+1=n) (hF:F (.ref a::ds) hp1=some (d,hp2)):QD c m n F o fa env U=some (d,hp2):=by
 unfold QD
 rw [Qh ho]
 have:onI c (.ref a) (fun _ fs=>Qz (fs.lookup m).isNone) U=some ((),U):=by rw [KN h,hm];rfl
 rw [Qh this,Qh ha,Ed hn]
 show (Qz true >>= fun _=>F (.ref a::ds)) hp1=_
 exact hF
def Xg:Qo env U=some ([],U):=rfl
theorem JN (h:e env U=some (v,hp1)):Qd e Qo env U=some ([v],hp1):=by unfold Qd;rw [Qh h];rfl
theorem Z2 {e':DEx} (h:e env U=some (v,hp1)) (h':e' env hp1=some (v',hp2)):Qd e (Qd e' Qo) env U=some ([v,v'],hp2):=by
 have:=JN h'
 unfold Qd at this ⊢;rw [Qh h,Qh this];rfl
theorem Ji {e' e'':DEx} (h:e env U=some (v,hp1)) (h':e' env hp1=some (v',hp2)) (h'':e'' env hp2=some (v'',hp3)):Qd e (Qd e' (Qd e'' Qo)) env U=some ([v,v',v''],hp3):=by
 have:=Z2 h' h''
 unfold Qd at this ⊢;rw [Qh h,Qh this];rfl
theorem Qf {i:Nat} (h:env[i]?=some (.val d)):Qc i env U=some (d,U):=by unfold Qc;rw [h];rfl
theorem Q4 {k:Nat} (ha:fa env U=some (ds,hp1)) (hk:ds.length=k) (hF:F ds hp1=some (d,hp2)):Qt k F fa env U=some (d,hp2):=by
 unfold Qt;rw [Qh ha,Ed hk];exact hF
theorem Zo {c:DTx} {f g:DSx} (h:c env U=some (true,hp1)):sIf c f g env U=f env hp1:=by rw [QcB h];rfl
theorem QN {c:DTx} {f g:DSx} (h:c env U=some (false,hp1)):sIf c f g env U=g env hp1:=by rw [QcB h];rfl
def QP:Zc env U=some ((.nx,env),U):=rfl
end
theorem Qdm {o:DEx} {fa:DAx} {U:Hs} {a:Nat} {fs:List (Nat×Nat)} {j:Nat} (ho:o env U=some (.ref a,U)) (h:U[a]?=some (.dic (fkD fs))) (ha:fa env U=some ([.int (j:Int)],U)):Xn "dict" X4 o fa env U=some (oN (TR.Jh fs j),U):=by
 unfold Xn
 rw [Qh ho]
 have e2:XD "dict" (.ref a) U=some ((),U):=by
  show (Ja a >>= _) U=_
  rw [Qh (ZX h)];rfl
 rw [Qh e2,Qh ha]
 show (Ja a >>= _) U=_
 rw [Qh (ZX h)]
 show some (((J0 (fkD fs) (.inl (j:Int))).getD .non),U)=_
 rw [Qdu]
 cases TR.Jh fs j<;>rfl
theorem wl {s f q:Nat} {d a g p n w e:DV}:(wkF s f q d a g p n w e).length < 1000:=by rw [Qey];decide
theorem JZ {xs:List DV} {i:Nat} (h:xs[i]?=some d) (U:Hs):ixG (.tup xs) (.int i) U=some (d,U):=by
 show ixD (.tup xs) (.int i) U=_
 simp only [ixD,jc h];rfl
def Qcl (p:TR.Pg) (U:Hs):ixG (pgD p) (.int 0) U=some (.int p.lv,U):=JZ (i:=0) rfl U
def Qf0 (p:TR.Pg) (U:Hs):ixG (pgD p) (.int 1) U=some (.tup (p.ks.map .int),U):=JZ (i:=1) rfl U
def Qf1 (p:TR.Pg) (U:Hs):ixG (pgD p) (.int 2) U=some (.tup (p.ps.map .int),U):=JZ (i:=2) rfl U
def QfZ (p:TR.Pg) (U:Hs):ixG (pgD p) (.int 3) U=some (opt p.hi,U):=JZ (i:=3) rfl U
def Qcm (p:TR.Pg) (U:Hs):ixG (pgD p) (.int 4) U=some (oN p.sd,U):=JZ (i:=4) rfl U
theorem Qbu (d:TR.Deed) (U:Hs):ixG (Zy d) (.int 1) U=some (.int d.key,U):=by cases d<;>exact JZ (i:=1) rfl U
section
variable {e e' e'' e3 e4:DEx} {fa:DAx} {env:En} {U hp1 hp2 hp3 hp4 hp5:Hs} {v v' v'' v3 v4 d:DV} {ds:List DV}
theorem JL (ha:fa env U=some (ds,hp1)) (hs:ds.length<=100000):Zz fa env U=some (.tup ds,hp1):=by
 unfold Zz
 rw [Qh ha]
 have:Yo ds=true:=Ed hs
 rw [this];rfl
theorem Gh (h:e env U=some (v,hp1)) (h':e' env hp1=some (v',hp2)) (h'':e'' env hp2=some (v'',hp3)) (h3:e3 env hp3=some (v3,hp4)):Qd e (Qd e' (Qd e'' (Qd e3 Qo))) env U=some ([v,v',v'',v3],hp4):=by
 have:=Ji h' h'' h3
 unfold Qd at this ⊢;rw [Qh h,Qh this];rfl
theorem QeE (h:e env U=some (v,hp1)) (h':e' env hp1=some (v',hp2)) (h'':e'' env hp2=some (v'',hp3)) (h3:e3 env hp3=some (v3,hp4)) (h4:e4 env hp4=some (v4,hp5)):Qd e (Qd e' (Qd e'' (Qd e3 (Qd e4 Qo)))) env U=some ([v,v',v'',v3,v4],hp5):=by
 have:=Gh h' h'' h3 h4
 unfold Qd at this ⊢;rw [Qh h,Qh this];rfl
end
theorem Qak {t:DV->M Bool} {f:DV->M DV} {p:DV->Bool} (ds:List DV) (ht:∀ d∈ds,t d U=some (p d,U)) (hf:∀ d∈ds,f d U=some (d,U)) (hl:ds.length < 100000):JP (nxD ds) t f 100000 0 U=some (ds.filter p,U):=by
  suffices h:∀ (m i n:Nat),m+i=ds.length->m < n->JP (nxD ds) t f n i U=some ((ds.drop i).filter p,U) by simpa using h ds.length 0 100000 rfl hl
  intro m
  induction m with
  | zero =>
    intro i n e hn'
    obtain ⟨n,rfl⟩:∃ k,n=k+1:=⟨n - 1,by lia⟩
    have:i=ds.length:=by lia
    subst this
    have e1:=qN ds ds.length (Ae _) U
    rw [show ds[ds.length]?=none by simp] at e1
    rw [JP,Qh e1,List.drop_length]
    rfl
  | succ m ih =>
    intro i n e hn'
    obtain ⟨n,rfl⟩:∃ k,n=k+1:=⟨n - 1,by lia⟩
    have hlt:i < ds.length:=by lia
    have e1:=qN ds i (by lia) U
    rw [Ab hlt] at e1
    have hi:=ih (i+1) n (by lia) (by lia)
    rw [JP,Qh e1]
    simp only
    rw [Qh (ht ds[i] (B9 hlt)),Bi hlt]
    cases q:p ds[i] with
    | false=>rw [List.filter_cons_of_neg (by simp [q])];simpa using hi
    | true =>
      rw [List.filter_cons_of_pos q]
      simp only [if_true]
      rw [Qh (hf ds[i] (B9 hlt)),Qh hi]
      rfl
theorem kX:∀ (ks ps:List Int),jW (ks.map .int) (ps.map .int)=prD (ks.zip ps)
  | [],_=>by cases ‹List Int› <;> rfl
  | _::_,[]=>rfl
  | k::ks,p::ps=>by
    show .tup [.int k,.int p]::jW (ks.map .int) (ps.map .int)=_
    rw [kX ks ps];rfl
def Qd5 (l h:Int):DV->Bool
 | .tup [.int x,_]=>decide (l<=x)&&decide (x < h)
 | _=>false
theorem uK (l h:Int) (zs:Em):(prD zs).filter (Qd5 l h)=prD (zs.filter fun q=>decide (l<=q.1)&&decide (q.1 < h)):=by
 unfold prD
 rw [List.filter_map];rfl
theorem Qas {o:DEx} {fa:DAx} {U:Hs} {a b:Nat} {ds es:List DV} (ho:o env U=some (.ref a,U)) (h:U[a]?=some (.lst ds)) (ha:fa env U=some ([.ref b],U)) (hb:U[b]?=some (.lst es)) (hl:ds.length+es.length<=100000):Xn "list" jC o fa env U=some (.non,U.set a (.lst (ds++es))):=by
 unfold Xn
 rw [Qh ho]
 have e2:XD "list" (.ref a) U=some ((),U):=by
  show (Ja a >>= _) U=_
  rw [Qh (ZX h)];rfl
 rw [Qh e2,Qh ha]
 show (Ja a >>= _) U=_
 rw [Qh (ZX h)]
 show (Ja b >>= _) U=_
 rw [Qh (ZX hb)]
 show (Qz (decide (ds.length+es.length<=lim)) >>= fun _=>xE a (.lst (ds++es)) >>= fun _=>pure DV.non) U=_
 rw [show decide (ds.length+es.length<=lim)=true from Ed hl];rfl
def jI (zs:Em):(prD zs).length=zs.length:=Br _
theorem kD (zs ys:Em):prD zs++prD ys=prD (zs++ys):=by simp [prD]
theorem xy (o:Option Int):isD (opt o) .non=pure (.bl o.isNone):=by cases o<;>rfl
theorem uE (o:Option Int):Ud (opt o) .non=pure (.bl o.isSome):=by cases o<;>rfl
theorem Vk (o:Option Nat):isD (oN o) .non=pure (.bl o.isNone):=by cases o<;>rfl
theorem kr {x:Str} (h:PyData.strOk x=true):okP (.str x)=true:=by simp [okP,UO,toP,SeqAt.shaped,PyData.canLay0,PyData.depth,h]
theorem eqS {x y:Str} (U:Hs) (h1:PyData.strOk x=true) (h2:PyData.strOk y=true) {b:Bool} (h:(x==y)=b):eqG (.str x) (.str y) U=some (.bl b,U):=by
 unfold eqG
 have e:yj (.str x) (.str y) U=some (x==y,U):=by
  rw [gO (gI 39 U x) (gI 39 U y) (kr h1) (kr h2)];rfl
 rw [Qh e,h];rfl
section
variable {c c':DTx} {e e':DEx} {env:En} {U hp1:Hs} {b:Bool}
theorem Qbz (h:c env U=some (true,hp1)):eOr c c' env U=some (true,hp1):=by unfold eOr;rw [Qh h];rfl
theorem Ye (h:c env U=some (false,hp1)):eOr c c' env U=c' env hp1:=by unfold eOr;rw [Qh h];rfl
theorem ub (h:c env U=some (true,hp1)):Xm c c' env U=c' env hp1:=by unfold Xm;rw [Qh h];rfl
theorem yR (h:c env U=some (false,hp1)):Xm c c' env U=some (false,hp1):=by unfold Xm;rw [Qh h];rfl
theorem QgK (h:c env U=some (true,hp1)):eIf c e e' env U=e env hp1:=by unfold eIf;rw [Qh h];rfl
theorem QgJ (h:c env U=some (false,hp1)):eIf c e e' env U=e' env hp1:=by unfold eIf;rw [Qh h];rfl
end
theorem Vc {w:TR.Wk} {i:Nat} {k:Int} (h:w.O0=.find k):TR.ZO S w i p=(.found i (TR.QR p w.aim),S,{ w with O1:=TR.QR p w.aim,O7:=true }):=by
 cases w;simp only at h;subst h;rfl
theorem UK {w:TR.Wk} {i:Nat} {k x:Int} (h:w.O0=.put k x):TR.ZO S w i p=(.put i (TR.QR p w.aim) (TR.Qs S { w with O1:=TR.QR p w.aim } i (TR.QH p w.aim x)).1,(TR.Qs S { w with O1:=TR.QR p w.aim } i (TR.QH p w.aim x)).2.1,(TR.Qs S { w with O1:=TR.QR p w.aim } i (TR.QH p w.aim x)).2.2):=by
 cases w;simp only at h;subst h;rfl
theorem UJ {S:TR.Sh} {w:TR.Wk} {i:Nat} {k:Int} (h:w.O0=.cut k):TR.ZO S w i p=(.cut i (TR.QR p w.aim),if (TR.QR p w.aim).isSome=true then { S with pg:=S.pg.set i (TR.without p w.aim),wr:=S.wr+1 } else S,{ w with O1:=TR.QR p w.aim,O7:=true }):=by
 cases w;simp only at h;subst h;rfl
theorem QaC {w:TR.Wk} {i:Nat} {p:TR.Pg} {l h:Int} (e:w.O0=.stretch l h) (h1:p.hi=none):TR.ZO S w i p=(.read i (TR.QT p l h) none,S,{ w with O5:=w.O5++TR.QT p l h,O7:=true }):=by
 cases w;cases p;simp only at e h1;subst e h1;rfl
theorem QbT {w:TR.Wk} {i:Nat} {p:TR.Pg} {l h x:Int} {s:Nat} (e:w.O0=.stretch l h) (h1:p.hi=some x) (h2:p.sd=some s):TR.ZO S w i p=if h<=x then (.read i (TR.QT p l h) none,S,{ w with O5:=w.O5++TR.QT p l h,O7:=true }) else (.read i (TR.QT p l h) (some (s,x)),S,{ w with O5:=w.O5++TR.QT p l h,aim:=x,O6:=some s }):=by
 cases w;cases p;simp only at e h1 h2;subst e h1 h2;rfl
theorem Qgl {e o j:DEx} {U:Hs} {a l v:Nat} {fs:List (Nat×Nat)} (he:e env U=some (.int (v:Int),U)) (ho:o env U=some (.ref a,U)) (hj:j env U=some (.int (l:Int),U)) (h:U[a]?=some (.dic (fkD fs))) (hf:fs.length < 5000):Xe e (gSb o j) env U=some ((.nx,env),U.set a (.dic (fkD (TR.zS fs l v)))):=by
 refine yw he ?_
 unfold gSb
 rw [Qh ho,Qh hj]
 have:=jJ (d:=.int (v:Int)) h (show YE (.int (l:Int))=some (.inl (l:Int)) from rfl) (by rw [Qds];lia)
 rw [Qdt] at this
 rw [Qh this];rfl
section
variable {f g:DEx} {fa:DAx} {env:En} {U hp1 hp2:Hs} {d x y:DV} {ds:List DV} {F:Er}
theorem qA (h:fa env U=some (ds,hp1)) (hF:F ds hp1=some (d,hp2)):ZT F fa env U=some (d,hp2):=by unfold ZT;rw [Qh h];exact hF
def QbU (ds:List DV) (U:Hs):Yb [.lst ds] U=some (.int ds.length,U):=rfl
def QbW (ds:List DV) (U:Hs):QdH [.tup ds] U=some (.lst ds,U):=rfl
theorem neI (i j:Int) (U:Hs):neG (.int i) (.int j) U=some (.bl (!(i==j)),U):=by
 unfold neG;rw [Qh (GM i j U)];rfl
theorem Qg0 (i:Int) (U:Hs):neG (.int i) (.int i) U=some (.bl false,U):=by rw [neI];simp
theorem eqI (i j:Int) (U:Hs):eqG (.int i) (.int j) U=some (.bl (i==j),U):=by
 unfold eqG;rw [Qh (GM i j U)];rfl
end
theorem vZ {t:DV->M Bool} (ds:List DV) (ht:∀ d∈ds,t d U=some (false,U)) (hl:ds.length < 100000):JP (nxD ds) t f 100000 0 U=some ([],U):=by
  suffices h:∀ (m i n:Nat),m+i=ds.length->m < n->JP (nxD ds) t f n i U=some ([],U) from h ds.length 0 100000 rfl hl
  intro m
  induction m with
  | zero =>
    intro i n e hn'
    obtain ⟨n,rfl⟩:∃ k,n=k+1:=⟨n - 1,by lia⟩
    have:i=ds.length:=by lia
    subst this
    have e1:=qN ds ds.length (Ae _) U
    rw [show ds[ds.length]?=none by simp] at e1
    rw [JP,Qh e1];rfl
  | succ m ih =>
    intro i n e hn'
    obtain ⟨n,rfl⟩:∃ k,n=k+1:=⟨n - 1,by lia⟩
    have hlt:i < ds.length:=by lia
    have e1:=qN ds i (by lia) U
    rw [Ab hlt] at e1
    rw [JP,Qh e1]
    simp only
    rw [Qh (ht ds[i] (B9 hlt))]
    simpa using ih (i+1) n (by lia) (by lia)
theorem Qgx {f:DIx} (h:f env U=some (ds,hp1)):xOf f env U=some (nxD ds,hp1):=by unfold xOf;rw [Qh h];rfl
section
variable {c:DTx} {b:DSx} {n:Nat} {env env1:En} {U hp1 hp2:Hs}
end
def nD (r:List Nat):List DV:=r.map fun n:Nat=>DV.int (n:Int)
theorem qZ {n:Nat} {body:DSx} {ds:List DV} (h:body (ds.map .val++List.replicate (n - ds.length) .un) U=some ((.nx,env),hp1)):Q7 n body ds U=some (.non,hp1):=by
 unfold Q7
 rw [Qh h];rfl
theorem vc (f:Str) (d:DV):∀ fs:List (Str×DV),(J9 f d fs).length<=fs.length+1
  | []=>Ae _
  | (g,x)::r=>by
    unfold J9
    split
    . simp
    . simpa using vc f d r
def JT {f:Str} {fs:List (Str×DV)} {m:Nat} (h:fs.length<=m):(J9 f d fs).length<=m+1:=Bj (vc f d fs) (Nat.succ_le_succ h)
theorem QaZ (f g h:DSx) (env:En) (U:Hs):Qr f (Qr g h) env U=Qr (Qr f g) h env U:=by
  cases e:f env U with
  | none =>
    unfold Qr
    rw [ZF,ZF,ZF,e];rfl
  | some r =>
    obtain ⟨⟨fl,env1⟩,hp1⟩:=r
    cases fl with
    | nx =>
      have e2:Qr f g env U=g env1 hp1:=Qk e
      rw [Qk e]
      show (Qr g h env1) hp1=(Qr (Qr f g) h env) U
      unfold Qr at e2 ⊢
      rw [ZF,ZF,e2]
    | rt d=>rw [Q3 e,Q3 (Q3 e)]
    | bk =>
      have a:∀ k:DSx,Qr f k env U=some ((.bk,env1),hp1):=fun k=>by unfold Qr;rw [Qh e];rfl
      rw [a];unfold Qr at a ⊢;rw [Qh (a g)];rfl
    | ct =>
      have a:∀ k:DSx,Qr f k env U=some ((.ct,env1),hp1):=fun k=>by unfold Qr;rw [Qh e];rfl
      rw [a];unfold Qr at a ⊢;rw [Qh (a g)];rfl
section
variable {X:Cx} {e:Expr} {f:DEx} {pos:Pos}
def gL (T:String) (f:DEx):DEx:=fun env=>do
  let x <- f env
  match x with
  | .ref n=>do
    match <- Ja n with
    | .lst _=>pure (.bl (Uc "list" T))
    | _=>failure
  | x=>match VR x with
    | some t=>pure (.bl (Uc t T))
    | none=>failure
theorem Qe6 {T:String} (hT:T∈["int", "bool", "tuple", "str", "list"]):CallR X (.builtin "isinstance") (fun xs H Q=>(∃ ρ B d x t,xs=[x,.ty T]/\RepV X.K ρ B H d x/\VR d=some t/\Q (.bl (Uc t T)) H)∨∃ a ys,xs=[.ref a,.ty T]/\SqL X.K H a ys/\Q (.bl (Uc "list" T)) H):=by
 intro O9 s σ H xs us Q I r h
 rcases h with h | ⟨a,ys,rfl,sq,q⟩
 ·exact QeF hT O9 s σ H xs us Q I r h
 ·obtain ⟨u,w',rfl,ru,rw'⟩:=vG r
  cases rw'
  have fin:∀ tk,EP X O9 σ Q (.bool (Uc "list" T)) { s with toks:=tk }:=fun tk=>⟨.bl _,H,I.tok _,rfl,q⟩
  have kit:PySem.W.kitOne X.K (.type "list") (.type T)=some (Uc "list" T):=by
   simp only [Bk,Cf,or_false] at hT
   rcases hT with rfl | rfl | rfl | rfl | rfl<;>first | rfl | decide | with_unfolding_all rfl | kernel_rfl
  cases ru
  obtain ⟨its,_,⟨o,k,e1,e2,_⟩,_⟩:=I.list sq
  exact PySem.W.kia_one PySem.W.kitx_list I.kIn ⟨o,e1,e2⟩ kit (fun z=>nomatch z) fin
theorem Qdj {T:String} {p p':Pos} (hm:X.mg "isinstance" = none) (hm':X.mg (Str.ofString T)=none) (hv:bootBuiltins (Str.ofString T)=some (.type T)) (hT:T∈["int", "bool", "tuple", "str", "list"]) (h:DE X e f) (hg:Gl X "isinstance" := by rfl) (hg':Gl X (Str.ofString T):=by rfl)
    (hn:Str.ofString T ≠ "__name__" := by decide) (hdb:(Str.ofString T==("__debug__" : Str))=false:=by decide) (hs:starEach [e,.Name (Str.ofString T) p'] X.env=(false,eval e X.env)::starEach [.Name (Str.ofString T) p'] X.env:=by rfl)
    (hs2:starEach [.Name (Str.ofString T) p'] X.env=(false,eval (.Name (Str.ofString T) p') X.env)::starEach [] X.env:=by rfl) (hpl:(backTo pos (starEach [.Name (Str.ofString T) p'] X.env)).any (·.1)=false:=by rfl):DE X (.Call (.Name "isinstance" p) [e,.Name (Str.ofString T) p'] [] pos) (gL T f) :=
  L2.PE.imp (Vo (Qe6 hT) hg hm boot_isinstance (Y3 h (Y3 (kz (v:=.ty T) hg' hm' hv rfl hn hdb) pa_nil hs2) hs) (by decide) (by decide) hs hpl) fun σ H Q zz1=>by
    obtain ⟨Z,env,ρ,B,U,d,hp',S,e,k⟩:=zz1
    obtain ⟨x,hp1,e1,e2⟩:=Qe e
    refine tD.run S e1 fun v ρ1 B1 H1 g1 S1 r1=>?_
    cases x with
    | ref n =>
      obtain ⟨o,hp2,e3,e4⟩:=Qe e2
      obtain ⟨e5,rfl⟩:=ZI e3
      cases o with
      | lst zs =>
        obtain ⟨rfl,rfl⟩:=Qi e4
        obtain ⟨a,rfl,_,ys,h1,l1⟩:=RepV.refW S1.wo r1 e5
        exact .inr ⟨a,ys,rfl,SqL.of h1,k _ ρ1 B1 H1 g1 S1.wo Jf⟩
      | dic _=>cases e4
      | ins _ _=>cases e4
    | non=>obtain ⟨rfl,rfl⟩:=Qi e2;exact .inl ⟨ρ1,B1,_,v,_,rfl,r1,rfl,k _ ρ1 B1 H1 g1 S1.wo Jf⟩
    | bl _=>obtain ⟨rfl,rfl⟩:=Qi e2;exact .inl ⟨ρ1,B1,_,v,_,rfl,r1,rfl,k _ ρ1 B1 H1 g1 S1.wo Jf⟩
    | int _=>obtain ⟨rfl,rfl⟩:=Qi e2;exact .inl ⟨ρ1,B1,_,v,_,rfl,r1,rfl,k _ ρ1 B1 H1 g1 S1.wo Jf⟩
    | str _=>obtain ⟨rfl,rfl⟩:=Qi e2;exact .inl ⟨ρ1,B1,_,v,_,rfl,r1,rfl,k _ ρ1 B1 H1 g1 S1.wo Jf⟩
    | tup _=>obtain ⟨rfl,rfl⟩:=Qi e2;exact .inl ⟨ρ1,B1,_,v,_,rfl,r1,rfl,k _ ρ1 B1 H1 g1 S1.wo Jf⟩
    | lst _=>obtain ⟨rfl,rfl⟩:=Qi e2;exact .inl ⟨ρ1,B1,_,v,_,rfl,r1,rfl,k _ ρ1 B1 H1 g1 S1.wo Jf⟩
end
def Pl:Nat->DV->Prop
 | _,.non=>True
 | _,.bl _=>True
 | _,.int _=>True
 | _,.str x=>PyData.strOk x=true
 | n+1,.tup ds=>∀ d∈ds,Pl n d
 | n+1,.lst ds=>∀ d∈ds,Pl n d
 | _,_=>False
theorem Ko:∀ (n:Nat) (d:DV) (k:Nat) (U:Hs),Pl n d->drf (n+k+1) U d=some d
  | n,.non,k,U,_=>rfl
  | n,.bl _,k,U,_=>rfl
  | n,.int _,k,U,_=>rfl
  | n,.str _,k,U,_=>rfl
  | 0,.tup ds,k,U,h=>h.elim
  | 0,.lst ds,k,U,h=>h.elim
  | 0,.ref _,k,U,h=>h.elim
  | n+1,.ref _,k,U,h=>h.elim
  | n+1,.tup ds,k,U,h=>by
    show (ds.mapM (drf (n+1+k) U)).map DV.tup=_
    rw [qV fun d hd=>(by rw [Nat.add_right_comm];exact Ko n d k U (h d hd))];rfl
  | n+1,.lst ds,k,U,h=>by
    show (ds.mapM (drf (n+1+k) U)).map DV.lst=_
    rw [qV fun d hd=>(by rw [Nat.add_right_comm];exact Ko n d k U (h d hd))];rfl
theorem KF:∀ (ds:List DV),(∀ d∈ds,(toP d).canLay0=true)->PyData.canLayAll0 (toPs ds)=true
 | [],_=>by unfold toPs PyData.canLayAll0;rfl
 | d::ds,h=>by unfold toPs PyData.canLayAll0;rw [h d (by simp),KF ds fun x hx=>h x (Ax _ hx)];rfl
theorem Va:∀ (n:Nat) (d:DV),Pl n d->(toP d).canLay0=true
 | n,.non,_=>by unfold toP PyData.canLay0;rfl
 | n,.bl _,_=>by unfold toP PyData.canLay0;rfl
 | n,.int _,_=>by unfold toP PyData.canLay0;rfl
 | n,.str x,h=>by cases n<;>(unfold toP PyData.canLay0;exact h)
 | 0,.tup ds,h=>h.elim
 | 0,.lst ds,h=>h.elim
 | 0,.ref _,h=>h.elim
 | n+1,.ref _,h=>h.elim
 | n+1,.tup ds,h=>by unfold toP PyData.canLay0;exact KF ds fun d hd=>Va n d (h d hd)
 | n+1,.lst ds,h=>by unfold toP PyData.canLay0;exact KF ds fun d hd=>Va n d (h d hd)
theorem xb (n:Nat):∀ (ds:List DV),(∀ d∈ds,(toP d).depth<=n)->PyData.depthAll (toPs ds)<=n
 | [],_=>by unfold toPs PyData.depthAll;exact Be _
 | d::ds,h=>by unfold toPs PyData.depthAll;exact Nat.max_le.mpr ⟨h d (by simp),xb n ds fun x hx=>h x (Ax _ hx)⟩
theorem yN:∀ (n:Nat) (d:DV),Pl n d->(toP d).depth<=n
 | n,.non,_=>by unfold toP PyData.depth;exact Be _
 | n,.bl _,_=>by unfold toP PyData.depth;exact Be _
 | n,.int _,_=>by unfold toP PyData.depth;exact Be _
 | n,.str x,h=>by unfold toP PyData.depth;exact Be _
 | 0,.tup ds,h=>h.elim
 | 0,.lst ds,h=>h.elim
 | 0,.ref _,h=>h.elim
 | n+1,.ref _,h=>h.elim
 | n+1,.tup ds,h=>by unfold toP PyData.depth;exact Nat.succ_le_succ (xb n ds fun d hd=>yN n d (h d hd))
 | n+1,.lst ds,h=>by unfold toP PyData.depth;exact Nat.succ_le_succ (xb n ds fun d hd=>yN n d (h d hd))
theorem xG {n:Nat} (h:Pl n d) (hn:n<=64):SeqAt.shaped (toP d)=true:=by
 unfold SeqAt.shaped;rw [Va n d h,Ed (Bj (yN n d h) hn)];rfl
theorem yP {n:Nat} (h:Pl n d) (hn:n < 40) (U:Hs):drf 40 U d=some d:=by
 have:=Ko n d (39 - n) U h
 rwa [show n+(39 - n)+1=40 by lia] at this
theorem Qf5 (n:Nat) (i:Int):Pl n (.int i):=by cases n<;>trivial
theorem Qhh (n:Nat) (b:Bool):Pl n (.bl b):=by cases n<;>trivial
def Qf6 {n:Nat} (h:∀ d∈ds,Pl n d):Pl (n+1) (.lst ds):=h
theorem Qaq {n m:Nat} (h:Pl n x) (h':Pl m y) (hn:n < 40) (hm:m < 40) (U:Hs):yj x y U=some (PyData.eqv (toP x) (toP y),U):=by
 unfold yj v9
 show ((Option.map _ (drf 40 U x)).bind _)=_
 rw [yP h hn]
 show ((Option.map _ (drf 40 U y)).bind _)=_
 rw [yP h' hm]
 show (Qz (SeqAt.shaped (toP x)&&SeqAt.shaped (toP y)) >>= fun _=>pure (PyData.eqv (toP x) (toP y)):M Bool) U=_
 rw [xG h (by lia),xG h' (by lia)]
 rfl
theorem Qar {n:Nat} (h:Pl n x) (hn:n < 40) (U:Hs):yj x x U=some (true,U):=by
 rw [Qaq h h hn hn,SeqAt.eqv_refl _ (Va n x h)]
theorem Vj {n:Nat} (h:Pl n x) (hn:n < 40) (U:Hs):neG x x U=some (.bl false,U):=by
 unfold neG;rw [Qh (Qar h hn U)];rfl
theorem Uy {a:Nat} {n:Nat} {U:Hs} (ha:U[a]?=some (.lst ds)) (h:∀ d∈ds,Pl n d) (hn:n < 38):yj (.ref a) (.lst ds) U=some (true,U):=by
 have hl:Pl (n+1) (.lst ds):=h
 have e:drf 40 U (.ref a)=some (.lst ds):=by
  show (match U[a]? with | some (.lst ds)=>(ds.mapM (drf 39 U)).map DV.lst | _=>none)=_
  rw [ha]
  show (ds.mapM (drf 39 U)).map DV.lst=_
  rw [qV fun d hd=>(by have:=Ko n d (38 - n) U (h d hd);rwa [show n+(38 - n)+1=39 by lia] at this)];rfl
 unfold yj v9
 show ((Option.map _ (drf 40 U (.ref a))).bind _)=_
 rw [e]
 show ((Option.map _ (drf 40 U (.lst ds))).bind _)=_
 rw [yP hl (by lia)]
 show (Qz (SeqAt.shaped (toP (.lst ds))&&SeqAt.shaped (toP (.lst ds))) >>= fun _=>pure (PyData.eqv (toP (.lst ds)) (toP (.lst ds))):M Bool) U=_
 rw [xG hl (by lia),SeqAt.eqv_refl _ (Va _ _ hl)]
 rfl
theorem QbA {a:Nat} {n:Nat} {U:Hs} (ha:U[a]?=some (.lst ds)) (h:∀ d∈ds,Pl n d) (hn:n < 38):eqG (.ref a) (.lst ds) U=some (.bl true,U):=by
 unfold eqG;rw [Qh (Uy ha h hn)];rfl
theorem Qb5 {a:Nat} {n:Nat} {U:Hs} (ha:U[a]?=some (.lst ds)) (h:∀ d∈ds,Pl n d) (hn:n < 38):neG (.ref a) (.lst ds) U=some (.bl false,U):=by
 unfold neG;rw [Qh (Uy ha h hn)];rfl
def gx {α:Type} {m:M α} {x:α} (h:∀ U,m U=some (x,U)):m=pure x:=funext h
section
variable {env:En} {U hp1 hp2 hp3 hp4 hp5 hp6 hp7:Hs} {e e' e'' e3 e4 e5 e6:DEx} {v v' v'' v3 v4 v5 v6:DV}
theorem Qbp {o:DEx} {a:Nat} (ho:o env U=some (.ref a,U)) (h:U[a]?=some (.lst ds)):Xn "list" KJ o Qo env U=some (.non,U.set a (.lst [])):=by
 unfold Xn
 rw [Qh ho]
 have e2:XD "list" (.ref a) U=some ((),U):=by
  show (Ja a >>= _) U=_
  rw [Qh (ZX h)];rfl
 rw [Qh e2,Qh (rfl:Qo env U=some ([],U))]
 show (Ja a >>= _) U=_
 rw [Qh (ZX h)];rfl
theorem QdA {f:DEx} {a:Nat} (h:f env U=some (.ref a,hp1)) (h':hp1[a]?=some (.lst ds)):gL "list" f env U=some (.bl true,hp1):=by
 unfold gL;rw [Qh h]
 show (Ja a >>= _) hp1=_
 rw [Qh (ZX h')];rfl
end
section
variable {env:En} {U hp1 hp2 hp3:Hs} {f g h:DEx} {ds:List DV} {d:DV}
def Jw {i:Nat} (hf:f env U=some (.tup ds,U)) (hg:g env U=some (.int (i:Int),U)) (hd:ds[i]?=some d):Qj ixG f g env U=some (d,U):=Ql hf hg (JZ hd U)
end
end D
namespace TR
def prs (p:Pg):List (Int×Int):=p.ks.zip p.ps
theorem mem_zip_iff {xs ys:List Int} {a b:Int}:(a,b)∈xs.zip ys↔∃ i:Nat,xs[i]?=some a/\ys[i]?=some b:=by
 rw [Bw]
 constructor
 ·rintro ⟨i,h⟩
  have:=List.getElem?_zip_eq_some.mp h
  exact ⟨i,this.1,this.2⟩
 ·rintro ⟨i,h1,h2⟩
  exact ⟨i,List.getElem?_zip_eq_some.mpr ⟨h1,h2⟩⟩
def V1 (a b:List Int) (n:Nat):(a.zip b).take n=(a.take n).zip (b.take n):=List.take_zipWith
def V0 (a b:List Int) (n:Nat):(a.zip b).drop n=(a.drop n).zip (b.drop n):=List.drop_zipWith
theorem uw {ks:List Int} (h:ks.Pairwise (· < ·)) {i:Nat} {a k:Int} (ha:ks[i]?=some a):i < cLt ks k↔a < k:=by
 obtain ⟨h1,h2⟩:=Y8 h k
 constructor
 ·intro hi
  have:a∈ks.take (cLt ks k):=Bw.mpr ⟨i,by rw [List.getElem?_take,C9 hi];exact ha⟩
  rw [h1] at this
  simpa using (Bm.mp this).2
 ·intro hl
  refine Nat.lt_of_not_le fun hi=>?_
  have:a∈ks.drop (cLt ks k):=Bw.mpr ⟨i - cLt ks k,by rw [Cc,show cLt ks k+(i - cLt ks k)=i by lia];exact ha⟩
  rw [h2] at this
  have:k<=a:=by simpa using (Bm.mp this).2
  lia
theorem Vd {ks:List Int} (h:ks.Pairwise (· < ·)) {i:Nat} {a k:Int} (ha:ks[i]?=some a):i < cLe ks k↔a<=k:=by
 obtain ⟨h1,h2⟩:=Yp h k
 constructor
 ·intro hi
  have:a∈ks.take (cLe ks k):=Bw.mpr ⟨i,by rw [List.getElem?_take,C9 hi];exact ha⟩
  rw [h1] at this
  simpa using (Bm.mp this).2
 ·intro hl
  refine Nat.lt_of_not_le fun hi=>?_
  have:a∈ks.drop (cLe ks k):=Bw.mpr ⟨i - cLe ks k,by rw [Cc,show cLe ks k+(i - cLe ks k)=i by lia];exact ha⟩
  rw [h2] at this
  have:k < a:=by simpa using (Bm.mp this).2
  lia
theorem Qbh {ks:List Int} (h:ks.Pairwise (· < ·)) {i:Nat} {k:Int} (hi:ks[i]?=some k):cLt ks k=i/\cLe ks k=i+1:=by
 have a:=not_congr (uw (k:=k) h hi)
 have b:=(Vd (k:=k) h hi).mpr (Bo _)
 have c:=Qbl h k
 have d:=a.mpr (by lia)
 lia
theorem Qa9 {p:Pg} (h:p.ks.Pairwise (· < ·)) {k v:Int}:QR p k=some v↔(k,v)∈prs p:=by
 unfold QR prs
 rw [mem_zip_iff]
 constructor
 ·intro e
  by_cases q:cLt p.ks k=cLe p.ks k
  ·rw [C9 q] at e;cases e
  ·rw [C8 q] at e
   have hk:k∈p.ks:=Classical.byContradiction fun z=>q (Qbm z)
   obtain ⟨i,hi⟩:=Bw.mp hk
   have:=(Qbh h hi).1
   exact ⟨i,hi,by rw [<- this];exact e⟩
 ·rintro ⟨i,hi,hv⟩
  obtain ⟨a,b⟩:=Qbh h hi
  rw [C8 (by lia),a];exact hv
theorem KR {p:Pg} {k v:Int} (h:(k,v)∈prs p):k∈p.ks:=by
 obtain ⟨i,h1,_⟩:=mem_zip_iff.mp h
 exact Aw h1
theorem Gb {p:Pg} (h:p.ks.Pairwise (· < ·)) (hl:p.ps.length=p.ks.length) (k x:Int):prs (QH p k x)=(prs p).take (cLt p.ks k)++(k,x)::(prs p).drop (cLe p.ks k):=by
 unfold QH prs
 rw [List.zip_append (by rw [A9,A9,hl]),List.zip_cons_cons,V1,V0]
theorem vI {p:Pg} (h:p.ks.Pairwise (· < ·)) (hl:p.ps.length=p.ks.length) (k:Int):prs (without p k)=(prs p).take (cLt p.ks k)++(prs p).drop (cLe p.ks k):=by
 unfold without prs
 rw [List.zip_append (by rw [A9,A9,hl]),V1,V0]
theorem UP {p:Pg} (h:p.ks.Pairwise (· < ·)) (k:Int) {a b:Int}:((a,b)∈(prs p).take (cLt p.ks k)∨(a,b)∈(prs p).drop (cLe p.ks k))↔a≠k/\(a,b)∈prs p:=by
 have ix:∀ {i:Nat},(prs p)[i]?=some (a,b)->p.ks[i]?=some a:=fun e=>(List.getElem?_zip_eq_some.mp e).1
 constructor
 ·rintro (m | m)
  ·obtain ⟨i,hi⟩:=Bw.mp m
   rw [List.getElem?_take] at hi
   by_cases q:i < cLt p.ks k
   ·rw [C9 q] at hi
    have:=(uw h (ix hi)).mp q
    exact ⟨by lia,Aw hi⟩
   ·rw [C8 q] at hi;cases hi
  ·obtain ⟨i,hi⟩:=Bw.mp m
   rw [Cc] at hi
   have:=(not_congr (Vd (k:=k) h (ix hi))).mp (by lia)
   exact ⟨by lia,Aw hi⟩
 ·rintro ⟨ne,m⟩
  obtain ⟨i,hi⟩:=Bw.mp m
  rcases Int.lt_or_gt_of_ne ne with l | l
  ·have:=(uw h (ix hi)).mpr l
   exact .inl (Bw.mpr ⟨i,by rw [List.getElem?_take,C9 this];exact hi⟩)
  ·have:=(not_congr (Vd (k:=k) h (ix hi))).mpr (by lia)
   exact .inr (Bw.mpr ⟨i - cLe p.ks k,by rw [Cc,show cLe p.ks k+(i - cLe p.ks k)=i by lia];exact hi⟩)
theorem Ga {p:Pg} (h:p.ks.Pairwise (· < ·)) (hl:p.ps.length=p.ks.length) (k x:Int) {a b:Int}:(a,b)∈prs (QH p k x)↔(a=k/\b=x)∨(a≠k/\(a,b)∈prs p):=by
 rw [Gb h hl,Ai,Bk,<- UP h k]
 constructor
 ·rintro (m | m | m)
  ·exact .inr (.inl m)
  ·cases m;exact .inl ⟨rfl,rfl⟩
  ·exact .inr (.inr m)
 ·rintro (⟨rfl,rfl⟩ | m | m)
  ·exact .inr (.inl rfl)
  ·exact .inl m
  ·exact .inr (.inr m)
theorem vH {p:Pg} (h:p.ks.Pairwise (· < ·)) (hl:p.ps.length=p.ks.length) (k:Int) {a b:Int}:(a,b)∈prs (without p k)↔a≠k/\(a,b)∈prs p:=by
 rw [vI h hl,Ai,<- UP h k]
theorem uh {P:Pg} (hz:P.lv=0) (n:Nat):prs (QS P n)++prs (QC P)=prs P:=by
 have hc:Zj P=mid P:=by unfold Zj;rw [C9 hz]
 unfold prs QS QC
 rw [hc]
 show (P.ks.take (mid P)).zip (P.ps.take (mid P))++(P.ks.drop (mid P)).zip (P.ps.drop (mid P))=P.ks.zip P.ps
 rw [<- V1,<- V0,B0]
def Lf (S:Sh) (k v:Int):Prop:=∃ (n:Nat) (p:Pg),S.pg[n]?=some p/\p.lv=0/\(k,v)∈prs p
def TabIs (S:Sh) (F:Es):Prop:=∀ k v,F k=some v↔Lf S k v
def vC (F:Es) (k x:Int):Int->Option Int:=fun j=>if j=k then some x else F j
def xH (F:Es) (k:Int):Int->Option Int:=fun j=>if j=k then none else F j
def Lo (S:Sh) (n:Nat) (k v:Int):Prop:=∃ (m:Nat) (p:Pg),m≠n/\S.pg[m]?=some p/\p.lv=0/\(k,v)∈prs p
section
variable {S:Sh} {bg:Bg} {n:Nat} {p P:Pg} {k v:Int} {F:Es}
theorem Tree.len0 (T:Tree S bg) (hn:S.pg[n]?=some p) (hz:p.lv=0):p.ps.length=p.ks.length:=by
 have:=(T.page n p hn).parts;rw [C9 hz] at this;exact this
theorem Lf.split (hn:S.pg[n]?=some p) (hz:p.lv=0):Lf S k v↔Lo S n k v∨(k,v)∈prs p:=by
 constructor
 ·rintro ⟨m,q,h1,h2,h3⟩
  by_cases e:m=n
  ·subst e;rw [hn] at h1;cases h1;exact .inr h3
  ·exact .inl ⟨m,q,e,h1,h2,h3⟩
 ·rintro (⟨m,q,_,h1,h2,h3⟩ | h)
  ·exact ⟨m,q,h1,h2,h3⟩
  ·exact ⟨n,p,hn,hz,h⟩
theorem Tree.lo_none (T:Tree S bg) (hn:S.pg[n]?=some p) (hz:p.lv=0) (h1:leB (bg n) k) (h2:ltH k p.hi):¬ Lo S n k v:=by
 rintro ⟨m,q,e,hm,hq,h3⟩
 have ok:=T.page m q hm
 have hk:=KR h3
 rcases T.dis n m p q hn hm (by lia) (fun x=>e x.symm) with ⟨h,u,a,b,c⟩ | ⟨h,u,a,b,c⟩
 ·have:=h2 h a;have:=ok.low k hk u b;lia
 ·have:=h1 u b;have:=ok.high k hk h a;lia
theorem Tree.tab_worth (T:Tree S bg) (hT:TabIs S F) (hn:S.pg[n]?=some p) (hz:p.lv=0) (h1:leB (bg n) k) (h2:ltH k p.hi):QR p k=F k:=by
  have so:=(T.page n p hn).sorted
  have key:∀ v,QR p k=some v↔F k=some v:=fun v=>by
    rw [Qa9 so,hT k v,Lf.split hn hz]
    exact ⟨.inr,fun h=>h.elim (fun h=>absurd h (T.lo_none hn hz h1 h2)) id⟩
  cases e:F k with
  | some v=>exact (key v).mpr e
  | none =>
    cases e':QR p k with
    | none=>rfl
    | some v=>rw [(key v).mp e'] at e;cases e
theorem Qa1 {w:Wk} (hn:S.pg[n]?=some p) (hz:p.lv=0) (hl:P.lv=p.lv) (k v:Int):Lf (Qs S w n P).2.1 k v↔Lo S n k v∨(k,v)∈prs P:=by
 have ln:=Zi hn
 unfold Qs
 by_cases hr:P.ks.length<=S.O2
 ·rw [C9 hr]
  constructor
  ·rintro ⟨m,q,h1,h2,h3⟩
   rcases Jy h1 with ⟨rfl,rfl,_⟩ | ⟨e,h⟩
   ·exact .inr h3
   ·exact .inl ⟨m,q,e,h,h2,h3⟩
  ·rintro (⟨m,q,e,h1,h2,h3⟩ | h)
   ·exact ⟨m,q,by show (S.pg.set n P)[m]?=_;rw [Am (fun x=>e x.symm)];exact h1,h2,h3⟩
   ·exact ⟨n,P,by show (S.pg.set n P)[n]?=_;rw [Au ln],by lia,h⟩
 ·rw [C8 hr]
  have hv:=uh (P:=P) (by lia) S.pg.length
  constructor
  ·rintro ⟨m,q,h1,h2,h3⟩
   rcases Jy (xs:=S.pg++[QC P]) h1 with ⟨rfl,rfl,_⟩ | ⟨e,h⟩
   ·exact .inr (by rw [<- hv];exact A7 _ h3)
   ·rcases Jd h with ⟨rfl,rfl⟩ | h
    ·exact .inr (by rw [<- hv];exact Aj _ h3)
    ·exact .inl ⟨m,q,e,h,h2,h3⟩
  ·rintro (⟨m,q,e,h1,h2,h3⟩ | h)
   ·exact ⟨m,q,by show ((S.pg++[QC P]).set n (QS P S.pg.length))[m]?=_;rw [Am (fun x=>e x.symm)];exact JD h1,h2,h3⟩
   ·rw [<- hv] at h
    rcases Ai.mp h with h | h
    ·exact ⟨n,QS P S.pg.length,by show ((S.pg++[QC P]).set n (QS P S.pg.length))[n]?=_;rw [Au (by simp;lia)],by show P.lv=0;lia,h⟩
    ·exact ⟨S.pg.length,QC P,by show ((S.pg++[QC P]).set n (QS P S.pg.length))[S.pg.length]?=_;rw [Am (by lia)];simp,by show P.lv=0;lia,h⟩
theorem Qa0 {w:Wk} (hn:S.pg[n]?=some p) (hz:0 < p.lv) (hl:P.lv=p.lv) (k v:Int):Lf (Qs S w n P).2.1 k v↔Lf S k v:=by
 have ln:=Zi hn
 unfold Qs
 by_cases hr:P.ks.length<=S.O2
 ·rw [C9 hr]
  constructor
  ·rintro ⟨m,q,h1,h2,h3⟩
   rcases Jy h1 with ⟨rfl,rfl,_⟩ | ⟨e,h⟩
   ·lia
   ·exact ⟨m,q,h,h2,h3⟩
  ·rintro ⟨m,q,h1,h2,h3⟩
   have e:m≠n:=fun e=>by subst e;rw [hn] at h1;cases h1;lia
   exact ⟨m,q,by show (S.pg.set n P)[m]?=_;rw [Am (fun x=>e x.symm)];exact h1,h2,h3⟩
 ·rw [C8 hr]
  constructor
  ·rintro ⟨m,q,h1,h2,h3⟩
   rcases Jy (xs:=S.pg++[QC P]) h1 with ⟨rfl,rfl,_⟩ | ⟨e,h⟩
   ·have:P.lv=0:=h2
    lia
   ·rcases Jd h with ⟨rfl,rfl⟩ | h
    ·have:P.lv=0:=h2
     lia
    ·exact ⟨m,q,h,h2,h3⟩
  ·rintro ⟨m,q,h1,h2,h3⟩
   have e:m≠n:=fun e=>by subst e;rw [hn] at h1;cases h1;lia
   exact ⟨m,q,by show ((S.pg++[QC P]).set n (QS P S.pg.length))[m]?=_;rw [Am (fun x=>e x.symm)];exact JD h1,h2,h3⟩
theorem Tree.tab_put (T:Tree S bg) (hT:TabIs S F) (hn:S.pg[n]?=some p) (hz:p.lv=0) (h1:leB (bg n) k) (h2:ltH k p.hi) {x:Int} (hS:∀ a b,Lf S' a b↔Lo S n a b∨(a,b)∈prs (QH p k x)):TabIs S' (vC F k x):=fun a b=>by
 have so:=(T.page n p hn).sorted
 rw [hS,Ga so (T.len0 hn hz)]
 unfold vC
 by_cases e:a=k
 ·subst e
  rw [C9 rfl]
  constructor
  ·intro h;cases h;exact .inr (.inl ⟨rfl,rfl⟩)
  ·rintro (h | ⟨_,rfl⟩ | ⟨h,_⟩)
   ·exact absurd h (T.lo_none hn hz h1 h2)
   ·rfl
   ·exact absurd rfl h
 ·rw [C8 e,hT,Lf.split hn hz]
  constructor
  ·rintro (h | h)
   ·exact .inl h
   ·exact .inr (.inr ⟨e,h⟩)
  ·rintro (h | ⟨h,_⟩ | ⟨_,h⟩)
   ·exact .inl h
   ·exact absurd h e
   ·exact .inr h
theorem Tree.tab_cut (T:Tree S bg) (hT:TabIs S F) (hn:S.pg[n]?=some p) (hz:p.lv=0) (h1:leB (bg n) k) (h2:ltH k p.hi) (hS:∀ a b,Lf S' a b↔Lo S n a b∨(a,b)∈prs (without p k)):TabIs S' (xH F k):=fun a b=>by
 have so:=(T.page n p hn).sorted
 rw [hS,vH so (T.len0 hn hz)]
 unfold xH
 by_cases e:a=k
 ·subst e
  rw [C9 rfl]
  constructor
  ·intro h;cases h
  ·rintro (h | ⟨h,_⟩)
   ·exact absurd h (T.lo_none hn hz h1 h2)
   ·exact absurd rfl h
 ·rw [C8 e,hT,Lf.split hn hz]
  exact ⟨fun h=>h.imp id fun h=>⟨e,h⟩,fun h=>h.imp id And.right⟩
theorem TabIs.same {S':Sh} (hT:TabIs S F) (h:S'.pg=S.pg):TabIs S' F:=fun k v=>by
 rw [hT k v];unfold Lf;rw [h]
end
def Aim (S:Sh) (bg:Bg) (w:Wk):Prop:=w.O4=0->match w.O0 with
 | .stretch l h=>l < h/\(w.aim=l∨∃ (s:Nat) (p:Pg),w.O6=some s/\S.pg[s]?=some p/\p.lv=0/\bg s=some w.aim/\l < w.aim/\w.aim < h)
 | .find k=>w.aim=k
 | .put k _=>w.aim=k
 | .cut k=>w.aim=k
theorem Aim.grow {w:Wk} (A:Aim S bg w) (g:Grow S bg S' bg'):Aim S' bg' w:=fun h0=>by
  have a:=A h0
  cases hd:w.O0 with
  | find k=>rw [hd] at a;exact a
  | put k x=>rw [hd] at a;exact a
  | cut k=>rw [hd] at a;exact a
  | stretch l h =>
    rw [hd] at a
    obtain ⟨a1,a2⟩:=a
    refine ⟨a1,a2.imp id ?_⟩
    rintro ⟨s,p,b1,b2,b0,b3,b4⟩
    obtain ⟨e,p',e1,e2⟩:=g.old s p b2
    exact ⟨s,p',b1,e1,e2.trans b0,by rw [e];exact b3,b4⟩
def Rds (F:Es) (a e:Int) (ps:Em):Prop:=ps.Pairwise (fun x y=>x.1 < y.1)/\∀ k v,(k,v)∈ps↔F k=some v/\a<=k/\k < e
def Did (F F':Es) (w w':Wk):Row->Prop
  | .non=>False
  | .found _ x=>∃ k,w.O0=.find k/\x=F k/\F'=F/\w'.O1=F k/\w'.O5=w.O5/\w'.O7=true
  | .put _ x t=>∃ k y,w.O0=.put k y/\x=F k/\F'=vC F k y/\w'.O1=F k/\w'.O5=w.O5/\w'.O7=t.isNone/\(w'.O7=false->0 < w'.O4)
  | .cut _ x=>∃ k,w.O0=.cut k/\x=F k/\F'=xH F k/\w'.O1=F k/\w'.O5=w.O5/\w'.O7=true
  | .read _ ps t=>∃ l h,w.O0=.stretch l h/\F'=F/\w'.O5=w.O5++ps/\w'.O1=w.O1/\match t with
    | none=>Rds F w.aim h ps/\w'.O7=true
    | some (_,x)=>w.aim < x/\x < h/\Rds F w.aim x ps/\w'.aim=x/\w'.O7=false/\w'.O4=0
  | .side _ _=>F'=F/\w'.O1=w.O1/\w'.O5=w.O5/\w'.O7=false/\w'.O4=w.O4/\w'.aim=w.aim
  | .down _ _=>F'=F/\w'.O1=w.O1/\w'.O5=w.O5/\w'.O7=false/\w'.O4=w.O4/\w'.aim=w.aim
  | .told _ t=>0 < w.O4/\F'=F/\w'.O1=w.O1/\w'.O5=w.O5/\w'.O7=t.isNone/\(w'.O7=false->0 < w'.O4)
  | .raised _ _=>0 < w.O4/\F'=F/\w'.O1=w.O1/\w'.O5=w.O5/\w'.O7=true
theorem uL {p:Pg} (h:p.ks.Pairwise (· < ·)):(prs p).Pairwise (fun x y=>x.1 < y.1):=by
 rw [List.pairwise_iff_getElem] at h ⊢
 intro i j hi hj hij
 have a:(prs p)[i].1=p.ks[i]'(by have:=hi;simp [prs] at this;lia):=by simp [prs]
 have b:(prs p)[j].1=p.ks[j]'(by have:=hj;simp [prs] at this;lia):=by simp [prs]
 rw [a,b];exact h i j _ _ hij
section
variable {S S':Sh} {bg:Bg} {n:Nat} {p P:Pg} {w w':Wk} {F:Es} {r:Row}
theorem U0 (S:Sh) (w:Wk) (n:Nat) (P:Pg):(Qs S w n P).2.2.O0=w.O0/\(Qs S w n P).2.2.O1=w.O1/\(Qs S w n P).2.2.O5=w.O5/\(w.O7=false->(Qs S w n P).2.2.O7=(Qs S w n P).1.isNone)/\((Qs S w n P).2.2.O7=false->w.O7=false->0 < (Qs S w n P).2.2.O4)/\((Qs S w n P).2.2.O4=0->(Qs S w n P).2.2.aim=w.aim/\(Qs S w n P).2.2.O6=w.O6):=by
 unfold Qs
 by_cases hr:P.ks.length<=S.O2
 ·rw [C9 hr];exact ⟨rfl,rfl,rfl,fun _=>rfl,fun h=>(by cases h),fun _=>⟨rfl,rfl⟩⟩
 ·rw [C8 hr];exact ⟨rfl,rfl,rfl,fun h=>h,fun _ _=>Nat.succ_pos _,fun h=>(by cases h)⟩
theorem vz (T:Tree S bg) (W:WOk S bg w) (A:Aim S bg w) (hw:w.O7=false) (hT:TabIs S F) (hs:Jg S w=some (r,S',w')):∃ F',TabIs S' F'/\Did F F' w w' r/\Aim S bg w'/\w'.O0=w.O0:=by
  obtain ⟨n,hn0,hpl⟩:∃ n,w.O6.getD S.top=n/\(w.O6=some n∨(w.O6=none/\n=S.top)):=by
    cases e:w.O6 with
    | none=>exact ⟨S.top,rfl,.inr ⟨rfl,rfl⟩⟩
    | some m=>exact ⟨m,rfl,.inl rfl⟩
  obtain ⟨p,hn⟩:∃ p,S.pg[n]?=some p:=by
    rcases hpl with U | ⟨_,rfl⟩
    . obtain ⟨p,a,_⟩:=W.at_ n U;exact ⟨p,a⟩
    . obtain ⟨p,a,_⟩:=T.root;exact ⟨p,a⟩
  have ok:=T.page n p hn
  have la:leB (bg n) w.aim:=by
    rcases hpl with U | ⟨_,rfl⟩
    . obtain ⟨p',a1,a2,a3⟩:=W.at_ n U
      exact a3
    . intro v hv;rw [T.rbg] at hv;cases hv
  unfold Jg at hs
  rw [C8 (by rw [hw];simp),hn0] at hs
  simp only [hn] at hs
  by_cases hr:w.O6=none/\p.lv < w.O4
  . rw [C9 hr] at hs
    obtain ⟨k,q,a1,a2,a3,a4⟩:=W.tell (by lia)
    simp only [a1] at hs
    cases hs
    refine ⟨F,fun a b=>?_,⟨by lia,rfl,rfl,rfl,rfl⟩,fun h0=>absurd (show w.O4=0 from h0) (by lia),rfl⟩
    rw [hT a b]
    constructor
    . rintro ⟨m,q,h1,h2,h3⟩
      exact ⟨m,q,JD h1,h2,h3⟩
    . rintro ⟨m,q,h1,h2,h3⟩
      rcases Jd h1 with ⟨rfl,rfl⟩ | h
      . cases h2
      . exact ⟨m,q,h,h2,h3⟩
  . rw [C8 hr] at hs
    cases hb:Zh p w.aim with
    | true =>
      rw [hb,C9 rfl] at hs
      rcases T.link n p hn with ⟨a,b⟩ | ⟨h,s,q,a,b,c,d,e⟩
      . unfold Zh at hb;rw [a] at hb;cases hb
      . simp only [b] at hs
        cases hs
        refine ⟨F,hT.same rfl,⟨rfl,rfl,rfl,hw,rfl,rfl⟩,fun h0=>?_,rfl⟩
        have a5:=A h0
        cases hd:w.O0 with
        | find k=>rw [hd] at a5;exact a5
        | put k x=>rw [hd] at a5;exact a5
        | cut k=>rw [hd] at a5;exact a5
        | stretch l h' =>
          rw [hd] at a5
          obtain ⟨a6,a7⟩:=a5
          refine ⟨a6,?_⟩
          rcases a7 with a7 | ⟨s',p',b1,b2,b0,b3,b4,b5⟩
          . exact .inl a7
          . exfalso
            have:s'=n:=by
              rcases hpl with U | ⟨U,_⟩
              . rw [U] at b1;exact (Ak b1).symm
              . rw [U] at b1;cases b1
            subst this
            have:=ok.wide h a _ b3
            unfold Zh at hb;rw [a] at hb
            have:h<=w.aim:=by simpa using hb
            lia
    | false =>
      have lh:=zH hb
      rw [hb,C8 (by simp)] at hs
      by_cases hd:w.O4 < p.lv
      . rw [C9 hd] at hs
        have pl:=ok.parts
        rw [C8 (by lia)] at pl
        have hc:cLe p.ks w.aim < p.ps.length:=by have:=Jz p.ks w.aim;lia
        rw [Ab hc] at hs
        simp only at hs
        cases hs
        refine ⟨F,hT.same rfl,⟨rfl,rfl,rfl,hw,rfl,rfl⟩,fun h0=>?_,rfl⟩
        have a5:=A h0
        cases hd':w.O0 with
        | find k=>rw [hd'] at a5;exact a5
        | put k x=>rw [hd'] at a5;exact a5
        | cut k=>rw [hd'] at a5;exact a5
        | stretch l h' =>
          rw [hd'] at a5
          obtain ⟨a6,a7⟩:=a5
          refine ⟨a6,?_⟩
          rcases a7 with a7 | ⟨s',p',b1,b2,b0,b3,b4,b5⟩
          . exact .inl a7
          . exfalso
            have:s'=n:=by
              rcases hpl with U | ⟨U,_⟩
              . rw [U] at b1;exact (Ak b1).symm
              . rw [U] at b1;cases b1
            subst this
            rw [hn] at b2;cases b2;lia
      . rw [C8 hd] at hs
        have hg:w.O4<=p.lv:=by
          rcases hpl with U | ⟨U,_⟩
          . obtain ⟨p',b1,b2,_⟩:=W.at_ n U
            rw [hn] at b1;cases b1;exact b2
          . exact Cz fun h=>hr ⟨U,h⟩
        have hlv:p.lv=w.O4:=by lia
        by_cases h0:0 < w.O4
        . rw [C9 h0] at hs
          obtain ⟨k,q,a1,a2,a3,a4⟩:=W.tell h0
          simp only [a1] at hs
          cases hs
          obtain ⟨c1,c2,c3,c4,c5,c6⟩:=U0 { S with rd:=S.rd+1 } w n (Q2 p w.aim k)
          refine ⟨F,fun a b=>?_,⟨h0,rfl,c2,c3,c4 hw,fun h=>c5 h hw⟩,fun h1=>?_,c1⟩
          . rw [Qa0 (S:={ S with rd:=S.rd+1 }) (p:=p) (P:=Q2 p w.aim k) hn (by lia) rfl];exact hT a b
          . exfalso
            by_cases e:(Qs { S with rd:=S.rd+1 } w n (Q2 p w.aim k)).2.2.O7=false
            . exact absurd h1 (C5 (c5 e hw))
            . unfold Qs at h1
              by_cases q1:(Q2 p w.aim k).ks.length<=S.O2
              . rw [C9 q1] at h1;have:w.O4=0:=h1;lia
              . rw [C8 q1] at h1;cases h1
        . rw [C8 h0] at hs
          have hz:p.lv=0:=by lia
          have g0:w.O4=0:=by lia
          have a5:=A g0
          have wt:=T.tab_worth hT hn hz la lh
          have hs:=Ak hs
          unfold ZO at hs
          cases hdd:w.O0 with
          | find k =>
            rw [hdd] at a5 hs
            cases hs
            have a5:w.aim=k:=a5
            subst a5
            exact ⟨F,hT.same rfl,⟨_,hdd,wt,rfl,wt,rfl,rfl⟩,fun _=>by simp [hdd],by simp [hdd]⟩
          | put k x =>
            rw [hdd] at a5 hs
            have a5:w.aim=k:=a5
            subst a5
            obtain ⟨c1,c2,c3,c4,c5,c6⟩:=U0 { S with rd:=S.rd+1 } { w with O1:=QR p w.aim } n (QH p w.aim x)
            dsimp only at hs
            simp only [Bp] at hs
            obtain ⟨rfl,rfl,rfl⟩:=hs
            rw [hdd] at c1 c2 c3 c4 c5 c6
            refine ⟨vC F w.aim x,?_,⟨_,_,hdd,wt,rfl,c2.trans wt,c3,c4 hw,fun h=>c5 h hw⟩,fun h1=>?_,c1⟩
            . exact T.tab_put hT hn hz la lh fun a b=>by rw [Qa1 (S:={ S with rd:=S.rd+1 }) (p:=p) (P:=QH p w.aim x) hn hz rfl];exact Iff.rfl
            . have:=(c6 h1).1
              rw [c1]
              exact this
          | cut k =>
            rw [hdd] at a5 hs
            have a5:w.aim=k:=a5
            subst a5
            dsimp only at hs
            cases hs
            refine ⟨xH F w.aim,?_,⟨_,hdd,wt,rfl,wt,rfl,rfl⟩,fun _=>by simp [hdd],by simp [hdd]⟩
            by_cases hq:(QR p w.aim).isSome=true
            . rw [C9 hq]
              refine T.tab_cut hT hn hz la lh fun a b=>?_
              have ln:=Zi hn
              constructor
              . rintro ⟨m,q,h1,h2,h3⟩
                rcases Jy h1 with ⟨rfl,rfl,_⟩ | ⟨e,h⟩
                . exact .inr h3
                . exact .inl ⟨m,q,e,h,h2,h3⟩
              . rintro (⟨m,q,e,h1,h2,h3⟩ | h)
                . exact ⟨m,q,by show (S.pg.set n (without p w.aim))[m]?=_;rw [Am (fun x=>e x.symm)];exact h1,h2,h3⟩
                . exact ⟨n,without p w.aim,by show (S.pg.set n (without p w.aim))[n]?=_;rw [Au ln],hz,h⟩
            . rw [C8 hq]
              have fn:F w.aim=none:=by rw [<- wt];exact Option.not_isSome_iff_eq_none.mp hq
              have:xH F w.aim=F:=funext fun j=>by
                unfold xH
                by_cases e:j=w.aim
                . rw [C9 e,e,fn]
                . rw [C8 e]
              rw [this];exact hT.same rfl
          | stretch l h =>
            rw [hdd] at a5 hs
            obtain ⟨a6,a7⟩:=a5
            dsimp only at hs
            have so:=uL ok.sorted
            have ge:∀ k v,(k,v)∈prs p->l<=k->w.aim<=k:=fun k v hm hlk=>by
              rcases a7 with a7 | ⟨s',p',b1,b2,b0,b3,b4,b5⟩
              . lia
              . have:s'=n:=by
                  rcases hpl with U | ⟨U,_⟩
                  . rw [U] at b1;exact (Ak b1).symm
                  . rw [U] at b1;cases b1
                subst this
                exact ok.low k (KR hm) _ b3
            have al:l<=w.aim:=by rcases a7 with a7 | ⟨_,_,_,_,_,_,b4,_⟩<;>lia
            have ah:w.aim < h:=by rcases a7 with a7 | ⟨_,_,_,_,_,_,_,b5⟩<;>lia
            have rd:∀ e:Int,e<=h->(∀ x,p.hi=some x->e<=x)->(∀ k v,(k,v)∈prs p->k < h->k < e)->Rds F w.aim e (QT p l h):=fun e he hx hk=>by
              refine ⟨List.Pairwise.filter _ so,fun k v=>?_⟩
              unfold QT
              rw [Bm,hT k v,Lf.split hn hz]
              constructor
              . rintro ⟨m,c⟩
                simp only [Bc,decide_eq_true_eq] at c
                exact ⟨.inr m,ge k v m c.1,hk k v m c.2⟩
              . rintro ⟨m,c1,c2⟩
                have lb:leB (bg n) k:=fun u hu=>by have:=la u hu;lia
                have lk:ltH k p.hi:=fun u hu=>by have:=hx u hu;lia
                rcases m with m | m
                . exact absurd m (T.lo_none hn hz lb lk)
                . exact ⟨m,by simp only [Bc,decide_eq_true_eq];lia⟩
            rcases T.link n p hn with ⟨a,b⟩ | ⟨x,s,q,a,b,c,d,e⟩
            . simp only [a,b] at hs
              cases hs
              exact ⟨F,hT.same rfl,⟨l,h,hdd,rfl,rfl,rfl,rd h (Bo _) (fun x hx=>by rw [a] at hx;cases hx) (fun k v _ c=>c),rfl⟩,fun _=>by simp only [hdd];exact ⟨a6,a7⟩,by simp [hdd]⟩
            . simp only [a,b] at hs
              have ax:w.aim < x:=lh x a
              by_cases hx:h<=x
              . rw [C9 hx] at hs
                cases hs
                exact ⟨F,hT.same rfl,⟨l,h,hdd,rfl,rfl,rfl,rd h (Bo _) (fun y hy=>by rw [a] at hy;cases hy;exact hx) (fun k v _ c=>c),rfl⟩,fun _=>by simp only [hdd];exact ⟨a6,a7⟩,by simp [hdd]⟩
              . rw [C8 hx] at hs
                cases hs
                refine ⟨F,hT.same rfl,⟨l,h,hdd,rfl,rfl,rfl,ax,by lia,rd x (by lia) (fun y hy=>by rw [a] at hy;cases hy;exact Bo _) (fun k v m _=>ok.high k (KR m) x a),rfl,hw,g0⟩,fun _=>?_,by simp [hdd]⟩
                simp only [hdd]
                exact ⟨a6,.inr ⟨s,q,rfl,c,by lia,e,by lia,by lia⟩⟩
end
def Kd (S:Sh) (c:Nat):Prop:=∃ (m:Nat) (q:Pg),S.pg[m]?=some q/\0 < q.lv/\(c:Int)∈q.ps
def Tells (ws:List Wk) (c:Nat):Prop:=∃ (i:Nat) (w:Wk),ws[i]?=some w/\w.O7=false/\0 < w.O4/\w.Oz=some c
def Tld (S:Sh) (ws:List Wk):Prop:=∀ n:Nat,n < S.pg.length->n≠S.top->Kd S n∨Tells ws n
section
variable {S S':Sh} {bg:Bg} {n:Nat} {p P:Pg} {w w':Wk} {r:Row} {ws:List Wk} {i:Nat}
theorem UY {w:Wk} (hn:S.pg[n]?=some p) (hl:P.lv=p.lv) (hsub:0 < p.lv->∀ x∈p.ps,x∈P.ps) {c:Nat} (h:Kd S c∨(0 < P.lv/\(c:Int)∈P.ps)):Kd (Qs S w n P).2.1 c:=by
 have ln:=Zi hn
 have key:(∃ (m:Nat) (q:Pg),m≠n/\S.pg[m]?=some q/\0 < q.lv/\(c:Int)∈q.ps)∨(0 < P.lv/\(c:Int)∈P.ps):=by
  rcases h with ⟨m,q,h1,h2,h3⟩ | h
  ·by_cases e:m=n
   ·subst e;rw [hn] at h1;cases h1;exact .inr ⟨by lia,hsub h2 _ h3⟩
   ·exact .inl ⟨m,q,e,h1,h2,h3⟩
  ·exact .inr h
 unfold Qs
 by_cases hr:P.ks.length<=S.O2
 ·rw [C9 hr]
  rcases key with ⟨m,q,e,h1,h2,h3⟩ | ⟨h1,h2⟩
  ·exact ⟨m,q,by show (S.pg.set n P)[m]?=_;rw [Am (fun x=>e x.symm)];exact h1,h2,h3⟩
  ·exact ⟨n,P,by show (S.pg.set n P)[n]?=_;rw [Au ln],h1,h2⟩
 ·rw [C8 hr]
  rcases key with ⟨m,q,e,h1,h2,h3⟩ | ⟨h1,h2⟩
  ·exact ⟨m,q,by show ((S.pg++[QC P]).set n (QS P S.pg.length))[m]?=_;rw [Am (fun x=>e x.symm)];exact JD h1,h2,h3⟩
  ·rw [<- B0 (Zj P) P.ps] at h2
   rcases Ai.mp h2 with h | h
   ·exact ⟨n,QS P S.pg.length,by show ((S.pg++[QC P]).set n (QS P S.pg.length))[n]?=_;rw [Au (by simp;lia)],h1,h⟩
   ·exact ⟨S.pg.length,QC P,by show ((S.pg++[QC P]).set n (QS P S.pg.length))[S.pg.length]?=_;rw [Am (by lia)];simp,h1,h⟩
theorem Tells.other {c:Nat} (h:Tells ws c) (hi:ws[i]?=some w) (hne:w.O7=false->0 < w.O4->w.Oz≠some c):Tells (ws.set i w') c:=by
 obtain ⟨j,v,a,b,d,e⟩:=h
 have ne:j≠i:=fun z=>by subst z;rw [hi] at a;cases a;exact hne b d e
 exact ⟨j,v,by rw [Am (fun x=>ne x.symm)];exact a,b,d,e⟩
theorem Tells.self {c:Nat} (hi:ws[i]?=some w) (h1:w'.O7=false) (h2:0 < w'.O4) (h3:w'.Oz=some c):Tells (ws.set i w') c :=
 ⟨i,w',Au (Zi hi),h1,h2,h3⟩
theorem K3 {w:Wk} (S:Sh) (n:Nat) (P:Pg) (h:S.O2 < P.ks.length) (hw:w.O7=false):(Qs S w n P).2.2.O7=false/\0 < (Qs S w n P).2.2.O4/\(Qs S w n P).2.2.Oz=some S.pg.length:=by
 unfold Qs;rw [C8 (by lia)];exact ⟨hw,Nat.succ_pos _,rfl⟩
theorem uT {w:Wk} (S:Sh) (n:Nat) (P:Pg) {c:Nat} (hc:c < (Qs S w n P).2.1.pg.length):c < S.pg.length∨(c=S.pg.length/\S.O2 < P.ks.length):=by
 unfold Qs at hc
 by_cases hr:P.ks.length<=S.O2
 ·rw [C9 hr] at hc;exact .inl (by simpa using hc)
 ·rw [C8 hr] at hc
  have:c < S.pg.length+1:=by simpa using hc
  rcases Bh c S.pg.length with h | h
  ·exact .inl h
  ·exact .inr ⟨by lia,by lia⟩
theorem uV {w:Wk} (S:Sh) (n:Nat) (P:Pg):(Qs S w n P).2.1.top=S.top:=by
 unfold Qs;split<;>rfl
theorem Tld.step (D:Tld S ws) (T:Tree S bg) (W:WOk S bg w) (hi:ws[i]?=some w) (hw:w.O7=false) (hs:Jg S w=some (r,S',w')):Tld S' (ws.set i w'):=by
  obtain ⟨n,hn0,hpl⟩:∃ n,w.O6.getD S.top=n/\(w.O6=some n∨(w.O6=none/\n=S.top)):=by
    cases e:w.O6 with
    | none=>exact ⟨S.top,rfl,.inr ⟨rfl,rfl⟩⟩
    | some m=>exact ⟨m,rfl,.inl rfl⟩
  obtain ⟨p,hn⟩:∃ p,S.pg[n]?=some p:=by
    rcases hpl with U | ⟨_,rfl⟩
    . obtain ⟨p,a,_⟩:=W.at_ n U;exact ⟨p,a⟩
    . obtain ⟨p,a,_⟩:=T.root;exact ⟨p,a⟩
  have still:∀ {x:Wk} {S2:Sh},S2.pg=S.pg->S2.top=S.top->(w.O7=false->0 < w.O4->x.O7=false/\x.O4=w.O4/\x.Oz=w.Oz)->Tld S2 (ws.set i x):=fun {x S2} e1 e2 e3 c hc ht=>by
    rw [e1] at hc;rw [e2] at ht
    rcases D c hc ht with ⟨m,q,h⟩ | ⟨j,v,a,b,d,e⟩
    . exact .inl ⟨m,q,by rw [e1];exact h⟩
    . by_cases z:j=i
      . subst z;rw [hi] at a;cases a
        obtain ⟨f1,f2,f3⟩:=e3 b d
        exact .inr (Tells.self hi f1 (by lia) (f3.trans e))
      . exact .inr ⟨j,v,by rw [Am (fun x=>z x.symm)];exact a,b,d,e⟩
  unfold Jg at hs
  rw [C8 (by rw [hw];simp),hn0] at hs
  simp only [hn] at hs
  by_cases hr:w.O6=none/\p.lv < w.O4
  . rw [C9 hr] at hs
    obtain ⟨k,q,a1,a2,a3,a4⟩:=W.tell (by lia)
    simp only [a1] at hs
    cases hs
    intro c hc ht
    have hc:c < S.pg.length+1:=by simpa using hc
    have ht:c≠S.pg.length:=ht
    have newf:(S.pg++[(⟨p.lv+1,[w.aim],[(S.top:Int),(k:Int)],none,none⟩:Pg)])[S.pg.length]?=some ⟨p.lv+1,[w.aim],[(S.top:Int),(k:Int)],none,none⟩:=by simp
    by_cases e:c=S.top
    . exact .inl ⟨S.pg.length,_,newf,Nat.succ_pos _,by simp [e]⟩
    by_cases e':c=k
    . exact .inl ⟨S.pg.length,_,newf,Nat.succ_pos _,by simp [e']⟩
    rcases D c (by lia) e with ⟨m,q,h1,h2,h3⟩ | h
    . exact .inl ⟨m,q,JD h1,h2,h3⟩
    . exact .inr (h.other hi fun _ _ h=>by rw [a1] at h;exact e' (Ak h).symm)
  . rw [C8 hr] at hs
    cases hb:Zh p w.aim with
    | true =>
      rw [hb,C9 rfl] at hs
      cases hsd:p.sd with
      | none=>rw [hsd] at hs;cases hs
      | some s =>
        rw [hsd] at hs;cases hs
        exact still rfl rfl fun a _=>⟨a,rfl,rfl⟩
    | false =>
      rw [hb,C8 (by simp)] at hs
      by_cases hd:w.O4 < p.lv
      . rw [C9 hd] at hs
        cases hq:p.ps[cLe p.ks w.aim]? with
        | none=>rw [hq] at hs;cases hs
        | some c =>
          rw [hq] at hs;cases hs
          exact still rfl rfl fun a _=>⟨a,rfl,rfl⟩
      . rw [C8 hd] at hs
        have back:∀ (w0:Wk) (P:Pg),w0.O7=false->P.lv=p.lv->(0 < p.lv->∀ x∈p.ps,x∈P.ps)->(∀ c,0 < w.O4->w.Oz=some c->0 < P.lv/\(c:Int)∈P.ps)->Tld (Qs { S with rd:=S.rd+1 } w0 n P).2.1 (ws.set i (Qs { S with rd:=S.rd+1 } w0 n P).2.2):=fun w0 P e0 hl hsub hnew c hc ht=>by
          rw [uV] at ht
          rcases uT _ n P hc with hc | ⟨hc,hroom⟩
          . rcases D c hc ht with h | h
            . exact .inl (UY (S:={ S with rd:=S.rd+1 }) hn hl hsub (.inl h))
            . by_cases z:w.Oz=some c/\0 < w.O4
              . exact .inl (UY (S:={ S with rd:=S.rd+1 }) hn hl hsub (.inr (hnew c z.2 z.1)))
              . exact .inr (h.other hi fun _ a b=>z ⟨b,a⟩)
          . obtain ⟨f1,f2,f3⟩:=K3 (w:=w0) { S with rd:=S.rd+1 } n P hroom e0
            exact .inr (Tells.self hi f1 f2 (by rw [f3];exact congrArg some hc.symm))
        by_cases h0:0 < w.O4
        . rw [C9 h0] at hs
          obtain ⟨k,q,a1,a2,a3,a4⟩:=W.tell h0
          simp only [a1] at hs
          simp only [Option.some.injEq,Bp] at hs
          obtain ⟨rfl,rfl,rfl⟩:=hs
          have hg:w.O4<=p.lv:=by
            rcases hpl with U | ⟨U,_⟩
            . obtain ⟨p',b1,b2,_⟩:=W.at_ n U
              rw [hn] at b1;cases b1;exact b2
            . exact Cz fun h=>hr ⟨U,h⟩
          refine back w (Q2 p w.aim k) hw rfl (fun _ x hx=>?_) fun c _ hc=>⟨by show 0 < p.lv;lia,?_⟩
          . show x∈p.ps.take (cLe p.ks w.aim+1)++(k:Int)::p.ps.drop (cLe p.ks w.aim+1)
            rw [<- B0 (cLe p.ks w.aim+1) p.ps] at hx
            rcases Ai.mp hx with h | h
            . exact A7 _ h
            . exact Aj _ (Ax _ h)
          . rw [a1] at hc;cases hc
            show (k:Int)∈p.ps.take (cLe p.ks w.aim+1)++(k:Int)::p.ps.drop (cLe p.ks w.aim+1)
            simp
        . rw [C8 h0] at hs
          have hs:=Ak hs
          unfold ZO at hs
          have g0:∀ {x:Wk},w.O7=false->0 < w.O4->x.O7=false/\x.O4=w.O4/\x.Oz=w.Oz:=fun _ h=>absurd h h0
          cases hdd:w.O0 with
          | find k=>rw [hdd] at hs;cases hs;exact still rfl rfl g0
          | put k x =>
            rw [hdd] at hs
            dsimp only at hs
            simp only [Bp] at hs
            obtain ⟨rfl,rfl,rfl⟩:=hs
            exact back _ (QH p w.aim x) hw rfl (fun h=>(by
              have hg:p.lv=0:=by lia
              lia)) fun c h=>absurd h h0
          | cut k =>
            rw [hdd] at hs;dsimp only at hs;cases hs
            by_cases hq:(QR p w.aim).isSome=true
            . rw [C9 hq]
              intro c hc ht
              have hc:c < S.pg.length:=by simpa using hc
              rcases D c hc ht with ⟨m,q,h1,h2,h3⟩ | h
              . have e:m≠n:=fun e=>by subst e;rw [hn] at h1;cases h1;lia
                exact .inl ⟨m,q,by show (S.pg.set n (without p w.aim))[m]?=_;rw [Am (fun x=>e x.symm)];exact h1,h2,h3⟩
              . exact .inr (h.other hi fun _ a=>absurd a h0)
            . rw [C8 hq];exact still rfl rfl g0
          | stretch l h =>
            rw [hdd] at hs;dsimp only at hs
            cases hhi:p.hi with
            | none=>rw [hhi] at hs;cases hs;exact still rfl rfl g0
            | some x =>
              cases hsd:p.sd with
              | none=>rw [hhi,hsd] at hs;cases hs;exact still rfl rfl g0
              | some s =>
                rw [hhi,hsd] at hs
                dsimp only at hs
                by_cases hx:h<=x
                . rw [C9 hx] at hs;cases hs;exact still rfl rfl g0
                . rw [C8 hx] at hs;cases hs;exact still rfl rfl g0
theorem Tree.straight (T:Tree S bg) (hn:S.pg[n]?=some p) (hl:0 < p.lv) {aim:Int} (h1:leB (bg n) aim) (h2:ltH aim p.hi) {c:Nat} {q:Pg} (hc:S.pg[c]?=some q) (hq:q.lv+1=p.lv) (hb:bg c=Z8 (bg n) p.ks (cLe p.ks aim)) (D:∀ s,q.sd=some s->Kd S s):Zh q aim=false:=by
  have ok:=T.page n p hn
  cases hx:Zh q aim with
  | false=>rfl
  | true =>
    exfalso
    rcases T.link c q hc with ⟨a,b⟩ | ⟨h,s,z,a,b,hs,d,e⟩
    . unfold Zh at hx;rw [a] at hx;cases hx
    . have ha:h<=aim:=by unfold Zh at hx;rw [a] at hx;simpa using hx
      have wd:=(T.page c q hc).wide h a
      obtain ⟨m,f,hm,hf,hk⟩:=D s b
      obtain ⟨j,hj⟩:=Bw.mp hk
      obtain ⟨c',z',e1,e2,e3,e4⟩:=T.kid m f hm hf j _ hj
      have:c'=s:=by lia
      subst this
      rw [hs] at e2;cases e2
      have okm:=T.page m f hm
      have low:ltB (bg n) h:=fun v hv=>by
        cases hcl:cLe p.ks aim with
        | zero=>rw [hcl] at hb;exact wd v (hb.trans hv)
        | succ i =>
          rw [hcl] at hb
          have li:i < p.ks.length:=by have:=Jz p.ks aim;lia
          have hi:bg c=some p.ks[i]:=hb.trans (Ab li)
          have:=wd _ hi
          have:=ok.low _ (B9 li) v hv
          lia
      by_cases emn:m=n
      . subst emn
        rw [hn] at hm;cases hm
        rw [e] at e4
        cases j with
        | zero=>have:=low h e4.symm;lia
        | succ i =>
          have hi:p.ks[i]?=some h:=e4.symm
          have i1:=(Vd (k:=aim) ok.sorted hi).mpr ha
          cases hcl:cLe p.ks aim with
          | zero=>lia
          | succ i' =>
            rw [hcl] at hb
            have li:i' < p.ks.length:=by have:=Jz p.ks aim;lia
            have hi':bg c=some p.ks[i']:=hb.trans (Ab li)
            have w1:=wd _ hi'
            have ge:h<=p.ks[i']:=by
              rcases Bh i i' with lt | ge
              . exact Ck (Ya ok.sorted hi (Ab li) lt)
              . have:i=i':=by lia
                subst this
                rw [Ab li] at hi;cases hi;exact Bo _
            lia
      . have lvm:f.lv=p.lv:=by lia
        have bm:leBB (bg m) (some h)/\(∀ u,f.hi=some u->h < u):=by
          rw [e] at e4
          cases j with
          | zero =>
            have e4:some h=bg m:=e4
            exact ⟨by rw [<- e4];exact leBB.refl _,fun u hu=>okm.wide u hu h e4.symm⟩
          | succ i =>
            have hi:f.ks[i]?=some h:=e4.symm
            have mem:=Aw hi
            exact ⟨fun v hv=>⟨h,rfl,okm.low h mem v hv⟩,fun u hu=>okm.high h mem u hu⟩
        rcases T.dis n m p f hn hm (by lia) (fun z=>emn z.symm) with ⟨x,v,a1,a2,a3⟩ | ⟨x,v,a1,a2,a3⟩
        . have:=h2 x a1
          obtain ⟨u,b1,b2⟩:=bm.1 v a2
          cases b1;lia
        . have:=bm.2 x a1
          have:=low v a2
          lia
end
inductive Steps:Nat->Sh->Wk->Sh->Wk->Prop
 | nil (S:Sh) (w:Wk):Steps 0 S w S w
 | cons {m:Nat} {S S1 S':Sh} {w w1 w':Wk} {r:Row}:w.O7=false->Jg S w=some (r,S1,w1)->Steps m S1 w1 S' w'->Steps (m+1) S w S' w'
def In (S:Sh) (bg:Bg) (n:Nat) (k:Int):Prop:=∃ p:Pg,S.pg[n]?=some p/\leB (bg n) k/\ltH k p.hi
def Fk (S:Sh):Prop:=∀ (n:Nat) (p:Pg),S.pg[n]?=some p->0 < p.lv->1<=p.ks.length
section
variable {S S':Sh} {bg bg':Bg} {n f:Nat} {p q P:Pg} {w w':Wk} {r:Row} {a k:Int} {F:Es}
theorem Tree.nest (T:Tree S bg) (hn:S.pg[n]?=some p) (hf:S.pg[f]?=some q) (hl:p.lv+1=q.lv) (a1:leB (bg n) a) (a2:ltH a p.hi) (b1:leB (bg f) a) (b2:ltH a q.hi):leBB (bg f) (bg n)/\∀ h,q.hi=some h->∃ u,p.hi=some u/\u<=h:=by
 constructor
 ·intro v hv
  have okf:=T.page f q hf
  have pl:=okf.parts
  rw [C8 (by lia)] at pl
  obtain ⟨c,z,e1,e2,e3,e4⟩:=T.kid f q hf (by lia) 0 _ (Ab (by lia:0 < q.ps.length))
  have e4:bg c=bg f:=e4
  by_cases e:n=c
  ·subst e;exact ⟨v,e4.trans hv,Bo _⟩
  ·rcases T.dis n c p z hn e2 (by lia) e with ⟨h,u,x1,x2,x3⟩ | ⟨h,u,x1,x2,x3⟩
   ·have:=a2 h x1;have:=b1 v hv
    rw [e4,hv] at x2;cases x2;lia
   ·have:=(T.page c z e2).wide h x1 v (e4.trans hv)
    exact ⟨u,x2,by lia⟩
 ·intro h hh
  rcases T.link f q hf with ⟨x,_⟩ | ⟨h',s,y,x1,x2,x3,x4,x5⟩
  ·rw [hh] at x;cases x
  ·rw [hh] at x1;cases x1
   have pl:=(T.page s y x3).parts
   rw [C8 (by lia)] at pl
   obtain ⟨c,z,e1,e2,e3,e4⟩:=T.kid s y x3 (by lia) 0 _ (Ab (by lia:0 < y.ps.length))
   have e4:bg c=bg s:=e4
   have ah:=b2 h hh
   have ne:n≠c:=fun e=>by
    subst e
    have:=a1 h (e4.trans x5);lia
   rcases T.dis n c p z hn e2 (by lia) ne with ⟨u,v,y1,y2,y3⟩ | ⟨u,v,y1,y2,y3⟩
   ·rw [e4,x5] at y2;cases y2
    exact ⟨u,y1,y3⟩
   ·have:=(T.page c z e2).wide u y1 h (e4.trans x5)
    have:=a1 v y2
    lia
theorem Tree.nest_in (T:Tree S bg) (hn:S.pg[n]?=some p) (hf:S.pg[f]?=some q) (hl:p.lv+1=q.lv) (ha:In S bg n a) (hb:In S bg f a) (hk:In S bg n k):In S bg f k:=by
 obtain ⟨_,e1,a1,a2⟩:=ha;rw [hn] at e1;cases e1
 obtain ⟨_,e1,b1,b2⟩:=hb;rw [hf] at e1;cases e1
 obtain ⟨_,e1,k1,k2⟩:=hk;rw [hn] at e1;cases e1
 obtain ⟨x,y⟩:=T.nest hn hf hl a1 a2 b1 b2
 refine ⟨q,hf,x.leB k1,fun h hh=>?_⟩
 obtain ⟨u,u1,u2⟩:=y h hh
 have:=k2 u u1;lia
theorem Tree.root_hi (T:Tree S bg) (D:∀ s,s < S.pg.length->s≠S.top->Kd S s) (hr:S.pg[S.top]?=some p):p.hi=none:=by
 rcases T.link S.top p hr with ⟨x,_⟩ | ⟨h,s,y,x1,x2,x3,x4,x5⟩
 ·exact x
 ·exfalso
  have ne:s≠S.top:=fun e=>by rw [e,T.rbg] at x5;cases x5
  obtain ⟨m,g,h1,h2,h3⟩:=D s (Zi x3) ne
  obtain ⟨j,hj⟩:=Bw.mp h3
  obtain ⟨c,z,e1,e2,e3,e4⟩:=T.kid m g h1 h2 j _ hj
  have:c=s:=by lia
  subst this
  rw [x3] at e2;cases e2
  obtain ⟨r,r1,r2⟩:=T.root
  rw [hr] at r1;cases r1
  have:=r2 m g h1;lia
theorem QgH (T:Tree S bg) (D:∀ s,s < S.pg.length->s≠S.top->Kd S s) (hn0:w.O6.getD S.top=n) (hn:S.pg[n]?=some p) (hw:w.O7=false) (hg:w.O4=0) (hl:0 < p.lv) (hin:In S bg n w.aim):
    ∃ (c:Nat) (q:Pg),Jg S w=some (.down n c,{ S with rd:=S.rd+1 },{ w with O3:=zS w.O3 p.lv n,O6:=some c })/\S.pg[c]?=some q/\q.lv+1=p.lv/\In S bg c w.aim:=by
  obtain ⟨_,e1,a1,a2⟩:=hin;rw [hn] at e1;cases e1
  have ok:=T.page n p hn
  have pl:=ok.parts
  rw [C8 (by lia)] at pl
  have hc:cLe p.ks w.aim < p.ps.length:=by have:=Jz p.ks w.aim;lia
  obtain ⟨c,q,b1,b2,b3,b4⟩:=T.kid n p hn hl _ _ (Ab hc)
  have nb:Zh p w.aim=false:=by
    unfold Zh
    cases hh:p.hi with
    | none=>rfl
    | some h=>have:=a2 h hh;simp;lia
  have nq:=T.straight hn hl a1 a2 b2 b3 b4 fun s hs=>by
    obtain ⟨h,z,x1,x2,x3,x4,_⟩:=K5 T b2 hs
    exact D s (Zi x2) fun e=>by rw [e,T.rbg] at x4;cases x4
  refine ⟨c,q,?_,b2,b3,q,b2,?_,zH nq⟩
  . unfold Jg
    rw [C8 (by rw [hw];simp),hn0]
    simp only [hn]
    rw [C8 (by lia),nb,C8 (by simp),C9 (by lia),Ab hc,b1]
    simp only [B7]
  . rw [b4]
    cases hcl:cLe p.ks w.aim with
    | zero=>exact a1
    | succ i =>
      intro v hv
      have hv:p.ks[i]?=some v:=hv
      exact (Vd ok.sorted hv).mp (by lia)
theorem Fk.settle (K:Fk S) {w:Wk} (hn:S.pg[n]?=some p) (hl:P.lv=p.lv) (h1:0 < P.lv->1<=P.ks.length) (h3:S.O2 < P.ks.length->3<=P.ks.length):Fk (Qs S w n P).2.1:=by
 unfold Qs
 by_cases hr:P.ks.length<=S.O2
 ·rw [C9 hr]
  intro m q hm h0
  rcases Jy hm with ⟨rfl,rfl,_⟩ | ⟨_,h⟩
  ·exact h1 h0
  ·exact K m q h h0
 ·rw [C8 hr]
  have l3:=h3 (by lia)
  intro m q hm h0
  rcases Jy (xs:=S.pg++[QC P]) hm with ⟨rfl,rfl,_⟩ | ⟨_,h⟩
  ·show 1<=(P.ks.take (mid P)).length
   rw [A9];unfold mid;lia
  ·rcases Jd h with ⟨rfl,rfl⟩ | h
   ·show 1<=(P.ks.drop (Zj P)).length
    have h0:0 < P.lv:=h0
    rw [Bq];unfold Zj;rw [C8 (by lia)];unfold mid;lia
   ·exact K m q h h0
theorem Fk.step (K:Fk S) (T:Tree S bg) (hs:Jg S w=some (r,S',w')):Fk S':=by
  have r2:=T.room2
  unfold Jg at hs
  by_cases hw:w.O7=true
  . rw [C9 hw] at hs;cases hs;exact K
  rw [C8 hw] at hs
  cases hn:S.pg[w.O6.getD S.top]? with
  | none=>rw [hn] at hs;cases hs
  | some p =>
    simp only [hn] at hs
    by_cases hr:w.O6=none/\p.lv < w.O4
    . rw [C9 hr] at hs
      cases hk:w.Oz with
      | none=>rw [hk] at hs;cases hs
      | some k =>
        rw [hk] at hs;cases hs
        intro m q hm h0
        rcases Jd hm with ⟨rfl,rfl⟩ | h
        . exact Ae _
        . exact K m q h h0
    . rw [C8 hr] at hs
      by_cases hb:Zh p w.aim=true
      . rw [C9 hb] at hs
        cases hsd:p.sd with
        | none=>rw [hsd] at hs;cases hs
        | some s=>rw [hsd] at hs;cases hs;exact K
      . rw [C8 hb] at hs
        by_cases hd:w.O4 < p.lv
        . rw [C9 hd] at hs
          cases hq:p.ps[cLe p.ks w.aim]? with
          | none=>rw [hq] at hs;cases hs
          | some c=>rw [hq] at hs;cases hs;exact K
        . rw [C8 hd] at hs
          by_cases h0:0 < w.O4
          . rw [C9 h0] at hs
            cases hk:w.Oz with
            | none=>rw [hk] at hs;cases hs
            | some k =>
              rw [hk] at hs
              simp only [Option.some.injEq,Bp] at hs
              obtain ⟨rfl,rfl,rfl⟩:=hs
              exact Fk.settle (S:={ S with rd:=S.rd+1 }) K hn rfl (fun _=>by show 1<=(_++_::_:List Int).length;rw [An,Ba];lia) (fun h=>by
                have h:S.O2 < (Q2 p w.aim k).ks.length:=h
                lia)
          . rw [C8 h0] at hs
            have hs:=Ak hs
            unfold ZO at hs
            cases hdd:w.O0 with
            | find k=>rw [hdd] at hs;cases hs;exact K
            | put k x =>
              rw [hdd] at hs
              dsimp only at hs
              simp only [Bp] at hs
              obtain ⟨rfl,rfl,rfl⟩:=hs
              exact Fk.settle (S:={ S with rd:=S.rd+1 }) K hn rfl (fun _=>by show 1<=(_++_::_:List Int).length;rw [An,Ba];lia) (fun h=>by
                have h:S.O2 < (QH p w.aim x).ks.length:=h
                lia)
            | cut k =>
              rw [hdd] at hs;dsimp only at hs;cases hs
              by_cases hq:(QR p w.aim).isSome=true
              . rw [C9 hq]
                intro m q hm h1
                rcases Jy hm with ⟨rfl,rfl,_⟩ | ⟨_,h⟩
                . have:0 < p.lv:=h1
                  lia
                . exact K m q h h1
              . rw [C8 hq];exact K
            | stretch l h =>
              rw [hdd] at hs;dsimp only at hs
              cases hhi:p.hi with
              | none=>rw [hhi] at hs;cases hs;exact K
              | some x =>
                cases hsd:p.sd with
                | none=>rw [hhi,hsd] at hs;cases hs;exact K
                | some s =>
                  rw [hhi,hsd] at hs
                  dsimp only at hs
                  by_cases hx:h<=x
                  . rw [C9 hx] at hs;cases hs;exact K
                  . rw [C8 hx] at hs;cases hs;exact K
structure Al (S:Sh) (bg:Bg) (F:Es) (w:Wk):Prop where
 tree:Tree S bg
 fk:Fk S
 tab:TabIs S F
 told:Tld S [w]
 aim:Aim S bg w
 wok:w.O7=false->WOk S bg w
 unt:w.O7=false->0 < w.O4->∀ k,w.Oz=some k->Untold S k
theorem Al.step (A:Al S bg F w) (hw:w.O7=false):∃ r S' w' bg' F',Jg S w=some (r,S',w')/\Al S' bg' F' w'/\Grow S bg S' bg'/\Did F F' w w' r/\w'.O0=w.O0/\S'.O2=S.O2:=by
 obtain ⟨r,S',w',bg',hs,st⟩:=K7 A.tree (A.wok hw) hw (A.unt hw)
 obtain ⟨F',h1,h2,h3,h4⟩:=vz A.tree (A.wok hw) A.aim hw A.tab hs
 exact ⟨r,S',w',bg',F',hs,⟨st.tree,A.fk.step A.tree hs,h1,A.told.step (i:=0) A.tree (A.wok hw) rfl hw hs,h3.grow st.grow,st.wok,fun e g k hk=>(st.new k e g hk).1⟩,st.grow,h2,h4,st.O2⟩
theorem Al.all_told (A:Al S bg F w) (h:w.O4=0∨w.O7=true):∀ s,s < S.pg.length->s≠S.top->Kd S s:=fun s h1 h2=>by
 rcases A.told s h1 h2 with h3 | ⟨i,v,a,b,c,_⟩
 ·exact h3
 ·cases i with
  | zero=>cases a;rcases h with h | h;lia;rw [h] at b;cases b
  | succ i=>cases a
end
section
variable {S S':Sh} {bg bg':Bg} {n f:Nat} {p q P:Pg} {w w':Wk} {r:Row} {a k:Int} {F F':Es} {R:Nat}
theorem In.grow (h:In S bg n k) (g:Grow S bg S' bg') (e:S'.pg[n]?=S.pg[n]?):In S' bg' n k:=by
 obtain ⟨p,h1,h2,h3⟩:=h
 exact ⟨p,by rw [e];exact h1,by rw [(g.old n p h1).1];exact h2,h3⟩
def Kp (S:Sh) (bg:Bg) (w:Wk) (lo R:Nat):Prop:=∀ j,lo<=j->j<=R->∃ (f:Nat) (q:Pg),Jh w.O3 j=some f/\S.pg[f]?=some q/\q.lv=j/\In S bg f w.aim
theorem Steps.snoc {m:Nat} {w w1 w2:Wk} (h:Steps m S w S1 w1) (hw:w1.O7=false) (hs:Jg S1 w1=some (r,S2,w2)):Steps (m+1) S w S2 w2:=by
 induction h with
 | nil S w=>exact .cons hw hs (.nil _ _)
 | cons a b c ih=>exact .cons a b (ih hw hs)
theorem Steps.app {m m':Nat} {w w1 w2:Wk} (h:Steps m S w S1 w1) (h':Steps m' S1 w1 S2 w2):Steps (m+m') S w S2 w2:=by
 induction h with
 | nil S w=>rw [C4];exact h'
 | cons a b c ih=>rw [Nat.add_right_comm];exact .cons a b (ih h')
theorem gE:∀ (l:Nat) {S:Sh} {bg:Bg} {w:Wk} {n:Nat} {p:Pg},Al S bg F w->w.O7=false->w.O4=0->p.lv=l->w.O6.getD S.top=n->S.pg[n]?=some p->In S bg n w.aim ->
    ∃ S2 bg2 w2 n2 p2,Grow S bg S2 bg2/\Steps l S w S2 w2/\Al S2 bg2 F w2/\S2.pg=S.pg/\S2.top=S.top/\S2.O2=S.O2/\w2.O7=false/\w2.O4=0/\w2.aim=w.aim/\w2.O0=w.O0/\w2.O5=w.O5/\w2.O6.getD S2.top=n2/\S2.pg[n2]?=some p2/\p2.lv=0/\In S2 bg2 n2 w2.aim/\Kp S2 bg2 w2 1 l/\∀ j,l < j->Jh w2.O3 j=Jh w.O3 j
  | 0,S,bg,w,n,p,A,hw,hg,hl,h0,hn,hin=>⟨S,bg,w,n,p,Grow.refl,.nil S w,A,rfl,rfl,rfl,hw,hg,rfl,rfl,rfl,h0,hn,hl,hin,fun j a b=>(by lia),fun j _=>rfl⟩
  | l+1,S,bg,w,n,p,A,hw,hg,hl,h0,hn,hin=>by
    obtain ⟨c,q,e1,e2,e3,e4⟩:=QgH A.tree (A.all_told (.inl hg)) h0 hn hw hg (by lia) hin
    obtain ⟨r,S1,w1,bg1,F1,s1,A1,g1,d1,dd1,_⟩:=A.step hw
    rw [e1] at s1
    cases s1
    have hF:F1=F:=d1.1
    rw [hF] at A1
    obtain ⟨S2,bg2,w2,n2,p2,b0,b1,b2,b3,b4,b5,b6,b7,b8,b9,b10,b11,b12,b13,b14,b15,b16⟩:=gE l A1 hw hg (by lia) (show (some c:Option Nat).getD _=c from rfl) e2 (e4.grow g1 rfl)
    refine ⟨S2,bg2,w2,n2,p2,g1.trans b0,?_,b2,b3,b4,b5,b6,b7,b8,b9,b10,b11,b12,b13,b14,?_,fun j hj=>?_⟩
    . rw [Nat.add_comm]
      have:=(Steps.cons hw e1 (.nil _ _)).app b1
      rwa [Nat.add_comm] at this ⊢
    . intro j j1 j2
      by_cases e:j=l+1
      . subst e
        have gn:Jh w2.O3 (l+1)=some n:=by
          rw [b16 (l+1) (by lia)]
          show Jh (zS w.O3 p.lv n) (l+1)=_
          rw [qE,C9 hl.symm]
        refine ⟨n,p,gn,by rw [b3];exact hn,hl,?_⟩
        obtain ⟨_,x1,x2,x3⟩:=hin
        rw [hn] at x1;cases x1
        refine ⟨p,by rw [b3];exact hn,?_,by rw [b8];exact x3⟩
        rw [b8]
        obtain ⟨_,y1,y2,y3⟩:=b14
        rw [b12] at y1;cases y1
        intro v hv
        have W2:=b2.wok b6
        by_cases pl:w2.O6=none
        . have:=W2.none_ pl _ n gn;lia
        . obtain ⟨m,hm⟩:∃ m,w2.O6=some m:=by
            cases h:w2.O6 with
            | none=>exact absurd h pl
            | some m=>exact ⟨m,rfl⟩
          have em:m=n2:=by rw [hm] at b11;exact b11
          subst em
          obtain ⟨u,u1,u2⟩:=W2.above m p2 hm b12 _ n gn (by lia) v hv
          have:=y2 u u1
          have e8:w2.aim=w.aim:=b8
          lia
      . exact b15 j j1 (by lia)
    . rw [b16 j (by lia)]
      show Jh (zS w.O3 p.lv n) j=_
      rw [qE,C8 (by lia)]
structure Bs (S:Sh) (bg:Bg) (F:Es) (w:Wk) (R:Nat):Prop where
 al:Al S bg F w
 live:w.O7=false
 root:∃ p,S.pg[S.top]?=some p/\p.lv=R
 pos:0 < w.O4
 le:w.O4<=R+1
 pl:w.O6=Jh w.O3 w.O4
 kp:Kp S bg w w.O4 R
 no:∀ j,R < j->Jh w.O3 j=none
theorem Kp.up (T:Tree S bg) (K:Kp S bg w (p.lv+1) R) (hn:S.pg[n]?=some p) (hin:In S bg n w.aim) (hk:In S bg n k):∀ (j:Nat) (f:Nat),p.lv+1<=j->j<=R->Jh w.O3 j=some f->In S bg f k:=by
  have key:∀ (i:Nat),p.lv+1+i<=R->∃ f q,Jh w.O3 (p.lv+1+i)=some f/\S.pg[f]?=some q/\q.lv=p.lv+1+i/\In S bg f k:=by
    intro i
    induction i with
    | zero =>
      intro h
      obtain ⟨f,q,a1,a2,a3,a4⟩:=K (p.lv+1) (Ae _) h
      exact ⟨f,q,a1,a2,a3,T.nest_in hn a2 (by lia) hin a4 hk⟩
    | succ i ih =>
      intro h
      obtain ⟨f,q,a1,a2,a3,a4⟩:=ih (by lia)
      obtain ⟨f1,q1,b1,b2,b3,b4⟩:=K (p.lv+1+i) (by lia) (by lia)
      rw [a1] at b1;cases b1
      obtain ⟨f2,q2,c1,c2,c3,c4⟩:=K (p.lv+1+(i+1)) (by lia) h
      exact ⟨f2,q2,c1,c2,c3,T.nest_in a2 c2 (by lia) b4 c4 a4⟩
  intro j f h1 h2 hf
  obtain ⟨f',q,a1,a2,a3,a4⟩:=key (j - (p.lv+1)) (by lia)
  rw [show p.lv+1+(j - (p.lv+1))=j by lia,hf] at a1
  cases a1;exact a4
theorem Bs.of (T:Tree S bg) (A':Al S' bg' F' w') (g:Grow S bg S' bg') (hn:S.pg[n]?=some p) (hin:In S bg n w.aim) (hk:In S bg n (JJ P)) (K:Kp S bg w (p.lv+1) R) (no:∀ j,R < j->Jh w.O3 j=none) (hr:∃ z,S.pg[S.top]?=some z/\z.lv=R) (hpR:p.lv<=R)
  (hS:S'.pg=(S.pg++[QC P]).set n (QS P S.pg.length)) (ht:S'.top=S.top) (e1:w'.O4=p.lv+1) (e2:w'.aim=JJ P) (e3:w'.O6=Jh w.O3 (p.lv+1)) (e4:w'.O3=w.O3) (e5:w'.O7=false):Bs S' bg' F' w' R where
 al:=A'
 live:=e5
 root:=by
  obtain ⟨z,h1,h2⟩:=hr
  obtain ⟨_,z',h3,h4⟩:=g.old _ z h1
  exact ⟨z',by rw [ht];exact h3,by lia⟩
 pos:=by lia
 le:=by lia
 pl:=by rw [e3,e4,e1]
 kp:=fun j j1 j2=>by
  rw [e1] at j1
  obtain ⟨f,q,a1,a2,a3,a4⟩:=K j j1 j2
  have h:=K.up T hn hin hk j f j1 j2 a1
  have ne:f≠n:=fun e=>by subst e;rw [hn] at a2;cases a2;lia
  have same:S'.pg[f]?=S.pg[f]?:=by
   rw [hS,Am (fun e=>ne e.symm),a2];exact JD a2
  exact ⟨f,q,by rw [e4];exact a1,by rw [same];exact a2,a3,by rw [e2];exact h.grow g same⟩
 no:=fun j h=>by rw [e4];exact no j h
theorem kC (ok:Jv P.ks.length (bg n) P) (h3:3<=P.ks.length) (hn:S.pg[n]?=some p) (hh:P.hi=p.hi):In S bg n (JJ P):=by
 have m:=Aw (Yh (P:=P) (by lia))
 exact ⟨p,hn,ok.low _ m,by rw [<- hh];exact ok.high _ m⟩
theorem Bs.finish:∀ (m:Nat) {S:Sh} {bg:Bg} {w:Wk},Bs S bg F w R->R+1 - w.O4=m->∃ m' S' bg' w',Grow S bg S' bg'/\Steps m' S w S' w'/\m'<=m+1/\Al S' bg' F w'/\w'.O7=true/\w'.O1=w.O1/\w'.O5=w.O5/\w'.O0=w.O0/\S'.O2=S.O2:=by
  intro m
  induction m with
  | zero =>
    intro S bg w B hm
    have hg:w.O4=R+1:=by have:=B.le;lia
    have pn:w.O6=none:=by rw [B.pl];exact B.no _ (by lia)
    obtain ⟨z,hz,hzl⟩:=B.root
    obtain ⟨r,S',w',bg',F',s1,A',g1,d1,dd1,rr⟩:=B.al.step B.live
    obtain ⟨k,q,a1,a2,a3,a4⟩:=(B.al.wok B.live).tell B.pos
    have hs:=s1
    unfold Jg at hs
    rw [C8 (by rw [B.live];simp),pn] at hs
    simp only [Option.getD_none,hz] at hs
    rw [C9 ⟨trivial,by lia⟩] at hs
    simp only [a1] at hs
    cases hs
    obtain ⟨_,hF,b1,b2,b3⟩:=d1
    rw [hF] at A'
    exact ⟨1,_,_,_,g1,.cons B.live s1 (.nil _ _),Ae _,A',rfl,rfl,rfl,rfl,rr⟩
  | succ m ih =>
    intro S bg w B hm
    have hg:w.O4<=R:=by lia
    obtain ⟨f,q,a1,a2,a3,a4⟩:=B.kp w.O4 (Ae _) hg
    have pf:w.O6=some f:=B.pl.trans a1
    obtain ⟨_,b0,b1,b2⟩:=a4
    rw [a2] at b0;cases b0
    obtain ⟨r,S',w',bg',F',s1,A',g1,d1,dd1,rr⟩:=B.al.step B.live
    have W:=B.al.wok B.live
    obtain ⟨k,z,c1,c2,c3,c4⟩:=W.tell B.pos
    have nb:Zh q w.aim=false:=by
      unfold Zh
      cases hh:q.hi with
      | none=>rfl
      | some h=>have:=b2 h hh;simp;lia
    have hs:=s1
    unfold Jg at hs
    rw [C8 (by rw [B.live];simp),pf] at hs
    simp only [Option.getD_some,a2] at hs
    rw [C8 (by simp),nb,C8 (by simp),C8 (by lia),C9 B.pos] at hs
    simp only [c1] at hs
    simp only [Option.some.injEq,Bp] at hs
    obtain ⟨rfl,rfl,rfl⟩:=hs
    obtain ⟨_,hF,x1,x2,x3,x4⟩:=d1
    rw [hF] at A'
    by_cases hroom:(Q2 q w.aim k).ks.length<=S.O2
    . have en:(Qs { S with rd:=S.rd+1 } w f (Q2 q w.aim k)).2.2.O7=true:=by unfold Qs;rw [C9 hroom]
      exact ⟨1,_,_,_,g1,.cons B.live s1 (.nil _ _),by lia,A',en,x1,x2,dd1,rr⟩
    . obtain ⟨n1,n2⟩:=vB B.al.tree a2 c2 (by lia) c4 (B.al.unt B.live B.pos k c1)
      have lt:ltB (bg f) w.aim:=fun v hv=>by
        have:=b1 v hv
        have:v≠w.aim:=fun e=>n2 (by rw [hv,e])
        lia
      have okP:=VW (B.al.tree.page f q a2) (by have:=B.pos;lia) (c:=k) n1 lt b2
      have r2:=B.al.tree.room2
      have B':Bs (Qs { S with rd:=S.rd+1 } w f (Q2 q w.aim k)).2.1 bg' F (Qs { S with rd:=S.rd+1 } w f (Q2 q w.aim k)).2.2 R:=by
        refine Bs.of (P:=Q2 q w.aim k) B.al.tree A' g1 a2 ⟨q,a2,b1,b2⟩ (kC okP (by lia) a2 rfl) (fun j j1 j2=>B.kp j (by lia) j2) B.no B.root (by lia) ?_ ?_ ?_ ?_ ?_ ?_ ?_
        all_goals (unfold Qs;rw [C8 hroom];first | done | exact B.live | rfl)
      have gl:(Qs { S with rd:=S.rd+1 } w f (Q2 q w.aim k)).2.2.O4=w.O4+1:=by
        unfold Qs;rw [C8 hroom];show q.lv+1=_;lia
      obtain ⟨m',S2,bg2,w2,t0,t1,t2,t3,t4,t5,t6,t7,t8⟩:=ih B' (by lia)
      exact ⟨m'+1,S2,bg2,w2,g1.trans t0,.cons B.live s1 t1,by lia,t3,t4,t5.trans x1,t6.trans x2,t7.trans dd1,t8.trans rr⟩
end
section
variable {S S':Sh} {bg bg':Bg} {n f:Nat} {p q P:Pg} {w w':Wk} {r:Row} {a k:Int} {F F':Es} {R:Nat}
def JO (S:Sh) (l:Nat):Nat:=((List.range S.pg.length).filter (lvB S fun x=>decide (x=l))).length
theorem Ve {l:Nat} (h:S.pg[n]?=some p) (hl:p.lv=l):n∈(List.range S.pg.length).filter (lvB S fun x=>decide (x=l)) :=
 Bm.mpr ⟨Ch.mpr (Zi h),by unfold lvB;rw [h];simpa using hl⟩
def gA {l:Nat} (h:S.pg[n]?=some p) (hl:p.lv=l):1<=JO S l:=List.length_pos_of_mem (Ve h hl)
theorem Qgp {l:List Nat} {x y:Nat} (hx:x∈l) (hy:y∈l) (ne:x≠y):2<=l.length:=by
  cases l with
  | nil=>cases hx
  | cons a l =>
    cases l with
    | nil =>
      rw [Ar] at hx hy
      exact absurd (hx.trans hy.symm) ne
    | cons b l=>simp
theorem Qdg (T:Tree S bg) (K:Fk S) (h:S.pg[n]?=some p) (hl:0 < p.lv):2<=JO S (p.lv - 1):=by
 have k1:=K n p h hl
 have pl:=(T.page n p h).parts
 rw [C8 (by lia)] at pl
 obtain ⟨c,q,a1,a2,a3,a4⟩:=T.kid n p h hl 0 _ (Ab (by lia:0 < p.ps.length))
 obtain ⟨d,z,b1,b2,b3,b4⟩:=T.kid n p h hl 1 _ (Ab (by lia:1 < p.ps.length))
 refine Qgp (Ve a2 (by lia)) (Ve b2 (by lia)) fun e=>?_
 subst e
 have a4:bg c=bg n:=a4
 have b4:bg c=p.ks[0]?:=b4
 rw [Ab (by lia:0 < p.ks.length)] at b4
 have:=(T.page n p h).lowF hl _ (B9 (by lia:0 < p.ks.length)) _ (a4.symm.trans b4)
 lia
theorem yG (m:Nat):∀ (R:Nat),(∀ j,0 < j->j<=R->m<=JO S (j - 1))->R * m<=((List.range S.pg.length).filter (lvB S fun x=>decide (x < R))).length
  | 0,_=>by simp
  | R+1,h=>by
    have ih:=yG m R fun j a b=>h j a (by lia)
    have:=h (R+1) (by lia) (Ae _)
    rw [XU,Nat.succ_mul]
    unfold JO at this
    simp only [Nat.add_sub_cancel] at this
    lia
theorem Tree.pages_two (T:Tree S bg) (K:Fk S) (hr:S.pg[S.top]?=some p) (hK:∀ j,0 < j->j<=p.lv->∃ (f:Nat) (q:Pg),S.pg[f]?=some q/\q.lv=j):2 * p.lv+1<=S.pg.length:=by
 obtain ⟨z,r1,r2⟩:=T.root
 rw [hr] at r1;cases r1
 have a:=j8 (S:=S) (L:=p.lv) r2
 rw [XU] at a
 have b:=yG (S:=S) 2 p.lv fun j h1 h2=>by
  obtain ⟨f,q,x1,x2⟩:=hK j h1 h2
  subst x2
  exact Qdg T K x1 h1
 have c:=gA hr rfl
 unfold JO at c
 lia
theorem Tree.pages_row (T:Tree S bg) (hr:S.pg[S.top]?=some p) (hK:∀ j,0 < j->j<=p.lv->∃ (f:Nat) (q:Pg),S.pg[f]?=some q/\q.lv=j):JO S 0+p.lv<=S.pg.length:=by
  obtain ⟨z,r1,r2⟩:=T.root
  rw [hr] at r1;cases r1
  have a:=j8 (S:=S) (L:=p.lv) r2
  have key:∀ R,R<=p.lv->JO S 0+R<=((List.range S.pg.length).filter (lvB S fun x=>decide (x < R+1))).length:=by
    intro R
    induction R with
    | zero=>intro _;rw [XU,yH];unfold JO;lia
    | succ R ih =>
      intro h
      have:=ih (by lia)
      obtain ⟨f,q,x1,x2⟩:=hK (R+1) (by lia) h
      have:=gA x1 x2
      rw [XU]
      unfold JO at *
      lia
  have:=key p.lv (Ae _)
  lia
def lfR (S:Sh) (bg:Bg) (n:Nat):Nat:=((List.range S.pg.length).filter fun m=>lvB S (fun x=>decide (x=0)) m&&ltO (bg n) (bg m)).length
theorem Qfx (S:Sh) (bg:Bg) (hn:S.pg[n]?=some p) (hz:p.lv=0):lfR S bg n+1<=JO S 0:=by
 refine jp (lvB S fun x=>decide (x=0)) _ _ (fun x _ hx=>(Bool.and_eq_true_iff.mp hx).1) ⟨n,Ch.mpr (Zi hn),?_,?_⟩
 ·unfold lvB;rw [hn];simpa using hz
 ·rw [yq,Bool.and_false]
theorem uB (h:ltH k p.hi):Zh p k=false:=by
 unfold Zh
 cases hh:p.hi with
 | none=>rfl
 | some x=>have:=h x hh;simp;lia
theorem xp (hw:w.O7=false) (h0:w.O6.getD S.top=n) (hn:S.pg[n]?=some p) (hg:w.O4=0) (hz:p.lv=0) (hh:ltH w.aim p.hi):Jg S w=some (ZO { S with rd:=S.rd+1 } w n p):=by
 unfold Jg
 rw [C8 (by rw [hw];simp),h0]
 simp only [hn]
 rw [C8 (by lia),uB hh,C8 (by simp),C8 (by lia),C8 (by lia)]
theorem Qcy:∀ (m:Nat) {S:Sh} {bg:Bg} {w:Wk} {n:Nat} {p:Pg} {l h:Int},Al S bg F w->w.O7=false->w.O4=0->w.O0=.stretch l h->l<=w.aim->w.aim < h->Rds F l w.aim w.O5->w.O6.getD S.top=n->S.pg[n]?=some p->p.lv=0->In S bg n w.aim->lfR S bg n<=m ->
    ∃ m' S' bg' w',Grow S bg S' bg'/\Steps m' S w S' w'/\m'<=m+1/\Al S' bg' F w'/\w'.O7=true/\Rds F l h w'.O5/\w'.O0=w.O0/\S'.O2=S.O2:=by
  intro m
  induction m with
  | zero =>
    intro S bg w n p l h A hw hg hd hl hh hr h0 hn hz hin hm
    obtain ⟨_,e1,a1,a2⟩:=hin;rw [hn] at e1;cases e1
    obtain ⟨r,S',w',bg',F',s1,A',g1,d1,dd1,rr⟩:=A.step hw
    have ls:=xp hw h0 hn hg hz a2
    have join:∀ {e:Int} {ps:Em},w.aim<=e->Rds F w.aim e ps->Rds F l e (w.O5++ps):=fun {e ps} he ⟨x1,x2⟩=>by
      refine ⟨Bv.mpr ⟨hr.1,x1,fun x hx y hy=>?_⟩,fun k v=>?_⟩
      . have:=((hr.2 x.1 x.2).mp hx).2;have:=((x2 y.1 y.2).mp hy).2;lia
      . rw [Ai,hr.2,x2]
        constructor
        . rintro (⟨u1,u2,u3⟩ | ⟨u1,u2,u3⟩)
          . exact ⟨u1,u2,by lia⟩
          . exact ⟨u1,by lia,u3⟩
        . rintro ⟨u1,u2,u3⟩
          rcases Int.lt_or_le k w.aim with c | c
          . exact .inl ⟨u1,u2,c⟩
          . exact .inr ⟨u1,c,u3⟩
    have over:∀ {ps:Em},r=.read n ps none->∃ m' S' bg' w',Grow S bg S' bg'/\Steps m' S w S' w'/\m'<=0+1/\Al S' bg' F w'/\w'.O7=true/\Rds F l h w'.O5/\w'.O0=w.O0/\S'.O2=S.O2:=fun {ps} e=>by
      subst e
      obtain ⟨l',h',b1,b2,b3,b4,b5,b6⟩:=d1
      rw [hd] at b1;cases b1
      rw [b2] at A'
      exact ⟨1,S',bg',w',g1,.cons hw s1 (.nil _ _),Ae _,A',b6,by rw [b3];exact join (by lia) b5,dd1,rr⟩
    rw [ls] at s1
    have s1':=Ak s1
    unfold ZO at s1'
    rw [hd] at s1'
    dsimp only at s1'
    rcases A.tree.link n p hn with ⟨x,y⟩ | ⟨x,s,z,y1,y2,y3,y4,y5⟩
    . simp only [x,y] at s1'
      exact over (congrArg (·.1) s1').symm
    . simp only [y1,y2] at s1'
      by_cases hx:h<=x
      . rw [C9 hx] at s1'
        exact over (congrArg (·.1) s1').symm
      . exfalso
        have:s∈(List.range S.pg.length).filter fun m=>lvB S (fun x=>decide (x=0)) m&&ltO (bg n) (bg m):=by
          refine Bm.mpr ⟨Ch.mpr (Zi y3),?_⟩
          rw [Bc]
          refine ⟨by unfold lvB;rw [y3];simp;lia,?_⟩
          rw [y5];exact jB ((A.tree.page n p hn).wide x y1)
        have:=List.length_pos_of_mem this
        unfold lfR at hm
        lia
  | succ m ih =>
    intro S bg w n p l h A hw hg hd hl hh hr h0 hn hz hin hm
    obtain ⟨_,e1,a1,a2⟩:=hin;rw [hn] at e1;cases e1
    obtain ⟨r,S',w',bg',F',s1,A',g1,d1,dd1,rr⟩:=A.step hw
    have ls:=xp hw h0 hn hg hz a2
    have join:∀ {e:Int} {ps:Em},w.aim<=e->Rds F w.aim e ps->Rds F l e (w.O5++ps):=fun {e ps} he ⟨x1,x2⟩=>by
      refine ⟨Bv.mpr ⟨hr.1,x1,fun x hx y hy=>?_⟩,fun k v=>?_⟩
      . have:=((hr.2 x.1 x.2).mp hx).2;have:=((x2 y.1 y.2).mp hy).2;lia
      . rw [Ai,hr.2,x2]
        constructor
        . rintro (⟨u1,u2,u3⟩ | ⟨u1,u2,u3⟩)
          . exact ⟨u1,u2,by lia⟩
          . exact ⟨u1,by lia,u3⟩
        . rintro ⟨u1,u2,u3⟩
          rcases Int.lt_or_le k w.aim with c | c
          . exact .inl ⟨u1,u2,c⟩
          . exact .inr ⟨u1,c,u3⟩
    have over:∀ {ps:Em},r=.read n ps none->∃ m' S' bg' w',Grow S bg S' bg'/\Steps m' S w S' w'/\m'<=m+1+1/\Al S' bg' F w'/\w'.O7=true/\Rds F l h w'.O5/\w'.O0=w.O0/\S'.O2=S.O2:=fun {ps} e=>by
      subst e
      obtain ⟨l',h',b1,b2,b3,b4,b5,b6⟩:=d1
      rw [hd] at b1;cases b1
      rw [b2] at A'
      exact ⟨1,S',bg',w',g1,.cons hw s1 (.nil _ _),by lia,A',b6,by rw [b3];exact join (by lia) b5,dd1,rr⟩
    have s1c:=s1
    rw [ls] at s1
    have s1':=Ak s1
    unfold ZO at s1'
    rw [hd] at s1'
    dsimp only at s1'
    rcases A.tree.link n p hn with ⟨x,y⟩ | ⟨x,s,z,y1,y2,y3,y4,y5⟩
    . simp only [x,y] at s1'
      exact over (congrArg (·.1) s1').symm
    . simp only [y1,y2] at s1'
      by_cases hx:h<=x
      . rw [C9 hx] at s1'
        exact over (congrArg (·.1) s1').symm
      . rw [C8 hx] at s1'
        have er:r=.read n (QT p l h) (some (s,x)):=(congrArg (·.1) s1').symm
        have eS:S'={ S with rd:=S.rd+1 }:=(congrArg (·.2.1) s1').symm
        have ew:w'.O6=some s:=by have:=congrArg (·.2.2.O6) s1';exact this.symm
        subst er
        obtain ⟨l',h',b1,b2,b3,b4,b5,b6,b7,b8,b9,b10⟩:=d1
        rw [hd] at b1;cases b1
        rw [b2] at A'
        have pgS:S'.pg=S.pg:=by rw [eS]
        have hs':S'.pg[s]?=some z:=by rw [pgS];exact y3
        have bgs:bg' s=some x:=by rw [(g1.old s z y3).1];exact y5
        have inS:In S' bg' s w'.aim:=by
          refine ⟨z,hs',fun v hv=>?_,fun v hv=>?_⟩
          . rw [bgs] at hv;cases hv;rw [b8];exact Bo _
          . rw [b8];exact (A'.tree.page s z hs').wide v hv x bgs
        have less:lfR S' bg' s<=m:=by
          have:lfR S' bg' s < lfR S bg n:=by
            unfold lfR
            rw [pgS]
            refine jp _ _ _ (fun y hy hq=>?_) ⟨s,Ch.mpr (Zi y3),?_,?_⟩
            . obtain ⟨q1,q2⟩:=Bool.and_eq_true_iff.mp hq
              have ly:=Ch.mp hy
              have by':bg' y=bg y:=(g1.old y _ (Ab ly)).1
              rw [Bc]
              refine ⟨by unfold lvB at q1 ⊢;rw [pgS] at q1;exact q1,?_⟩
              rw [by',bgs] at q2
              exact UL (jB ((A.tree.page n p hn).wide x y1)) q2
            . rw [Bc]
              refine ⟨by unfold lvB;rw [y3];simp;lia,?_⟩
              rw [y5];exact jB ((A.tree.page n p hn).wide x y1)
            . rw [yq,Bool.and_false]
          lia
        obtain ⟨m',S2,bg2,w2,t0,t1,t2,t3,t4,t5,t6,t7⟩:=ih A' b9 b10 (dd1.trans hd) (by lia) (by lia) (by rw [b3,b8];exact join (by lia) b7) (by rw [ew];rfl) hs' (by lia) inS less
        exact ⟨m'+1,S2,bg2,w2,g1.trans t0,.cons hw s1c t1,by lia,t3,t4,t5,t6.trans dd1,t7.trans rr⟩
def Ans (F F':Es) (w:Wk):Deed->Prop
 | .find k=>F'=F/\w.O1=F k
 | .put k x=>F'=vC F k x/\w.O1=F k
 | .cut k=>F'=xH F k/\w.O1=F k
 | .stretch l h=>F'=F/\Rds F l h w.O5
def U6:Deed->Prop
 | .stretch l h=>l < h
 | _=>True
theorem QgB (T:Tree S bg) (D:∀ s,s < S.pg.length->s≠S.top->Kd S s) (K:Fk S) (hT:TabIs S F) (d:Deed) (hd:U6 d):
    ∃ m S' bg' F' w',Grow S bg S' bg'/\Steps m S (fresh d) S' w'/\m<=S.pg.length+8/\Al S' bg' F' w'/\w'.O7=true/\Ans F F' w' d/\w'.O0=d/\S'.O2=S.O2:=by
  have A:Al S bg F (fresh d):=by
    refine ⟨T,K,hT,fun n h1 h2=>.inl (D n h1 h2),fun _=>?_,fun _=>WOk.fresh rfl rfl rfl,fun _ h=>absurd h (by show ¬ 0 < 0;lia)⟩
    cases d with
    | find k=>rfl
    | put k x=>rfl
    | cut k=>rfl
    | stretch l h=>exact ⟨hd,.inl rfl⟩
  obtain ⟨rt,hr,_⟩:=T.root
  have rh:=T.root_hi D hr
  have inR:In S bg S.top (fresh d).aim:=⟨rt,hr,fun v hv=>(by rw [T.rbg] at hv;cases hv),fun v hv=>(by rw [rh] at hv;cases hv)⟩
  obtain ⟨S2,bg2,w2,n2,p2,b0,b1,b2,b3,b4,b5,b6,b7,b8,b9,b10,b11,b12,b13,b14,b15,b16⟩:=gE (F:=F) rt.lv A rfl rfl rfl rfl hr inR
  have hr2:S2.pg[S2.top]?=some rt:=by rw [b3,b4];exact hr
  have hK:∀ j,0 < j->j<=rt.lv->∃ (f:Nat) (q:Pg),S.pg[f]?=some q/\q.lv=j:=fun j h1 h2=>by
    obtain ⟨f,q,_,x2,x3,_⟩:=b15 j h1 h2
    exact ⟨f,q,by rw [<- b3];exact x2,x3⟩
  have two:=T.pages_two K hr hK
  have row:=T.pages_row hr hK
  have no:∀ j,rt.lv < j->Jh w2.O3 j=none:=fun j h=>by rw [b16 j h];rfl
  obtain ⟨_,y0,y1,y2⟩:=b14
  rw [b12] at y0;cases y0
  have ls:=xp b6 b11 b12 b7 b13 y2
  have dk:w2.O0=d:=b9
  obtain ⟨r,S3,w3,bg3,F3,s3,A3,g3,d3,dd3,rr3⟩:=b2.step b6
  cases d with
  | find k =>
    have s3':=s3
    rw [ls] at s3'
    have q:=Ak s3'
    unfold ZO at q;rw [dk] at q;dsimp only at q
    have er:=(congrArg (·.1) q).symm
    subst er
    obtain ⟨k',z1,z2,z3,z4,z5,z6⟩:=d3
    rw [dk] at z1;cases z1
    exact ⟨_,S3,bg3,F3,w3,b0.trans g3,b1.snoc b6 s3,by lia,A3,z6,⟨z3,z4⟩,dd3.trans dk,rr3.trans b5⟩
  | cut k =>
    have s3':=s3
    rw [ls] at s3'
    have q:=Ak s3'
    unfold ZO at q;rw [dk] at q;dsimp only at q
    have er:=(congrArg (·.1) q).symm
    subst er
    obtain ⟨k',z1,z2,z3,z4,z5,z6⟩:=d3
    rw [dk] at z1;cases z1
    exact ⟨_,S3,bg3,F3,w3,b0.trans g3,b1.snoc b6 s3,by lia,A3,z6,⟨z3,z4⟩,dd3.trans dk,rr3.trans b5⟩
  | put k x =>
    have s3':=s3
    rw [ls] at s3'
    have q:=Ak s3'
    unfold ZO at q;rw [dk] at q;dsimp only at q
    simp only [Bp] at q
    obtain ⟨rfl,rfl,rfl⟩:=q
    obtain ⟨k',x',z1,z2,z3,z4,z5,z6,z7⟩:=d3
    rw [dk] at z1;cases z1
    by_cases hroom:(QH p2 w2.aim x).ks.length<=S2.O2
    . refine ⟨_,_,bg3,F3,_,b0.trans g3,b1.snoc b6 s3,by lia,A3,?_,⟨z3,z4⟩,dd3.trans dk,rr3.trans b5⟩
      unfold Qs;rw [C9 hroom]
    . have r2:=b2.tree.room2
      have okP:=ya (x:=x) (b2.tree.page n2 p2 b12) b13 y1 y2
      have B:=by
        refine Bs.of (R:=rt.lv) (P:=QH p2 w2.aim x) (w:=w2) (n:=n2) (p:=p2) b2.tree A3 g3 b12 ⟨p2,b12,y1,y2⟩ (kC okP (by lia) b12 rfl) (by rw [b13];exact b15) no ⟨rt,hr2,rfl⟩ (by lia) ?_ ?_ ?_ ?_ ?_ ?_ ?_
        all_goals (unfold Qs;rw [C8 hroom];first | done | exact b6 | rfl)
      obtain ⟨m',S4,bg4,w4,t0,t1,t2,t3,t4,t5,t6,t7,t8⟩:=B.finish _ rfl
      exact ⟨_,S4,bg4,F3,w4,(b0.trans g3).trans t0,(b1.snoc b6 s3).app t1,by lia,t3,t4,⟨z3,t5.trans z4⟩,t7.trans (dd3.trans dk),t8.trans (rr3.trans b5)⟩
  | stretch l h =>
    have hd:l < h:=hd
    have e8:w2.aim=l:=b8
    obtain ⟨m',S4,bg4,w4,t0,t1,t2,t3,t4,t5,t6,t7⟩:=Qcy (lfR S2 bg2 n2) b2 b6 b7 dk (by lia) (by lia) ⟨by rw [b10];exact List.Pairwise.nil,fun k v=>⟨fun hm=>(by rw [b10] at hm;cases hm),fun ⟨_,u2,u3⟩=>(by lia)⟩⟩ b11 b12 b13 ⟨p2,b12,y1,y2⟩ (Ae _)
    have lr:=Qfx S2 bg2 b12 b13
    have ce:JO S2 0=JO S 0:=by unfold JO lvB;rw [b3]
    exact ⟨_,S4,bg4,F,w4,b0.trans t0,b1.app t1,by lia,t3,t4,⟨rfl,t5⟩,t6.trans dk,t7.trans b5⟩
end
def gm (L:Em):Prop:=L.Pairwise (fun x y=>x.1 < y.1)
theorem jT:∀ {L M:Em},gm L->gm M->(∀ x,x∈L↔x∈M)->L=M
  | [],[],_,_,_=>rfl
  | [],y::M,_,_,h=>by have:=(h y).mpr (by simp);cases this
  | x::L,[],_,_,h=>by have:=(h x).mp (by simp);cases this
  | x::L,y::M,hL,hM,h=>by
    obtain ⟨a1,a2⟩:=Cp.mp hL
    obtain ⟨b1,b2⟩:=Cp.mp hM
    have e:x=y:=by
      have hx:=(h x).mp (by simp)
      have hy:=(h y).mpr (by simp)
      rcases Bk.mp hx with hx | hx
      . exact hx
      . rcases Bk.mp hy with hy | hy
        . exact hy.symm
        . have:=a1 y hy;have:=b1 x hx;lia
    subst e
    congr 1
    refine jT a2 b2 fun z=>⟨fun hz=>?_,fun hz=>?_⟩
    . rcases Bk.mp ((h z).mp (Ax _ hz)) with e | hz'
      . subst e;have:=a1 z hz;lia
      . exact hz'
    . rcases Bk.mp ((h z).mpr (Ax _ hz)) with e | hz'
      . subst e;have:=b1 z hz;lia
      . exact hz'
section
variable {S S':Sh} {bg bg':Bg} {F:Es}
end
section
variable {S S':Sh} {bg bg':Bg} {n f:Nat} {p q P:Pg} {w w':Wk} {r:Row} {a k:Int} {F F':Es} {R:Nat}
theorem uU (S:Sh) (w:Wk) (n:Nat) (P:Pg) (hn:n < S.pg.length):((Qs S w n P).2.1.pg.length=S.pg.length/\(Qs S w n P).2.2.O4=w.O4)∨((Qs S w n P).2.1.pg.length=S.pg.length+1/\(Qs S w n P).2.1.pg[S.pg.length]?=some (QC P)/\(Qs S w n P).2.2.O4=P.lv+1):=by
 unfold Qs
 by_cases hr:P.ks.length<=S.O2
 ·rw [C9 hr];exact .inl ⟨by simp,rfl⟩
 ·rw [C8 hr]
  refine .inr ⟨by simp,?_,rfl⟩
  show ((S.pg++[QC P]).set n (QS P S.pg.length))[S.pg.length]?=_
  rw [Am (by lia)];simp
theorem QcU (T:Tree S bg) (W:WOk S bg w) (hw:w.O7=false) (hs:Jg S w=some (r,S',w')):(0 < w.O4->0 < w'.O4)/\(S'.pg.length=S.pg.length∨(S'.pg.length=S.pg.length+1/\∃ q,S'.pg[S.pg.length]?=some q/\q.lv=w.O4/\0 < w'.O4)):=by
  obtain ⟨n,hn0,hpl⟩:∃ n,w.O6.getD S.top=n/\(w.O6=some n∨(w.O6=none/\n=S.top)):=by
    cases e:w.O6 with
    | none=>exact ⟨S.top,rfl,.inr ⟨rfl,rfl⟩⟩
    | some m=>exact ⟨m,rfl,.inl rfl⟩
  obtain ⟨p,hn⟩:∃ p,S.pg[n]?=some p:=by
    rcases hpl with U | ⟨_,rfl⟩
    . obtain ⟨p,a,_⟩:=W.at_ n U;exact ⟨p,a⟩
    . obtain ⟨p,a,_⟩:=T.root;exact ⟨p,a⟩
  have ln:=Zi hn
  unfold Jg at hs
  rw [C8 (by rw [hw];simp),hn0] at hs
  simp only [hn] at hs
  by_cases hr:w.O6=none/\p.lv < w.O4
  . rw [C9 hr] at hs
    obtain ⟨k,q,a1,a2,a3,a4⟩:=W.tell (by lia)
    simp only [a1] at hs
    cases hs
    refine ⟨id,.inr ⟨by simp,_,by simp;rfl,?_,by show 0 < w.O4;lia⟩⟩
    show p.lv+1=w.O4
    have htop:n=S.top:=by
      rcases hpl with U | ⟨_,e⟩
      . rw [hr.1] at U;cases U
      . exact e
    subst htop
    obtain ⟨r,b1,b2⟩:=T.root
    rw [hn] at b1;cases b1
    have:=b2 k q a2;lia
  . rw [C8 hr] at hs
    cases hb:Zh p w.aim with
    | true =>
      rw [hb,C9 rfl] at hs
      cases hsd:p.sd with
      | none=>rw [hsd] at hs;cases hs
      | some s=>rw [hsd] at hs;cases hs;exact ⟨id,.inl rfl⟩
    | false =>
      rw [hb,C8 (by simp)] at hs
      by_cases hd:w.O4 < p.lv
      . rw [C9 hd] at hs
        cases hq:p.ps[cLe p.ks w.aim]? with
        | none=>rw [hq] at hs;cases hs
        | some c=>rw [hq] at hs;cases hs;exact ⟨id,.inl rfl⟩
      . rw [C8 hd] at hs
        have hg:w.O4<=p.lv:=by
          rcases hpl with U | ⟨U,_⟩
          . obtain ⟨p',b1,b2,_⟩:=W.at_ n U
            rw [hn] at b1;cases b1;exact b2
          . exact Cz fun h=>hr ⟨U,h⟩
        have back:∀ (w0:Wk) (P:Pg),w0.O4=w.O4->P.lv=p.lv->(0 < w.O4->0 < (Qs { S with rd:=S.rd+1 } w0 n P).2.2.O4)/\((Qs { S with rd:=S.rd+1 } w0 n P).2.1.pg.length=S.pg.length∨((Qs { S with rd:=S.rd+1 } w0 n P).2.1.pg.length=S.pg.length+1/\∃ q,(Qs { S with rd:=S.rd+1 } w0 n P).2.1.pg[S.pg.length]?=some q/\q.lv=w.O4/\0 < (Qs { S with rd:=S.rd+1 } w0 n P).2.2.O4)):=fun w0 P e0 hl=>by
          rcases uU { S with rd:=S.rd+1 } w0 n P ln with ⟨h1,h2⟩ | ⟨h1,h2,h3⟩
          . exact ⟨fun h=>by lia,.inl h1⟩
          . exact ⟨fun h=>by lia,.inr ⟨h1,_,h2,by show P.lv=w.O4;lia,by lia⟩⟩
        by_cases h0:0 < w.O4
        . rw [C9 h0] at hs
          obtain ⟨k,q,a1,a2,a3,a4⟩:=W.tell h0
          simp only [a1] at hs
          simp only [Option.some.injEq,Bp] at hs
          obtain ⟨rfl,rfl,rfl⟩:=hs
          exact back w (Q2 p w.aim k) rfl rfl
        . rw [C8 h0] at hs
          have hs:=Ak hs
          unfold ZO at hs
          cases hdd:w.O0 with
          | find k=>rw [hdd] at hs;cases hs;exact ⟨fun h=>absurd h h0,.inl rfl⟩
          | put k x =>
            rw [hdd] at hs
            dsimp only at hs
            simp only [Bp] at hs
            obtain ⟨rfl,rfl,rfl⟩:=hs
            exact back _ (QH p w.aim x) rfl rfl
          | cut k =>
            rw [hdd] at hs;dsimp only at hs;cases hs
            refine ⟨fun h=>absurd h h0,.inl ?_⟩
            by_cases hq:(QR p w.aim).isSome=true
            . rw [C9 hq];simp
            . rw [C8 hq]
          | stretch l h =>
            rw [hdd] at hs;dsimp only at hs
            refine ⟨fun h=>absurd h h0,.inl ?_⟩
            cases hhi:p.hi with
            | none=>rw [hhi] at hs;cases hs;rfl
            | some x =>
              cases hsd:p.sd with
              | none=>rw [hhi,hsd] at hs;cases hs;rfl
              | some s =>
                rw [hhi,hsd] at hs
                dsimp only at hs
                by_cases hx:h<=x
                . rw [C9 hx] at hs;cases hs;rfl
                . rw [C8 hx] at hs;cases hs;rfl
theorem GZ (g:Grow S bg S' bg') {n:Nat} (hn:n < S.pg.length) (fn:Nat->Bool):lvB S' fn n=lvB S fn n:=by
 obtain ⟨_,p',h1,h2⟩:=g.old n _ (Ab hn)
 unfold lvB
 rw [h1,Ab hn]
 show fn p'.lv=fn _
 rw [h2]
theorem zM {α:Type} {f h:α->Bool}:∀ {l:List α},(∀ x∈l,f x=h x)->l.filter f=l.filter h
  | [],_=>rfl
  | x::l,e=>by
    rw [As,As,e x (by simp),zM fun y hy=>e y (Ax _ hy)]
theorem Qaj (g:Grow S bg S' bg') (h:S'.pg.length=S.pg.length) (l:Nat):JO S' l=JO S l:=by
 unfold JO
 rw [h,zM fun x hx=>GZ g (Ch.mp hx) _]
theorem Qai (g:Grow S bg S' bg') (h:S'.pg.length=S.pg.length+1) (hq:S'.pg[S.pg.length]?=some q) (l:Nat):JO S' l=JO S l+if q.lv=l then 1 else 0:=by
 unfold JO
 rw [h,List.range_succ,List.filter_append,An,zM fun x hx=>GZ g (Ch.mp hx) _]
 have e:lvB S' (fun x=>decide (x=l)) S.pg.length=decide (q.lv=l):=by unfold lvB;rw [hq]
 congr 1
 rw [As,e]
 by_cases c:q.lv=l<;>simp [c]
def lvs (S:Sh) (w:Wk):Nat:=JO S 0+if w.O4=0/\w.O7=false then 1 else 0
theorem Al.leaves (A:Al S bg F w) (hw:w.O7=false) (hs:Jg S w=some (r,S',w')) (g:Grow S bg S' bg'):lvs S' w'<=lvs S w:=by
 obtain ⟨h1,h2⟩:=QcU A.tree (A.wok hw) hw hs
 have key:∀ (c:Prop) [Decidable c],(if c then 1 else 0)<=1:=fun c _=>by split<;>lia
 unfold lvs
 rcases h2 with h2 | ⟨h2,q,h3,h4,h5⟩
 ·rw [Qaj g h2]
  by_cases c:w.O4=0
  ·rw [C9 (c:=w.O4=0/\w.O7=false) ⟨c,hw⟩]
   have:=key (w'.O4=0/\w'.O7=false)
   lia
  ·rw [C8 (c:=w'.O4=0/\w'.O7=false) (fun z=>by have:=h1 (by lia);lia)];lia
 ·rw [Qai g h2 h3,C8 (c:=w'.O4=0/\w'.O7=false) (fun z=>by lia)]
  by_cases c:w.O4=0
  ·rw [C9 (c:=w.O4=0/\w.O7=false) ⟨c,hw⟩]
   have:=key (q.lv=0)
   lia
  ·rw [C8 (c:=q.lv=0) (by lia)];lia
theorem Steps.leaves {m:Nat} (h:Steps m S w S' w'):∀ {bg F},Al S bg F w->lvs S' w'<=lvs S w:=by
  induction h with
  | nil S w=>intro bg F A;exact Ae _
  | cons hw hs _ ih =>
    intro bg F A
    obtain ⟨r,S',w',bg',F',s1,A',g1,_⟩:=A.step hw
    rw [hs] at s1;cases s1
    exact Bj (ih A') (A.leaves hw hs g1)
theorem zt:∀ {l m:List Nat},l.Nodup->(∀ x∈l,x∈m)->l.length<=m.length
  | [],m,_,_=>Be _
  | x::l,m,h,hs=>by
    obtain ⟨h1,h2⟩:=Cv.mp h
    have hx:=hs x (by simp)
    have:=zt (l:=l) (m:=m.erase x) h2 fun y hy=>by
      have ne:y≠x:=fun e=>h1 (e▸hy)
      exact (List.mem_erase_of_ne ne).mpr (hs y (Ax _ hy))
    rw [List.length_erase_of_mem hx] at this
    have:=List.length_pos_of_mem hx
    rw [Ba];lia
def xM (S:Sh) (n j:Nat):Nat:=match S.pg[n]? with
 | some p=>(p.ps.getD j 0).toNat
 | none=>0
theorem KA (T:Tree S bg) (K:Fk S) (hn:S.pg[n]?=some p) (hl:0 < p.lv) {j:Nat} (hj:j < 2):∃ q,S.pg[xM S n j]?=some q/\q.lv+1=p.lv/\bg (xM S n j)=Z8 (bg n) p.ks j:=by
 have pl:=(T.page n p hn).parts
 rw [C8 (by lia)] at pl
 have k1:=K n p hn hl
 obtain ⟨c,q,a1,a2,a3,a4⟩:=T.kid n p hn hl j _ (Ab (by lia:j < p.ps.length))
 have e:xM S n j=c:=by
  unfold xM;rw [hn]
  show (p.ps.getD j 0).toNat=c
  rw [List.getD_eq_getElem?_getD,Ab (by lia:j < p.ps.length),a1];rfl
 rw [e];exact ⟨q,a2,a3,a4⟩
theorem vw (T:Tree S bg) (K:Fk S) (hn:S.pg[n]?=some p) (hl:0 < p.lv) {j:Nat} (hj:j < 2):leBB (bg n) (Z8 (bg n) p.ks j)/\∀ h v,p.hi=some h->Z8 (bg n) p.ks j=some v->v < h:=by
  have ok:=T.page n p hn
  have k1:=K n p hn hl
  cases j with
  | zero=>exact ⟨leBB.refl _,fun h v h1 h2=>ok.wide h h1 v h2⟩
  | succ i =>
    have e:i=0:=by lia
    subst e
    have g:Z8 (bg n) p.ks (0+1)=some p.ks[0]:=Ab (l:=p.ks) (i:=0) k1
    have m:p.ks[0]∈p.ks:=B9 _
    rw [g]
    exact ⟨fun v hv=>⟨_,rfl,ok.low _ m v hv⟩,fun h v h1 h2=>by cases h2;exact ok.high _ m h h1⟩
theorem Qbr (T:Tree S bg) (K:Fk S) (l:Nat):2 * JO S (l+1)<=JO S l:=by
 let L:=(List.range S.pg.length).filter (lvB S fun x=>decide (x=l+1))
 have inL:∀ n∈L,∃ p,S.pg[n]?=some p/\p.lv=l+1:=fun n hn=>by
  obtain ⟨h1,h2⟩:=Bm.mp hn
  have h1:=Ch.mp h1
  unfold lvB at h2
  rw [Ab h1] at h2
  exact ⟨_,Ab h1,by simpa using h2⟩
 have nd:L.Nodup:=List.nodup_range.filter _
 have key:∀ n m i j,n∈L->m∈L->i < 2->j < 2->xM S n i=xM S m j->n=m/\i=j:=fun n m i j hn hm hi hj e=>by
  obtain ⟨p,a1,a2⟩:=inL n hn
  obtain ⟨q,b1,b2⟩:=inL m hm
  obtain ⟨_,_,_,c3⟩:=KA T K a1 (by lia) hi
  obtain ⟨_,_,_,d3⟩:=KA T K b1 (by lia) hj
  rw [e,d3] at c3
  obtain ⟨x1,x2⟩:=vw T K a1 (by lia) hi
  obtain ⟨y1,y2⟩:=vw T K b1 (by lia) hj
  have nm:n=m:=by
   rcases Nat.decEq n m with h | h
   ·exfalso
    rcases T.dis n m p q a1 b1 (by lia) h with ⟨u,v,e1,e2,e3⟩ | ⟨u,v,e1,e2,e3⟩
    ·obtain ⟨z,z1,z2⟩:=y1 v e2
     have:=x2 u z e1 (c3.symm.trans z1);lia
    ·obtain ⟨z,z1,z2⟩:=x1 v e2
     have:=y2 u z e1 (c3.trans z1);lia
   ·exact h
  subst nm
  rw [a1] at b1;cases b1
  refine ⟨rfl,?_⟩
  have ok:=T.page n p a1
  have k1:=K n p a1 (by lia)
  have l0:=ok.lowF (by lia) p.ks[0] (B9 (by lia))
  have ne:bg n≠p.ks[0]?:=fun z=>by
   rw [Ab (by lia)] at z
   have:=l0 _ z;lia
  match i,j,hi,hj with
  | 0,0,_,_=>rfl
  | 1,1,_,_=>rfl
  | 0,1,_,_=>exact absurd c3.symm ne
  | 1,0,_,_=>exact absurd c3 ne
 let M:=L.flatMap fun n=>[xM S n 0,xM S n 1]
 have ndM:M.Nodup:=by
  show List.Pairwise (· ≠ ·) _
  rw [List.pairwise_flatMap]
  refine ⟨fun n hn=>?_,?_⟩
  ·refine Cp.mpr ⟨fun x hx=>?_,List.pairwise_singleton _ _⟩
   rw [Ar] at hx
   subst hx
   intro e
   have:=(key n n 0 1 hn hn (by lia) (by lia) e).2
   lia
  ·refine List.Pairwise.imp_of_mem (R:=(· ≠ ·)) (fun {a b} ha hb ne x hx y hy e=>?_) nd
   subst e
   simp only [Bk,Cf,or_false] at hx hy
   rcases hx with rfl | rfl<;>rcases hy with hy | hy
   ·exact ne (key a b 0 0 ha hb (by lia) (by lia) hy).1
   ·exact ne (key a b 0 1 ha hb (by lia) (by lia) hy).1
   ·exact ne (key a b 1 0 ha hb (by lia) (by lia) hy).1
   ·exact ne (key a b 1 1 ha hb (by lia) (by lia) hy).1
 have sub:∀ x∈M,x∈(List.range S.pg.length).filter (lvB S fun y=>decide (y=l)):=fun x hx=>by
  obtain ⟨n,hn,hx⟩:=List.mem_flatMap.mp hx
  obtain ⟨p,a1,a2⟩:=inL n hn
  simp only [Bk,Cf,or_false] at hx
  rcases hx with rfl | rfl
  ·obtain ⟨q,c1,c2,_⟩:=KA T K a1 (by lia) (show 0 < 2 by lia)
   exact Ve c1 (by lia)
  ·obtain ⟨q,c1,c2,_⟩:=KA T K a1 (by lia) (show 1 < 2 by lia)
   exact Ve c1 (by lia)
 have len:=zt ndM sub
 have lm:M.length=2 * L.length:=by
  show (L.flatMap _).length=_
  generalize L=L'
  induction L' with
  | nil=>rfl
  | cons x t ih=>rw [List.flatMap_cons,An,ih,Ba];simp;lia
 unfold JO
 show 2 * L.length<=_
 lia
theorem Qcd (T:Tree S bg) (K:Fk S):S.pg.length<=2 * JO S 0:=by
  obtain ⟨r,r1,r2⟩:=T.root
  have a:=j8 (S:=S) (L:=r.lv) r2
  have key:∀ k,((List.range S.pg.length).filter (lvB S fun x=>decide (x < k))).length+2 * JO S k<=2 * JO S 0:=by
    intro k
    induction k with
    | zero=>rw [yH];lia
    | succ k ih =>
      have:=Qbr T K k
      rw [XU]
      unfold JO at *
      lia
  have:=key (r.lv+1)
  lia
end
section
variable {S S':Sh} {bg:Bg} {w w':Wk} {F:Es} {r:Row} {l h:Int}
def Lw (S:Sh) (bg:Bg) (n m:Nat):Bool:=match S.pg[m]?,S.pg[n]? with
 | some q,some p=>decide (q.lv < p.lv)||(decide (q.lv=p.lv)&&ltO (bg n) (bg m))
 | _,_=>false
def muR (S:Sh) (bg:Bg) (n:Nat):Nat:=((List.range S.pg.length).filter (Lw S bg n)).length
theorem QfE {n:Nat} (hn:n < S.pg.length):muR S bg n < S.pg.length:=by
 have:=jp (fun _=>true) (Lw S bg n) (List.range S.pg.length) (fun _ _ _=>rfl) ⟨n,Ch.mpr hn,rfl,by unfold Lw;rw [Ab hn];simp [yq]⟩
 rw [Ct.mpr (fun _ _=>rfl),List.length_range] at this
 exact this
theorem KM {n n':Nat} {p q:Pg} (hn:S.pg[n]?=some p) (hq:S.pg[n']?=some q) (hl:q.lv < p.lv∨(q.lv=p.lv/\ltO (bg n) (bg n')=true)):muR S bg n' < muR S bg n:=by
  refine jp (Lw S bg n) (Lw S bg n') (List.range S.pg.length) (fun m _ hm=>?_) ⟨n',Ch.mpr (Ac.mp hq).1,?_,?_⟩
  . unfold Lw at hm ⊢
    rw [hq] at hm
    rw [hn]
    cases e:S.pg[m]? with
    | none=>rw [e] at hm;cases hm
    | some z =>
      rw [e] at hm
      simp only [Bool.or_eq_true,Bc,decide_eq_true_eq] at hm ⊢
      rcases hl with a | ⟨a,b⟩<;>rcases hm with c | ⟨c,d⟩
      . exact .inl (by lia)
      . exact .inl (by lia)
      . exact .inl (by lia)
      . exact .inr ⟨by lia,UL b d⟩
  . unfold Lw
    rw [hq,hn]
    simp only [Bool.or_eq_true,Bc,decide_eq_true_eq]
    exact hl
  . unfold Lw
    rw [hq]
    simp [yq]
theorem QcV (T:Tree S bg) (hw:w.O7=false) (hg:w.O4=0) (hd:w.O0=.stretch l h) (hs:Jg S w=some (r,S',w')):
    S'={ S with rd:=S.rd+1 }/\w'.O4=0/\(w'.O7=true∨(w'.O7=false/\muR S bg (w'.O6.getD S.top) < muR S bg (w.O6.getD S.top))):=by
  unfold Jg at hs
  rw [C8 (by rw [hw];decide)] at hs
  cases hn:S.pg[w.O6.getD S.top]? with
  | none=>rw [hn] at hs;cases hs
  | some p =>
    rw [hn] at hs
    simp only at hs
    rw [C8 (fun z=>by rw [hg] at z;lia)] at hs
    by_cases hb:Zh p w.aim=true
    . rw [C9 hb] at hs
      cases he:p.sd with
      | none=>rw [he] at hs;cases hs
      | some s =>
        rw [he] at hs
        simp only [Option.some.injEq,Bp] at hs
        obtain ⟨rfl,rfl,rfl⟩:=hs
        obtain ⟨x,q,a1,a2,a3,a4,a5⟩:=K5 T hn he
        exact ⟨rfl,hg,.inr ⟨hw,KM hn a2 (.inr ⟨a3,a5⟩)⟩⟩
    . rw [C8 hb] at hs
      by_cases hl:w.O4 < p.lv
      . rw [C9 hl] at hs
        cases hc:p.ps[cLe p.ks w.aim]? with
        | none=>rw [hc] at hs;cases hs
        | some c =>
          rw [hc] at hs
          simp only [Option.some.injEq,Bp] at hs
          obtain ⟨rfl,rfl,rfl⟩:=hs
          obtain ⟨c',z,b1,b2,b3,_⟩:=T.kid _ p hn (by lia) _ _ hc
          subst b1
          exact ⟨rfl,hg,.inr ⟨hw,KM hn (by rw [B7];exact b2) (.inl (by lia))⟩⟩
      . rw [C8 hl,C8 (by lia)] at hs
        have hs':=Ak hs
        unfold ZO at hs'
        rw [hd] at hs'
        dsimp only at hs'
        rcases T.link _ p hn with ⟨x,y⟩ | ⟨x,s,z,y1,y2,y3,y4,y5⟩
        . simp only [x,y,Bp] at hs'
          obtain ⟨rfl,rfl,rfl⟩:=hs'
          exact ⟨rfl,hg,.inl rfl⟩
        . simp only [y1,y2] at hs'
          by_cases hx:h<=x
          . rw [C9 hx] at hs'
            simp only [Bp] at hs'
            obtain ⟨rfl,rfl,rfl⟩:=hs'
            exact ⟨rfl,hg,.inl rfl⟩
          . rw [C8 hx] at hs'
            simp only [Bp] at hs'
            obtain ⟨rfl,rfl,rfl⟩:=hs'
            obtain ⟨x',q,a1,a2,a3,a4,a5⟩:=K5 T hn y2
            exact ⟨rfl,hg,.inr ⟨hw,KM hn a2 (.inr ⟨a3,a5⟩)⟩⟩
def Aim.rd {w:Wk} (h:Aim S bg w) (x y:Int):Aim { S with rd:=x,wr:=y } bg w:=h
end
end TR
namespace D
open PySem PySem.Spec PyProof.Rows L2
structure UF (K:Aa) (mg:Ej) (x:Str) (st:Stmt):Prop where
 ex:∃ g fd,Fun K x x st g fd/\mg x=some (.ref g)
structure UC (K:Aa) (c:Str):Prop where
 ex:∀ C,ClsN K c C->Cls K C
structure UM (K:Aa) (c m q:Str) (st:Stmt):Prop where
 ex:∃ C g fd,Fun K m q st g fd/\ClsN K c C/\Cls K C/\vP K C m g
structure UI (K:Aa) (mg:Ej) (c q:Str) (st:Stmt):Prop where
 ex:∃ C g fd,Fun K "__init__" q st g fd/\ClsN K c C/\mg c=some (.ref C)/\Mk K C g
structure UG (mg:Ej) (x:Str) (i:Int):Prop where
 ex:∃ t,mg x=some (.int i t)
structure UT (K:Aa) (mg:Ej) (x:Str) (d:DV):Prop where
 ex:∃ a,mg x=some (.ref a)/\KRep K d (.ref a)
section
variable {K:Aa} {h:Heap} {mg:Ej} {f C:Addr} {x c m q:Str} {st:Stmt} {oc:Value} {od an:Option Addr} {osl:Array (Option Value)} {kV doc pm cdv ct:Value} {i:Int} {t:Tok} {d:DV} {a:Addr}
def uf (X:K.In h) (G:h.Ns mainGlobals mg) (n:PySem.W.nsIn K mainGlobals x=some (some (.ref f))) (l:K.lookup f=some ⟨oc,od,.func (PySem.W.fnOf x x (JE st) (ZG st) (Qp st) .none kV doc pm an cdv ct),osl⟩) (e:PySem.W.codeIn K cdv x=true) (k:PySem.W.keepIn K (.ref f)=true):UF K mg x st:=⟨_,_,Ks l e k,PySem.W.mg_of X G n⟩
theorem uc (X:K.In h) (n:PySem.W.nsIn K mainGlobals c=some (some (.ref C))) (p:PySem.W.plainGet K C Str.empty=true) (e:PySem.W.hasDictIn K C=true) (o:PySem.W.plainOver K C=true) (s:PySem.W.findIn K (.ref C) "__setattr__" = some (some (.builtin "object.__setattr__"))):UC K c:=⟨fun C' n'=>by cases ClsN.uniq (show ClsN K c C from n) n';exact ⟨p,e,o,s⟩⟩
def um (X:K.In h) (u:UC K c) (n:PySem.W.nsIn K mainGlobals c=some (some (.ref C))) (a:PySem.W.findIn K (.ref C) m=some (some (.ref f))) (b:PySem.W.isFn K (.ref f)=true) (l:K.lookup f=some ⟨oc,od,.func (PySem.W.fnOf m q (JE st) (ZG st) (Qp st) .none kV doc pm an cdv ct),osl⟩) (e:PySem.W.codeIn K cdv q=true) (k:PySem.W.keepIn K (.ref f)=true):UM K c m q st:=⟨_,_,_,Ks l e k,n,u.ex _ n,a,b,k⟩
def ui (X:K.In h) (G:h.Ns mainGlobals mg) (n:PySem.W.nsIn K mainGlobals c=some (some (.ref C))) (a:PySem.W.findIn K (.ref C) "__init__" = some (some (.ref f))) (b:PySem.W.isFn K (.ref f)=true) (l:K.lookup f=some ⟨oc,od,.func (PySem.W.fnOf "__init__" q (JE st) (ZG st) (Qp st) .none kV doc pm an cdv ct),osl⟩) (e:PySem.W.codeIn K cdv q=true) (k:PySem.W.keepIn K (.ref f)=true) (v:PySem.W.makesIn K C=true) (z:PySem.W.keepIn K (.ref C)=true):UI K mg c q st:=⟨_,_,_,Ks l e k,n,PySem.W.mg_of X G n,v,a,b,z⟩
def uk (X:K.In h) (u:UC K c) (n:PySem.W.nsIn K mainGlobals c=some (some (.ref C))) (a:PySem.W.findIn K (.ref C) x=some none):YX K c x:=⟨C,n,u.ex _ n,a⟩
def ug (X:K.In h) (G:h.Ns mainGlobals mg) (n:PySem.W.nsIn K mainGlobals x=some (some (.int i t))):UG mg x i:=⟨_,PySem.W.mg_of X G n⟩
def ut (X:K.In h) (G:h.Ns mainGlobals mg) (n:PySem.W.nsIn K mainGlobals x=some (some (.ref a))) (r:KRep K d (.ref a)):UT K mg x d:=⟨_,PySem.W.mg_of X G n,r⟩
theorem Ze {N ps:List Str} {s:Scope} (h:(s.kind==.function&&!s.isCoroutine&&!s.isGenerator&&decide N.Nodup&&decide (N.take ps.length=ps)&&ps.all (fun x=>decide (s.names.lookup x=some .local)||decide (s.names.lookup x=some .cell))&&s.names.all fun y=>decide (y.2≠.free))=true):Qv N ps s:=by
 simp only [Bc,Cq,decide_eq_true_eq,List.all_eq_true,Bool.or_eq_true] at h
 obtain ⟨⟨⟨⟨⟨⟨a,b⟩,c⟩,d⟩,e⟩,f⟩,g⟩:=h
 refine ⟨?_,b,c,d,e,f,fun y hy=>by have:=g y hy;simpa using this⟩
 revert a;cases s.kind<;>first | (intro _;rfl) | (intro z;exact absurd z (by decide))
end
section
variable {P:Program} {w:World} {K:Aa} {mg:Ej} {O8:Heap} {x c m q:Str} {st:Stmt} {N ps:List Str} {k:Nat} {body:DSx}
def Bn (ps:List Str) (x q:Str) (st:Stmt):Prop:=∀ (kV doc pm:Value) (an:Option Addr) (cdv ct:Value) (us:List Value),us.length=ps.length->bindArgs (PySem.W.fnOf x q (JE st) (ZG st) (Qp st) .none kV doc pm an cdv ct) ⟨us,[]⟩=pure (ps.zip us)
def Bd (P:Program) (w:World) (K:Aa) (mg:Ej) (O8:Heap) (N:List Str) (k:Nat) (q:Str) (st:Stmt) (body:DSx):Prop:=∀ (g:Addr) (cdv:Value) (A:Around) (outer:List Env) (s:Shared) (H:Hp) (E:XK),Room k (A.deeper (envOfC q (Qp st) s.heap.objs.size g cdv))->DSs (yh CX0 P w K mg O8 N q (Qp st) g cdv A outer s H E).nox (ZG st) body
theorem hf (u:UF K mg x st) (Sc:Qv N ps (Qp st)) (h:Bd P w K mg O8 N k x st body) (hb:Bn ps x x st:=by intro _ _ _ _ _ _ us hl;rcases us with _ | ⟨_,_ | ⟨_,_ | ⟨_,_ | ⟨_,_ | ⟨_,_ | ⟨_,_⟩⟩⟩⟩⟩⟩<;>first | rfl | cases hl):Has P w K mg O8 x (k+1) ps.length (Q7 N.length body):=let ⟨_,_,F,hm⟩:=u.ex;Qfi F Sc hm hb (h _)
theorem hM (u:UM K c m q st) (Sc:Qv N ps (Qp st)) (h:Bd P w K mg O8 N k q st body) (hb:Bn ps m q st:=by intro _ _ _ _ _ _ us hl;rcases us with _ | ⟨_,_ | ⟨_,_ | ⟨_,_ | ⟨_,_ | ⟨_,_ | ⟨_,_⟩⟩⟩⟩⟩⟩<;>first | rfl | cases hl):XH P w K mg O8 c m (k+1) ps.length (Q7 N.length body):=let ⟨_,_,_,F,nc,cl,me⟩:=u.ex;Qb1 nc cl me F Sc hb (h _)
theorem hI (u:UI K mg c q st) (Sc:Qv N ps (Qp st)) (h:Bd P w K mg O8 N k q st body) (hb:Bn ps "__init__" q st:=by intro _ _ _ _ _ _ us hl;rcases us with _ | ⟨_,_ | ⟨_,_ | ⟨_,_ | ⟨_,_ | ⟨_,_ | ⟨_,_⟩⟩⟩⟩⟩⟩<;>first | rfl | cases hl):Qba P w K mg O8 c (k+1) ps.length (Q7 N.length body):=let ⟨_,_,_,F,nc,hm,me⟩:=u.ex;QbM nc hm me F Sc hb (h _)
end
end D
namespace K23
open PySem PySem.Spec PyProof.Rows L2 D
def top (i:Nat):Stmt:=PySem.Challenge.pw_sidelink_k23_stretches.main.body.getD i (.Pass ⟨0,0,0,0⟩)
abbrev xT:Stmt:=Zt (top 21) 1
def Gk:DSx:=QG (QF "Walk" "ended" (Qc 0))
def Q6:List DV->M DV:=Q7 1 Gk
abbrev zw:Stmt:=Zt (top 27) 8
def zk:DSx:=QG (ZT Yb (Qd (QF "Shelf" "kept" (Qc 0)) (Qo)))
def Jq:List DV->M DV:=Q7 1 zk
abbrev zy:Stmt:=Zt (top 21) 2
def V3:DSx:=Qr (sIf (Jo (eB (QF "Walk" "ended" (Qc 0)))) (QG (eC .non)) (Zc)) (Qr (sIf (eB (Qj eqG (Qj ixG (QF "Walk" "deed" (Qc 0)) (eC (.int 0))) (eC (.str "stretch")))) (QG (ZT QgX (Qd (QF "Walk" "pairs" (Qc 0)) (Qo)))) (Zc)) (QG (QF "Walk" "worth" (Qc 0))))
def Js:List DV->M DV:=Q7 1 V3
abbrev xX:Stmt:=top 38
def Yr:DEx:=J7 false (xOf (iTp (Qc 1))) [] (eOr (Jo (eB (yi "int" (Qc 0)))) (eB (yi "bool" (Qc 0)))) (Qc 0)
def Yw:DSx:=Qr (sIf (eOr (Jo (eB (yi "tuple" (Qc 1)))) (eB (Qj neG (ZT Yb (Qd (Qc 1) (Qo))) (eC (.int 2))))) (QG (eC (.bl false))) (Zc)) (sIf (eB (Qj neG (Yr) (XC (Qo)))) (QG (eC (.bl false))) (Zc))
def V2:DSx:=uO (iTp (Qc 0)) (gN 1) (Yw)
def Gp:DSx:=Qr (sIf (Jo (eB (yi "tuple" (Qc 0)))) (QG (eC (.bl false))) (Zc)) (Qr (V2) (QG (eC (.bl true))))
def Yc:List DV->M DV:=Q7 2 Gp
abbrev Vv:Stmt:=top 39
def YS:DEx:=J7 false (xLs (ZT kO (Qd (Qc 2) (Qo)))) [3,2,1] (eB (JK leD ltD (Qj ixG (Qc 3) (eC (.str "from"))) (Qc 0) (Qc 1))) (Zz (Qd (Qc 0) (Qd (Qj ixG (Qc 2) (Qc 0)) (Qo))))
def vT:DSx:=Qr (QJ 3 (Qj ixG (Qc 1) (eC (.str "high")))) (Qr (sIf (eB (Qj Ud (Qj ixG (Qc 0) (eC (.int 4))) (eC .non))) (Qr (QJ 3 (Qj ixG (Qc 0) (eC (.int 4)))) (sIf (eOr (Jo (eB (JK ltD ltD (Qj ixG (Qc 1) (eC (.str "from"))) (Qc 3) (Qj ixG (Qc 1) (eC (.str "high")))))) (eB (Qj isD (Qj ixG (Qc 0) (eC (.int 3))) (eC .non)))) (QG (eC (.bl false))) (Zc))) (Zc)) (Qr (QJ 4 (YS)) (Qr (sIf (eOr (Jo (eB (Qt 1 Yc (Qd (Qj ixG (Qc 0) (eC (.int 2))) (Qo))))) (eOr (eB (Qj neG (ZT QdH (Qd (Qj ixG (Qc 0) (eC (.int 2))) (Qo))) (Qc 4))) (Xm (eB (Qj isD (Qj ixG (Qc 0) (eC (.int 4))) (eC .non))) (eB (Qj Ud (Qj ixG (Qc 0) (eC (.int 3))) (eC .non)))))) (QG (eC (.bl false))) (Zc)) (Qr (Xe (Qc 3) (gSb (Qc 1) (eC (.str "from")))) (Qr (Xe (Qj ZL (Qj ixG (Qc 1) (eC (.str "pairs"))) (Qc 4)) (gSb (Qc 1) (eC (.str "pairs")))) (QG (eC (.bl true))))))))
def YT:List DV->M DV:=Q7 5 vT
abbrev YJ:Stmt:=Zt (top 27) 10
def YC:DSx:=QG (QF "Shelf" "write_count" (Qc 0))
def ZB:List DV->M DV:=Q7 1 YC
abbrev Ym:Stmt:=Zt (top 21) 9
def Jc:DEx:=J7 true (xOf (QbL (Qj ixG (Qc 2) (eC (.int 1))) (Qj ixG (Qc 2) (eC (.int 2))))) [3,4] (eB (JK leD ltD (Qc 1) (Qj ixG (Qc 0) (eC (.int 0))) (Qc 2))) (Qc 0)
def jh:DSx:=Qr (QJ 3 (Qj ixG (QF "Walk" "deed" (Qc 0)) (eC (.int 1)))) (Qr (QJ 4 (Qj ixG (QF "Walk" "deed" (Qc 0)) (eC (.int 2)))) (Qr (QJ 5 (Jc)) (Qr (Z7 (Xn "list" jC (QF "Walk" "pairs" (Qc 0)) (Qd (Qc 5) (Qo)))) (Qr (sIf (eOr (eB (Qj isD (Qj ixG (Qc 2) (eC (.int 3))) (eC .non))) (eB (Qj geD (Qj ixG (Qc 2) (eC (.int 3))) (Qc 4)))) (Qr (Zf "Walk" "ended" (Qc 0) (eC (.bl true))) (QG (Zz (Qd (eC (.str "read")) (Qd (Qc 1) (Qd (ZT Qa5 (Qd (Qc 5) (Qo))) (Qd (eC .non) (Qd (eC .non) (Qo))))))))) (Zc)) (Qr (Zf "Walk" "aim" (Qc 0) (Qj ixG (Qc 2) (eC (.int 3)))) (Qr (Zf "Walk" "place" (Qc 0) (Qj ixG (Qc 2) (eC (.int 4)))) (QG (Zz (Qd (eC (.str "read")) (Qd (Qc 1) (Qd (ZT Qa5 (Qd (Qc 5) (Qo))) (Qd (QF "Walk" "place" (Qc 0)) (Qd (QF "Walk" "aim" (Qc 0)) (Qo))))))))))))))
def J5:List DV->M DV:=Q7 6 jh
abbrev XF:Stmt:=Zt (top 27) 12
def Xy:DSx:=sIf (Jo (eB (JK leD ltD (eC (.int 0)) (Qc 1) (ZT Yb (Qd (QF "Shelf" "kept" (Qc 0)) (Qo)))))) (QeV) (Zc)
def Zn:List DV->M DV:=Q7 2 Xy
abbrev zx:Stmt:=Zt (top 27) 2
def zm:DSx:=Qr (Z7 (QD "Shelf" "check_number" 2 Zn (Qc 0) (Qd (Qc 1) (Qo)))) (Qr (Yk "Shelf" "write_count" zG (Qc 0) (eC (.int 1))) (Xe (Qc 2) (gSb (QF "Shelf" "kept" (Qc 0)) (Qc 1))))
def Jr:List DV->M DV:=Q7 3 zm
abbrev Vw:Stmt:=top 14
def vU:DSx:=QG (Zz (Qd (Qj ixD (Qc 0) (eC (.int 0))) (Qd (Qc 1) (Qd (Qc 2) (Qd (Qj ixD (Qc 0) (eC (.int 3))) (Qd (Qj ixD (Qc 0) (eC (.int 4))) (Qo)))))))
def YU:List DV->M DV:=Q7 3 vU
abbrev Yn:Stmt:=top 16
def ze:DEx:=J7 false (xOf (iTp (Qc 0))) [1] (eB (Qj leD (Qc 0) (Qc 1))) (Qc 0)
def ji:DSx:=QG (ZT Yb (Qd (ze) (Qo)))
def Zp:List DV->M DV:=Q7 2 ji
abbrev zB:Stmt:=top 15
def yd:DEx:=J7 false (xOf (iTp (Qc 0))) [1] (eB (Qj ltD (Qc 0) (Qc 1))) (Qc 0)
def V5:DSx:=QG (ZT Yb (Qd (yd) (Qo)))
def Xq:List DV->M DV:=Q7 2 V5
abbrev Vy:Stmt:=top 13
def vW:DSx:=Qr (QJ 4 (Qj ixD (Qc 0) (eC (.int 1)))) (Qr (QJ 5 (Qj ixD (Qc 0) (eC (.int 2)))) (Qr (QJ 6 (Qt 2 Xq (Qd (Qc 4) (Qd (Qc 1) (Qo))))) (Qr (QJ 7 (Qt 2 Zp (Qd (Qc 4) (Qd (Qc 1) (Qo))))) (QG (Qt 3 YU (Qd (Qc 0) (Qd (Qj ZL (Qj ZL (eSl (Qc 4) (ZP) (ZQ (Qc 6))) (Qc 2)) (eSl (Qc 4) (ZQ (Qc 7)) (ZP))) (Qd (Qj ZL (Qj ZL (eSl (Qc 5) (ZP) (ZQ (Qc 6))) (Qc 3)) (eSl (Qc 5) (ZQ (Qc 7)) (ZP))) (Qo)))))))))
def YW:List DV->M DV:=Q7 8 vW
abbrev UV:Stmt:=top 11
def Qad:DSx:=QG (Qt 4 YW (Qd (Qc 0) (Qd (Qc 1) (Qd (Zz (Qo)) (Qd (Zz (Qo)) (Qo))))))
def jX:List DV->M DV:=Q7 2 Qad
abbrev Vz:Stmt:=top 9
def vX:DSx:=Qr (QJ 2 (Qj ixD (Qc 0) (eC (.int 1)))) (Qr (QJ 3 (Qt 2 Xq (Qd (Qc 2) (Qd (Qc 1) (Qo))))) (Qr (sIf (eB (Qj eqD (Qc 3) (Qt 2 Zp (Qd (Qc 2) (Qd (Qc 1) (Qo)))))) (QG (eC .non)) (Zc)) (QG (Qj ixD (Qj ixD (Qc 0) (eC (.int 2))) (Qc 3)))))
def JX:List DV->M DV:=Q7 4 vX
abbrev qP:Stmt:=Zt (top 21) 8
def yB:DSx:=Qr (Zf "Walk" "worth" (Qc 0) (Qt 2 JX (Qd (Qc 2) (Qd (QF "Walk" "aim" (Qc 0)) (Qo))))) (Qr (sIf (eB (Qj Ud (QF "Walk" "worth" (Qc 0)) (eC .non))) (Z7 (QD "Shelf" "write" 3 Jr (QF "Walk" "shelf" (Qc 0)) (Qd (Qc 1) (Qd (Qt 2 jX (Qd (Qc 2) (Qd (QF "Walk" "aim" (Qc 0)) (Qo)))) (Qo))))) (Zc)) (Qr (Zf "Walk" "ended" (Qc 0) (eC (.bl true))) (QG (Zz (Qd (eC (.str "cut")) (Qd (Qc 1) (Qd (QF "Walk" "worth" (Qc 0)) (Qo))))))))
def XV:List DV->M DV:=Q7 3 yB
abbrev xS:Stmt:=Zt (top 27) 3
def xJ:DSx:=Qr (Yk "Shelf" "write_count" zG (Qc 0) (eC (.int 1))) (Qr (Z7 (Xn "list" JI (QF "Shelf" "kept" (Qc 0)) (Qd (Qc 1) (Qo)))) (QG (Qj VQ (ZT Yb (Qd (QF "Shelf" "kept" (Qc 0)) (Qo))) (eC (.int 1)))))
def Xw:List DV->M DV:=Q7 2 xJ
abbrev vj:Stmt:=top 19
def Qbj:DSx:=Qr (QJ 2 (Qj ixD (Qc 0) (eC (.int 0)))) (Qr (QJ 3 (Qj ixD (Qc 0) (eC (.int 1)))) (Qr (QJ 4 (Qj ixD (Qc 0) (eC (.int 2)))) (Qr (QJ 5 (Qj Qbv (ZT qp (Qd (Qc 3) (Qo))) (eC (.int 2)))) (Qr (QJ 6 (Qj ixD (Qc 3) (Qc 5))) (Qr (QJ 7 (eIf (eB (Qj eqD (Qc 2) (eC (.int 0)))) (Qc 5) (Qj ZL (Qc 5) (eC (.int 1))))) (Qr (QJ 8 (Zz (Qd (Qc 2) (Qd (eSl (Qc 3) (ZP) (ZQ (Qc 5))) (Qd (eSl (Qc 4) (ZP) (ZQ (Qc 7))) (Qd (Qc 6) (Qd (Qc 1) (Qo)))))))) (Qr (QJ 9 (Zz (Qd (Qc 2) (Qd (eSl (Qc 3) (ZQ (Qc 7)) (ZP)) (Qd (eSl (Qc 4) (ZQ (Qc 7)) (ZP)) (Qd (Qj ixD (Qc 0) (eC (.int 3))) (Qd (Qj ixD (Qc 0) (eC (.int 4))) (Qo)))))))) (QG (Zz (Qd (Qc 8) (Qd (Qc 9) (Qd (Qc 6) (Qo)))))))))))))
def zZ:List DV->M DV:=Q7 10 Qbj
abbrev jL:Stmt:=Zt (top 27) 7
def je:DSx:=QG (QF "Shelf" "page_room" (Qc 0))
def Jj:List DV->M DV:=Q7 1 je
abbrev UQ:Stmt:=top 18
def Qaa:DSx:=QG (Qj gtD (ZT qp (Qd (Qj ixD (Qc 0) (eC (.int 1))) (Qo))) (Qc 1))
def XT:List DV->M DV:=Q7 2 Qaa
abbrev zA:Stmt:=Zt (top 21) 12
def V4:DSx:=Qr (sIf (Jo (eB (Qt 2 XT (Qd (Qc 2) (Qd (QD "Shelf" "room" 1 Jj (QF "Walk" "shelf" (Qc 0)) Qo) (Qo)))))) (Qr (Z7 (QD "Shelf" "write" 3 Jr (QF "Walk" "shelf" (Qc 0)) (Qd (Qc 1) (Qd (Qc 2) (Qo))))) (Qr (Zf "Walk" "ended" (Qc 0) (eC (.bl true))) (QG (eC .non)))) (Zc)) (Qr (QJ 3 (Qt 2 zZ (Qd (Qc 2) (Qd (QD "Shelf" "pages" 1 Jq (QF "Walk" "shelf" (Qc 0)) Qo) (Qo))))) (Qr (Zf "Walk" "new_page" (Qc 0) (QD "Shelf" "lay" 2 Xw (QF "Walk" "shelf" (Qc 0)) (Qd (Qj ixG (Qc 3) (eC (.int 1))) (Qo)))) (Qr (Z7 (QD "Shelf" "write" 3 Jr (QF "Walk" "shelf" (Qc 0)) (Qd (Qc 1) (Qd (Qj ixG (Qc 3) (eC (.int 0))) (Qo))))) (Qr (Zf "Walk" "aim" (Qc 0) (Qj ixG (Qc 3) (eC (.int 2)))) (Qr (Zf "Walk" "goal" (Qc 0) (Qj ZL (Qj ixG (Qc 2) (eC (.int 0))) (eC (.int 1)))) (Qr (Zf "Walk" "place" (Qc 0) (Xn "dict" X4 (QF "Walk" "forks" (Qc 0)) (Qd (QF "Walk" "goal" (Qc 0)) (Qo)))) (QG (QF "Walk" "new_page" (Qc 0)))))))))
def Xp:List DV->M DV:=Q7 4 V4
abbrev x6:Stmt:=top 10
def Gv:DSx:=QG (Qt 4 YW (Qd (Qc 0) (Qd (Qc 1) (Qd (Zz (Qd (Qc 1) (Qo))) (Qd (Zz (Qd (Qc 2) (Qo))) (Qo))))))
def qx:List DV->M DV:=Q7 3 Gv
abbrev qk:Stmt:=Zt (top 21) 7
def yf:DSx:=Qr (Zf "Walk" "worth" (Qc 0) (Qt 2 JX (Qd (Qc 2) (Qd (QF "Walk" "aim" (Qc 0)) (Qo))))) (Qr (QJ 3 (QD "Walk" "settle" 3 Xp (Qc 0) (Qd (Qc 1) (Qd (Qt 3 qx (Qd (Qc 2) (Qd (QF "Walk" "aim" (Qc 0)) (Qd (Qj ixG (QF "Walk" "deed" (Qc 0)) (eC (.int 2))) (Qo))))) (Qo))))) (QG (Zz (Qd (eC (.str "put")) (Qd (Qc 1) (Qd (QF "Walk" "worth" (Qc 0)) (Qd (Qc 3) (Qo))))))))
def XG:List DV->M DV:=Q7 4 yf
abbrev Yl:Stmt:=Zt (top 21) 6
def jg:DSx:=Qr (Zf "Walk" "worth" (Qc 0) (Qt 2 JX (Qd (Qc 2) (Qd (QF "Walk" "aim" (Qc 0)) (Qo))))) (Qr (Zf "Walk" "ended" (Qc 0) (eC (.bl true))) (QG (Zz (Qd (eC (.str "found")) (Qd (Qc 1) (Qd (QF "Walk" "worth" (Qc 0)) (Qo)))))))
def J4:List DV->M DV:=Q7 3 jg
abbrev qQ:Stmt:=Zt (top 21) 5
def yC:DSx:=Qr (QJ 3 (Qj ixG (QF "Walk" "deed" (Qc 0)) (eC (.int 0)))) (Qr (sIf (eB (Qj eqG (Qc 3) (eC (.str "find")))) (QG (QD "Walk" "find_worth" 3 J4 (Qc 0) (Qd (Qc 1) (Qd (Qc 2) (Qo))))) (Zc)) (Qr (sIf (eB (Qj eqG (Qc 3) (eC (.str "put")))) (QG (QD "Walk" "put_pair" 3 XG (Qc 0) (Qd (Qc 1) (Qd (Qc 2) (Qo))))) (Zc)) (Qr (sIf (eB (Qj eqG (Qc 3) (eC (.str "cut")))) (QG (QD "Walk" "cut_key" 3 XV (Qc 0) (Qd (Qc 1) (Qd (Qc 2) (Qo))))) (Zc)) (QG (QD "Walk" "read_pairs" 3 J5 (Qc 0) (Qd (Qc 1) (Qd (Qc 2) (Qo))))))))
def XW:List DV->M DV:=Q7 4 yC
abbrev Vx:Stmt:=top 12
def vV:DSx:=Qr (QJ 3 (Qj ixD (Qc 0) (eC (.int 1)))) (Qr (QJ 4 (Qj ixD (Qc 0) (eC (.int 2)))) (Qr (QJ 5 (Qt 2 Zp (Qd (Qc 3) (Qd (Qc 1) (Qo))))) (Qr (QJ 6 (Qj ZL (Qc 5) (eC (.int 1)))) (QG (Qt 3 YU (Qd (Qc 0) (Qd (Qj ZL (Qj ZL (eSl (Qc 3) (ZP) (ZQ (Qc 5))) (Zz (Qd (Qc 1) (Qo)))) (eSl (Qc 3) (ZQ (Qc 5)) (ZP))) (Qd (Qj ZL (Qj ZL (eSl (Qc 4) (ZP) (ZQ (Qc 6))) (Zz (Qd (Qc 2) (Qo)))) (eSl (Qc 4) (ZQ (Qc 6)) (ZP))) (Qo)))))))))
def YV:List DV->M DV:=Q7 7 vV
abbrev YK:Stmt:=Zt (top 21) 10
def jY:DSx:=Qr (QJ 3 (QD "Walk" "settle" 3 Xp (Qc 0) (Qd (Qc 1) (Qd (Qt 3 YV (Qd (Qc 2) (Qd (QF "Walk" "aim" (Qc 0)) (Qd (QF "Walk" "new_page" (Qc 0)) (Qo))))) (Qo))))) (QG (Zz (Qd (eC (.str "told")) (Qd (Qc 1) (Qd (Qc 3) (Qo))))))
def Xi:List DV->M DV:=Q7 4 jY
abbrev jN:Stmt:=Zt (top 21) 4
def Ke:DSx:=Qr (Zf "Walk" "place" (Qc 0) (Qc 3)) (QG (Zz (Qd (Qc 1) (Qd (Qc 2) (Qd (Qc 3) (Qo))))))
def JC:List DV->M DV:=Q7 4 Ke
abbrev UR:Stmt:=top 8
def Qab:DSx:=QG (Qj ixD (Qj ixD (Qc 0) (eC (.int 2))) (Qt 2 Zp (Qd (Qj ixD (Qc 0) (eC (.int 1))) (Qd (Qc 1) (Qo)))))
def Yz:List DV->M DV:=Q7 2 Qab
abbrev vi:Stmt:=top 7
def Qbi:DSx:=Qr (QJ 2 (Qj ixD (Qc 0) (eC (.int 3)))) (QG (XB (Qj Ud (Qc 2) (eC .non)) (Qj geD (Qc 1) (Qc 2))))
def Yy:List DV->M DV:=Q7 3 Qbi
abbrev X8:Stmt:=Zt (top 27) 6
def XY:DSx:=Qr (Z7 (QD "Shelf" "check_number" 2 Zn (Qc 0) (Qd (Qc 2) (Qo)))) (Qr (QJ 3 (Qj ZL (Qj ixG (Qj ixG (QF "Shelf" "kept" (Qc 0)) (QF "Shelf" "top" (Qc 0))) (eC (.int 0))) (eC (.int 1)))) (Qr (Zf "Shelf" "top" (Qc 0) (QD "Shelf" "lay" 2 Xw (Qc 0) (Qd (Zz (Qd (Qc 3) (Qd (Zz (Qd (Qc 1) (Qo))) (Qd (Zz (Qd (QF "Shelf" "top" (Qc 0)) (Qd (Qc 2) (Qo)))) (Qd (eC .non) (Qd (eC .non) (Qo))))))) (Qo)))) (QG (QF "Shelf" "top" (Qc 0)))))
def ZS:List DV->M DV:=Q7 4 XY
abbrev Xa:Stmt:=Zt (top 21) 11
def YY:DSx:=Qr (Zf "Walk" "ended" (Qc 0) (eC (.bl true))) (QG (Zz (Qd (eC (.str "raised")) (Qd (Qc 1) (Qd (QD "Shelf" "raise_root" 3 ZS (QF "Walk" "shelf" (Qc 0)) (Qd (QF "Walk" "aim" (Qc 0)) (Qd (QF "Walk" "new_page" (Qc 0)) (Qo)))) (Qo))))))
def ZK:List DV->M DV:=Q7 2 YY
abbrev jK:Stmt:=Zt (top 27) 1
def jd:DSx:=Qr (Z7 (QD "Shelf" "check_number" 2 Zn (Qc 0) (Qd (Qc 1) (Qo)))) (Qr (Yk "Shelf" "read_count" zG (Qc 0) (eC (.int 1))) (QG (Qj ixG (QF "Shelf" "kept" (Qc 0)) (Qc 1))))
def JA:List DV->M DV:=Q7 2 jd
abbrev jM:Stmt:=Zt (top 27) 4
def jf:DSx:=QG (QF "Shelf" "top" (Qc 0))
def JB:List DV->M DV:=Q7 1 jf
abbrev xU:Stmt:=Zt (top 21) 3
def Gm:DSx:=Qr (sIf (eB (QF "Walk" "ended" (Qc 0))) (QG (eC .non)) (Zc)) (Qr (QJ 1 (eIf (eB (Qj isD (QF "Walk" "place" (Qc 0)) (eC .non))) (QD "Shelf" "root" 1 JB (QF "Walk" "shelf" (Qc 0)) Qo) (QF "Walk" "place" (Qc 0)))) (Qr (QJ 2 (QD "Shelf" "read" 2 JA (QF "Walk" "shelf" (Qc 0)) (Qd (Qc 1) (Qo)))) (Qr (sIf (Xm (eB (Qj isD (QF "Walk" "place" (Qc 0)) (eC .non))) (eB (Qj ltD (Qj ixG (Qc 2) (eC (.int 0))) (QF "Walk" "goal" (Qc 0))))) (QG (QD "Walk" "raise_root_over" 2 ZK (Qc 0) (Qd (Qc 1) (Qo)))) (Zc)) (Qr (sIf (eB (Qt 2 Yy (Qd (Qc 2) (Qd (QF "Walk" "aim" (Qc 0)) (Qo))))) (QG (QD "Walk" "go_on" 4 JC (Qc 0) (Qd (eC (.str "side")) (Qd (Qc 1) (Qd (Qj ixG (Qc 2) (eC (.int 4))) (Qo)))))) (Zc)) (Qr (sIf (eB (Qj gtD (Qj ixG (Qc 2) (eC (.int 0))) (QF "Walk" "goal" (Qc 0)))) (Qr (Xe (Qc 1) (gSb (QF "Walk" "forks" (Qc 0)) (Qj ixG (Qc 2) (eC (.int 0))))) (QG (QD "Walk" "go_on" 4 JC (Qc 0) (Qd (eC (.str "down")) (Qd (Qc 1) (Qd (Qt 2 Yz (Qd (Qc 2) (Qd (QF "Walk" "aim" (Qc 0)) (Qo)))) (Qo))))))) (Zc)) (Qr (sIf (eB (Qj gtD (QF "Walk" "goal" (Qc 0)) (eC (.int 0)))) (QG (QD "Walk" "tell_fork" 3 Xi (Qc 0) (Qd (Qc 1) (Qd (Qc 2) (Qo))))) (Zc)) (QG (QD "Walk" "do_deed" 3 XW (Qc 0) (Qd (Qc 1) (Qd (Qc 2) (Qo)))))))))))
def Xx:List DV->M DV:=Q7 3 Gm
abbrev zD:Stmt:=top 40
def V6:DSx:=Qr (QJ 4 (QD "Shelf" "writings" 1 ZB (Qc 0) Qo)) (Qr (QJ 5 (QD "Walk" "step" 1 Xx (Qc 1) Qo)) (Qr (sIf (eOr (Jo (eB (yi "tuple" (Qc 5)))) (eB (Qj neG (QD "Shelf" "writings" 1 ZB (Qc 0) Qo) (Qc 4)))) (QG (eC (.bl false))) (Zc)) (Qr (sIf (eB (Qj eqG (Qj ixG (Qc 5) (eC (.int 0))) (eC (.str "read")))) (Qr (sIf (eOr (eB (Qj neG (ZT Yb (Qd (Qc 5) (Qo))) (eC (.int 5)))) (Jo (eB (Qt 3 YT (Qd (Qc 5) (Qd (Qc 2) (Qd (Qc 3) (Qo)))))))) (QG (eC (.bl false))) (Zc)) (sIf (eB (Qj neG (QD "Walk" "over" 1 Q6 (Qc 1) Qo) (Qj isD (Qj ixG (Qc 5) (eC (.int 4))) (eC .non)))) (QG (eC (.bl false))) (Zc))) (sIf (eOr (eB (Qj QdM (Qj ixG (Qc 5) (eC (.int 0))) (Zz (Qd (eC (.str "side")) (Qd (eC (.str "down")) (Qo)))))) (eB (QD "Walk" "over" 1 Q6 (Qc 1) Qo))) (QG (eC (.bl false))) (Zc))) (Qr (sIf (eB (QD "Walk" "over" 1 Q6 (Qc 1) Qo)) (Qr (QJ 6 (QD "Walk" "answer" 1 Js (Qc 1) Qo)) (Qr (sIf (eOr (Jo (eB (gL "list" (Qc 6)))) (eB (Qj neG (Qc 6) (Qj ixG (Qc 2) (eC (.str "pairs")))))) (QG (eC (.bl false))) (Zc)) (Qr (Z7 (Xn "list" KJ (Qc 6) Qo)) (QG (Qj eqG (QD "Walk" "answer" 1 Js (Qc 1) Qo) (Qj ixG (Qc 2) (eC (.str "pairs")))))))) (Zc)) (QG (Qj isD (QD "Walk" "answer" 1 Js (Qc 1) Qo) (eC .non)))))))
def Jt:List DV->M DV:=Q7 7 V6
abbrev xY:Stmt:=top 36
def Gq:DSx:=Qr (sIf (eB (Qj eqG (Qj ixG (Qc 0) (eC (.int 0))) (eC (.str "put")))) (Xe (Qj ixG (Qc 0) (eC (.int 2))) (gSb (Qc 1) (Qj ixG (Qc 0) (eC (.int 1))))) (Zc)) (sIf (Xm (eB (Qj eqG (Qj ixG (Qc 0) (eC (.int 0))) (eC (.str "cut")))) (eB (Qj inG (Qj ixG (Qc 0) (eC (.int 1))) (Qc 1)))) (Z7 (Xn "dict" Yi (Qc 1) (Qd (Qj ixG (Qc 0) (eC (.int 1))) (Qo)))) (Zc))
def qv:List DV->M DV:=Q7 2 Gq
abbrev qj:Stmt:=Zt (top 21) 0
def ye:DSx:=Qr (Zf "Walk" "shelf" (Qc 0) (Qc 1)) (Qr (Zf "Walk" "deed" (Qc 0) (Qc 2)) (Qr (Zf "Walk" "aim" (Qc 0) (Qj ixG (Qc 2) (eC (.int 1)))) (Qr (Zf "Walk" "goal" (Qc 0) (eC (.int 0))) (Qr (Zf "Walk" "place" (Qc 0) (eC .non)) (Qr (Zf "Walk" "forks" (Qc 0) (JY)) (Qr (Zf "Walk" "new_page" (Qc 0) (eC .non)) (Qr (Zf "Walk" "worth" (Qc 0) (eC .non)) (Qr (Zf "Walk" "pairs" (Qc 0) (Yd (Qo))) (Zf "Walk" "ended" (Qc 0) (eC (.bl false)))))))))))
def Zv:List DV->M DV:=Q7 3 ye
abbrev Vt:Stmt:=top 34
def jA:DSx:=Qr (sIf (eB (QD "Walk" "over" 1 Q6 (Qc 2) Qo)) (QG (Qc 2)) (Zc)) (Z7 (QD "Walk" "step" 1 Xx (Qc 2) Qo))
def ja:DSx:=uO (Qav (Qd (eC (.int 1000)) (Qo))) (gN 3) (jA)
def vS:DSx:=Qr (QJ 2 (JS "Walk" 3 Zv (Qd (Qc 0) (Qd (Qc 1) (Qo))))) (Qr (ja) (QG (Qc 2)))
def Xj:List DV->M DV:=Q7 4 vS
abbrev Vu:Stmt:=top 30
def yD:DSx:=Qr (QJ 3 (Qj Vi (Qj ZL (Qc 0) (Qj Qbv (Qc 1) (eC (.int 3)))) (Qc 1))) (QG (Qj Vi (Qj Vi (Qj qM (Qj Vi (Qj qM (Qc 3) (Qc 3)) (Qc 1)) (Qc 3)) (Qc 1)) (Qc 2)))
def Qw:List DV->M DV:=Q7 4 yD
abbrev xZ:Stmt:=top 32
def Gu:DSx:=Qr (sIf (eB (Qj eqD (Qt 3 Qw (Qd (Qc 0) (Qd (eC (.int 10037)) (Qd (eC (.int 4)) (Qo))))) (eC (.int 0)))) (QG (Qj VQ (Qj Vi (Qj ZL (Qj qM (Qj Vi (Qc 0) (Qj qq (eC (.int 10)) (eC (.int 40)))) (eC (.int 1000000000039))) (eC (.int 5))) (Qj ZL (Qj qM (eC (.int 2)) (Qj qq (eC (.int 10)) (eC (.int 30)))) (eC (.int 1)))) (Qj qq (eC (.int 10)) (eC (.int 30))))) (Zc)) (QG (Qj VQ (Qt 3 Qw (Qd (Qc 0) (Qd (eC (.int 10039)) (Qd (eC (.int 9)) (Qo))))) (eC (.int 4))))
def qw:List DV->M DV:=Q7 1 Gu
abbrev US:Stmt:=top 31
def Qac:DSx:=Qr (QJ 1 (Qt 3 Qw (Qd (Qc 0) (Qd (eC (.int 10007)) (Qd (eC (.int 5)) (Qo)))))) (Qr (sIf (eB (Qj eqD (Qc 1) (eC (.int 0)))) (QG (Qj VQ (Qj Vi (Qj ZL (Qj qM (Qj Vi (Qc 0) (Qj qq (eC (.int 10)) (eC (.int 40)))) (eC (.int 1000000000039))) (eC (.int 11))) (Qj ZL (Qj qM (eC (.int 2)) (Qj qq (eC (.int 10)) (eC (.int 30)))) (eC (.int 1)))) (Qj qq (eC (.int 10)) (eC (.int 30))))) (Zc)) (QG (Qj VQ (Qt 3 Qw (Qd (Qc 0) (Qd (eC (.int 10009)) (Qd (Qj ixD (XC (Qd (eC (.int 10)) (Qd (eC (.int 10)) (Qd (eC (.int 41)) (Qd (eC (.int 120)) (Qd (eC (.int 120)) (Qo))))))) (Qc 1)) (Qo))))) (eC (.int 5)))))
def YA:List DV->M DV:=Q7 2 Qac
abbrev Vs:Stmt:=top 33
def vR:DSx:=Qr (QJ 1 (Qt 3 Qw (Qd (Qc 0) (Qd (eC (.int 10061)) (Qd (eC (.int 10)) (Qo)))))) (Qr (QJ 2 (Qt 1 YA (Qd (Qc 0) (Qo)))) (Qr (sIf (eB (Qj ltD (Qc 1) (eC (.int 5)))) (QG (Zz (Qd (eC (.str "put")) (Qd (Qc 2) (Qd (Qt 1 qw (Qd (Qc 0) (Qo))) (Qo)))))) (Zc)) (Qr (sIf (eB (Qj ltD (Qc 1) (eC (.int 7)))) (QG (Zz (Qd (eC (.str "cut")) (Qd (Qc 2) (Qo))))) (Zc)) (Qr (sIf (eB (Qj ltD (Qc 1) (eC (.int 9)))) (QG (Zz (Qd (eC (.str "find")) (Qd (Qc 2) (Qo))))) (Zc)) (Qr (QJ 3 (ZT KK (Qd (Qc 2) (Qd (Qj VQ (Qj qq (eC (.int 10)) (eC (.int 30))) (eC (.int 1))) (Qo))))) (Qr (QJ 4 (ZT KK (Qd (Qj qq (eC (.int 10)) (eC (.int 30))) (Qd (Qj ZL (Qj ZL (Qc 3) (eC (.int 1))) (Qt 3 Qw (Qd (Qc 0) (Qd (eC (.int 10067)) (Qd (eC (.int 50)) (Qo)))))) (Qo))))) (Qr (QJ 5 (ZT KK (Qd (Qj qq (eC (.int 10)) (eC (.int 30))) (Qd (Qj ZL (Qj ZL (Qc 3) (eC (.int 51))) (Qt 3 Qw (Qd (Qc 0) (Qd (eC (.int 10151)) (Qd (eC (.int 150)) (Qo)))))) (Qo))))) (QG (Zz (Qd (eC (.str "stretch")) (Qd (Qc 3) (Qd (Qj ixD (XC (Qd (Qj ZL (Qc 3) (eC (.int 1))) (Qd (Qc 4) (Qd (Qc 5) (Qd (Qj qq (eC (.int 10)) (eC (.int 30))) (Qo)))))) (Qt 3 Qw (Qd (Qc 0) (Qd (eC (.int 10069)) (Qd (eC (.int 4)) (Qo)))))) (Qo)))))))))))))
def zF:List DV->M DV:=Q7 6 vR
abbrev UU:Stmt:=top 37
def jZ:DSx:=Qr (QJ 1 (Qj VQ (Qt 3 Qw (Qd (Qc 0) (Qd (eC (.int 10103)) (Qd (eC (.int 120)) (Qo))))) (eC (.int 5)))) (Qr (QJ 2 (Qj ZL (Qj ZL (Qc 1) (eC (.int 1))) (Qj ixD (XC (Qd (Qt 3 Qw (Qd (Qc 0) (Qd (eC (.int 10111)) (Qd (eC (.int 30)) (Qo))))) (Qd (Qj ZL (eC (.int 30)) (Qt 3 Qw (Qd (Qc 0) (Qd (eC (.int 10111)) (Qd (eC (.int 140)) (Qo)))))) (Qo)))) (Qt 3 Qw (Qd (Qc 0) (Qd (eC (.int 10133)) (Qd (eC (.int 2)) (Qo)))))))) (Qr (sIf (eB (Qj eqD (Qt 3 Qw (Qd (Qc 0) (Qd (eC (.int 10159)) (Qd (eC (.int 3)) (Qo))))) (eC (.int 0)))) (QJ 2 (Qj qq (eC (.int 10)) (eC (.int 30)))) (Zc)) (QG (Zz (Qd (eC (.str "stretch")) (Qd (Qc 1) (Qd (Qc 2) (Qo))))))))
def Xk:List DV->M DV:=Q7 3 jZ
abbrev zC:Stmt:=top 29
def Yt:DSx:=Qr (sIf (eB (Qj ltD (Qc 1) (ZT qp (Qd (Qc 0) (Qo))))) (QG (Qj ixD (Qc 0) (Qc 1))) (Zc)) (QG (eC (.int 0)))
def JM:List DV->M DV:=Q7 2 Yt
abbrev YI:Stmt:=Zt (top 27) 0
def YB:DSx:=Qr (Zf "Shelf" "page_room" (Qc 0) (Qc 1)) (Qr (Zf "Shelf" "kept" (Qc 0) (Yd (Qd (eC (.tup [.int 0,.tup [],.tup [],.non,.non])) (Qo)))) (Qr (Zf "Shelf" "top" (Qc 0) (eC (.int 0))) (Qr (Zf "Shelf" "read_count" (Qc 0) (eC (.int 0))) (Zf "Shelf" "write_count" (Qc 0) (eC (.int 0))))))
def ZR:List DV->M DV:=Q7 2 YB
abbrev xW:Stmt:=top 35
def zq:DSx:=Qr (QJ 5 (Qj VQ (Qt 3 Qw (Qd (Qj ZL (Qc 0) (Qj qM (eC (.int 7)) (Qc 4))) (Qd (eC (.int 10099)) (Qd (eC (.int 120)) (Qo))))) (eC (.int 5)))) (Qr (Z7 (Qt 2 Xj (Qd (Qc 2) (Qd (Zz (Qd (eC (.str "put")) (Qd (Qc 5) (Qd (Qc 4) (Qo))))) (Qo))))) (Xe (Qc 4) (gSb (Qc 1) (Qc 5))))
def zj:DSx:=uO (Qav (Qd (Qc 3) (Qo))) (gN 4) (zq)
def Gn:DSx:=Qr (QJ 2 (JS "Shelf" 2 ZR (Qd (Qj ZL (eC (.int 2)) (Qj qM (Qt 3 Qw (Qd (Qc 0) (Qd (eC (.int 10079)) (Qd (eC (.int 7)) (Qo))))) (Qt 3 Qw (Qd (Qc 0) (Qd (eC (.int 10091)) (Qd (eC (.int 2)) (Qo))))))) (Qo)))) (Qr (QJ 3 (Qt 3 Qw (Qd (Qc 0) (Qd (eC (.int 10093)) (Qd (eC (.int 25)) (Qo)))))) (Qr (sIf (eB (Qj eqG (Qt 3 Qw (Qd (Qc 0) (Qd (eC (.int 10141)) (Qd (eC (.int 8)) (Qo))))) (eC (.int 3)))) (QJ 3 (eC (.int 60))) (Zc)) (Qr (zj) (QG (Qc 2)))))
def qu:List DV->M DV:=Q7 6 Gn
abbrev xV:Stmt:=top 41
def KD:DSx:=Qr (sIf (eOr (eB (Qj isD (Qc 3) (eC .non))) (eB (QD "Walk" "over" 1 Q6 (Qc 3) Qo))) (QG (eC (.bl true))) (Zc)) (sIf (Jo (eB (Qt 4 Jt (Qd (Qc 2) (Qd (Qc 3) (Qd (Qc 4) (Qd (Qc 1) (Qo)))))))) (QG (eC (.bl false))) (Zc))
def gk:DSx:=uO (Qav (Qd (Qj ZL (Qj qM (eC (.int 2)) (QD "Shelf" "pages" 1 Jq (Qc 2) Qo)) (eC (.int 8))) (Qo))) (gN 6) (KD)
def KE:DSx:=Qr (sIf (eOr (eB (Qj isD (Qc 3) (eC .non))) (eB (QD "Walk" "over" 1 Q6 (Qc 3) Qo))) (Qr (QJ 8 (Qt 1 Xk (Qd (Qc 5) (Qo)))) (Qr (QJ 3 (JS "Walk" 3 Zv (Qd (Qc 2) (Qd (Qc 8) (Qo))))) (QJ 4 (X0 [(eC (.str "from"),Qj ixG (Qc 8) (eC (.int 1))),(eC (.str "high"),Qj ixG (Qc 8) (eC (.int 2))),(eC (.str "pairs"),XC (Qo))])))) (Zc)) (Qr (QJ 7 (Qt 1 zF (Qd (Qc 5) (Qo)))) (Qr (Z7 (Qt 2 Xj (Qd (Qc 2) (Qd (Qc 7) (Qo))))) (Qr (Z7 (Qt 2 qv (Qd (Qc 7) (Qd (Qc 1) (Qo))))) (sIf (Jo (eB (Qt 4 Jt (Qd (Qc 2) (Qd (Qc 3) (Qd (Qc 4) (Qd (Qc 1) (Qo)))))))) (QG (eC (.bl false))) (Zc)))))
def Qc7:DSx:=kL (xLs (eSl (Qc 0) (ZP) (ZQ (eC (.int 120))))) (gN 5) (KE)
def QgC:DSx:=Qr (QJ 1 (JY)) (Qr (QJ 2 (Qt 2 qu (Qd (Qt 2 JM (Qd (Qc 0) (Qd (eC (.int 0)) (Qo)))) (Qd (Qc 1) (Qo))))) (Qr (QJ 3 (eC .non)) (Qr (QJ 4 (JY)) (Qr (Qc7) (Qr (gk) (QG (QD "Walk" "over" 1 Q6 (Qc 3) Qo)))))))
def Gg:List DV->M DV:=Q7 9 QgC
structure Al (K:Aa) (mg:Ej):Prop where
 z0:mg "len" = none
 z1:mg "list" = none
 z2:mg "isinstance" = none
 z3:mg "int" = none
 z4:mg "bool" = none
 z5:mg "tuple" = none
 z6:mg "sorted" = none
 z7:mg "zip" = none
 z8:mg "range" = none
 z9:mg "min" = none
 g0:UG mg "SIDE" 4
 g1:UG mg "HIGH" 3
 g2:UG mg "KEYS" 1
 g3:UG mg "PARTS" 2
 g4:UG mg "LEVEL" 0
 t0:UT K mg "EMPTY_LEAF" (.tup [.int 0,.tup [],.tup [],.non,.non])
 k0:YX K "Walk" "ended"
 k1:YX K "Shelf" "kept"
 k2:YX K "Walk" "worth"
 k3:YX K "Walk" "deed"
 k4:YX K "Walk" "pairs"
 k5:YX K "Shelf" "write_count"
 k6:YX K "Walk" "aim"
 k7:YX K "Walk" "place"
 k8:YX K "Walk" "shelf"
 k9:YX K "Shelf" "page_room"
 k10:YX K "Walk" "new_page"
 k11:YX K "Walk" "forks"
 k12:YX K "Walk" "goal"
 k13:YX K "Shelf" "top"
 k14:YX K "Shelf" "read_count"
 u0:UM K "Walk" "over" "Walk.over" xT
 u1:UM K "Shelf" "pages" "Shelf.pages" zw
 u2:UM K "Walk" "answer" "Walk.answer" zy
 u3:UF K mg "_law_pairs" xX
 u4:UF K mg "_law_read" Vv
 u5:UM K "Shelf" "writings" "Shelf.writings" YJ
 u6:UM K "Walk" "read_pairs" "Walk.read_pairs" Ym
 u7:UM K "Shelf" "check_number" "Shelf.check_number" XF
 u8:UM K "Shelf" "write" "Shelf.write" zx
 u9:UF K mg "refilled" Vw
 u10:UF K mg "count_not_above" Yn
 u11:UF K mg "count_below" zB
 u12:UF K mg "with_run" Vy
 u13:UF K mg "without" UV
 u14:UF K mg "worth_of" Vz
 u15:UM K "Walk" "cut_key" "Walk.cut_key" qP
 u16:UM K "Shelf" "lay" "Shelf.lay" xS
 u17:UF K mg "parted" vj
 u18:UM K "Shelf" "room" "Shelf.room" jL
 u19:UF K mg "is_full" UQ
 u20:UM K "Walk" "settle" "Walk.settle" zA
 u21:UF K mg "with_pair" x6
 u22:UM K "Walk" "put_pair" "Walk.put_pair" qk
 u23:UM K "Walk" "find_worth" "Walk.find_worth" Yl
 u24:UM K "Walk" "do_deed" "Walk.do_deed" qQ
 u25:UF K mg "with_kid" Vx
 u26:UM K "Walk" "tell_fork" "Walk.tell_fork" YK
 u27:UM K "Walk" "go_on" "Walk.go_on" jN
 u28:UF K mg "kid_for" UR
 u29:UF K mg "beyond" vi
 u30:UM K "Shelf" "raise_root" "Shelf.raise_root" X8
 u31:UM K "Walk" "raise_root_over" "Walk.raise_root_over" Xa
 u32:UM K "Shelf" "read" "Shelf.read" jK
 u33:UM K "Shelf" "root" "Shelf.root" jM
 u34:UM K "Walk" "step" "Walk.step" xU
 u35:UF K mg "_law_stepped" zD
 u36:UF K mg "_law_plain" xY
 u37:UI K mg "Walk" "Walk.__init__" qj
 u38:UF K mg "_law_done" Vt
 u39:UF K mg "_law_pick" Vu
 u40:UF K mg "_law_worth" xZ
 u41:UF K mg "_law_key" US
 u42:UF K mg "_law_deed" Vs
 u43:UF K mg "_law_new" UU
 u44:UF K mg "_law_cell_at" zC
 u45:UI K mg "Shelf" "Shelf.__init__" YI
 u46:UF K mg "_law_begun" xW
theorem KY:Qv ["self"] ["self"] (Qp xT):=Ze (by decide +kernel)
theorem VA:Qv ["self"] ["self"] (Qp zw):=Ze (by decide +kernel)
theorem VC:Qv ["self"] ["self"] (Qp zy):=Ze (by decide +kernel)
theorem sc_law_pairs:Qv ["found", "pair"] ["found"] (Qp xX):=Ze (by decide +kernel)
theorem sc_law_read:Qv ["row", "state", "table", "upto", "due"] ["row", "state", "table"] (Qp Vv):=Ze (by decide +kernel)
theorem jP:Qv ["self"] ["self"] (Qp YJ):=Ze (by decide +kernel)
theorem sc_Walk_read_pairs:Qv ["self", "number", "leaf", "low", "high", "pairs"] ["self", "number", "leaf"] (Qp Ym):=Ze (by decide +kernel)
theorem qt:Qv ["self", "number"] ["self", "number"] (Qp XF):=Ze (by decide +kernel)
theorem VB:Qv ["self", "number", "page"] ["self", "number", "page"] (Qp zx):=Ze (by decide +kernel)
theorem vk:Qv ["page", "keys", "parts"] ["page", "keys", "parts"] (Qp Vw):=Ze (by decide +kernel)
theorem zX:Qv ["keys", "key"] ["keys", "key"] (Qp Yn):=Ze (by decide +kernel)
theorem VD:Qv ["keys", "key"] ["keys", "key"] (Qp zB):=Ze (by decide +kernel)
theorem sc_with_run:Qv ["page", "key", "new_keys", "new_worths", "keys", "worths", "start", "stop"] ["page", "key", "new_keys", "new_worths"] (Qp Vy):=Ze (by decide +kernel)
theorem uS:Qv ["page", "key"] ["page", "key"] (Qp UV):=Ze (by decide +kernel)
theorem sc_worth_of:Qv ["page", "key", "keys", "place"] ["page", "key"] (Qp Vz):=Ze (by decide +kernel)
theorem yo:Qv ["self", "number", "leaf"] ["self", "number", "leaf"] (Qp qP):=Ze (by decide +kernel)
theorem KW:Qv ["self", "page"] ["self", "page"] (Qp xS):=Ze (by decide +kernel)
theorem sc_parted:Qv ["page", "number", "level", "keys", "parts", "middle", "key", "cut", "old", "new"] ["page", "number"] (Qp vj):=Ze (by decide +kernel)
theorem Uk:Qv ["self"] ["self"] (Qp jL):=Ze (by decide +kernel)
theorem uQ:Qv ["page", "room"] ["page", "room"] (Qp UQ):=Ze (by decide +kernel)
theorem sc_Walk_settle:Qv ["self", "number", "page", "halves"] ["self", "number", "page"] (Qp zA):=Ze (by decide +kernel)
theorem K1:Qv ["page", "key", "worth"] ["page", "key", "worth"] (Qp x6):=Ze (by decide +kernel)
theorem sc_Walk_put_pair:Qv ["self", "number", "leaf", "new_page"] ["self", "number", "leaf"] (Qp qk):=Ze (by decide +kernel)
theorem zW:Qv ["self", "number", "leaf"] ["self", "number", "leaf"] (Qp Yl):=Ze (by decide +kernel)
theorem sc_Walk_do_deed:Qv ["self", "number", "leaf", "word"] ["self", "number", "leaf"] (Qp qQ):=Ze (by decide +kernel)
theorem sc_with_kid:Qv ["page", "key", "kid", "keys", "kids", "place", "behind"] ["page", "key", "kid"] (Qp Vx):=Ze (by decide +kernel)
theorem sc_Walk_tell_fork:Qv ["self", "number", "fork", "new_page"] ["self", "number", "fork"] (Qp YK):=Ze (by decide +kernel)
theorem Um:Qv ["self", "word", "number", "to"] ["self", "word", "number", "to"] (Qp jN):=Ze (by decide +kernel)
theorem uR:Qv ["page", "key"] ["page", "key"] (Qp UR):=Ze (by decide +kernel)
theorem sc_beyond:Qv ["page", "key", "high"] ["page", "key"] (Qp vi):=Ze (by decide +kernel)
theorem sc_Shelf_raise_root:Qv ["self", "key", "number", "level"] ["self", "key", "number"] (Qp X8):=Ze (by decide +kernel)
theorem YL:Qv ["self", "number"] ["self", "number"] (Qp Xa):=Ze (by decide +kernel)
theorem Uj:Qv ["self", "number"] ["self", "number"] (Qp jK):=Ze (by decide +kernel)
theorem Ul:Qv ["self"] ["self"] (Qp jM):=Ze (by decide +kernel)
theorem sc_Walk_step:Qv ["self", "number", "page"] ["self"] (Qp xU):=Ze (by decide +kernel)
theorem sc_law_stepped:Qv ["shelf", "walk", "state", "table", "writings", "row", "answer"] ["shelf", "walk", "state", "table"] (Qp zD):=Ze (by decide +kernel)
theorem KZ:Qv ["deed", "table"] ["deed", "table"] (Qp xY):=Ze (by decide +kernel)
theorem xD:Qv ["self", "shelf", "deed"] ["self", "shelf", "deed"] (Qp qj):=Ze (by decide +kernel)
theorem sc_law_done:Qv ["shelf", "deed", "walk", "k"] ["shelf", "deed"] (Qp Vt):=Ze (by decide +kernel)
theorem sc_law_pick:Qv ["cell", "prime", "many", "low"] ["cell", "prime", "many"] (Qp Vu):=Ze (by decide +kernel)
theorem K0:Qv ["cell"] ["cell"] (Qp xZ):=Ze (by decide +kernel)
theorem sc_law_key:Qv ["cell", "way"] ["cell"] (Qp US):=Ze (by decide +kernel)
theorem sc_law_deed:Qv ["cell", "kind", "key", "low", "near", "far"] ["cell"] (Qp Vs):=Ze (by decide +kernel)
theorem sc_law_new:Qv ["cell", "low", "high"] ["cell"] (Qp UU):=Ze (by decide +kernel)
theorem VE:Qv ["script", "k"] ["script", "k"] (Qp zC):=Ze (by decide +kernel)
theorem jO:Qv ["self", "room"] ["self", "room"] (Qp YI):=Ze (by decide +kernel)
theorem sc_law_begun:Qv ["cell", "table", "shelf", "many", "k", "key"] ["cell", "table"] (Qp xW):=Ze (by decide +kernel)
theorem sc_law:Qv ["script", "table", "shelf", "walk", "state", "cell", "k", "other", "deed"] ["script"] (Qp xV):=Ze (by decide +kernel)
section
variable {P:Program} {w:World} {K:Aa} {mg:Ej} {O8:Heap} (Z:Al K mg)
include Z
def Jb:XH P w K mg O8 "Walk" "over" 1 1 Q6:=hM Z.u0 KY fun _ _ _ _ _ _ _ hr=>Qq (Qu (QB Z.k0 (Qa 0)))
def qf:XH P w K mg O8 "Shelf" "pages" 1 1 Jq:=hM Z.u1 VA fun _ _ _ _ _ _ _ hr=>Qq (Qu (J6 zI Z.z0 PySem.boot_len (Qb (QB Z.k1 (Qa 0)) Qn)))
def XM:XH P w K mg O8 "Walk" "answer" 1 1 Js:=hM Z.u2 VC fun _ _ _ _ _ _ _ hr=>Qg (Zk (Xl (JR (QB Z.k0 (Qa 0)))) (Qq (Qu ZJ)) QL) (Qg (Zk (Q1 (jG hr.units) (QO (QY hr) (QB Z.k3 (Qa 0)) Qm) Zd (QW _)) (Qq (Qu (gC Qdd Z.z1 boot_list (Qb (QB Z.k4 (Qa 0)) Qn)))) QL) (Qq (Qu (QB Z.k2 (Qa 0)))))
theorem V8:Has P w K mg O8 "_law_pairs" 1 1 Yc:=hf Z.u3 sc_law_pairs fun _ _ _ _ _ _ _ hr=>Qg (Zk (Xl (JR (yJ Z.z2 Z.z5 boot_tuple (by decide) (Qa 0)))) (Qq (Qu JQ)) QL) (Qg (Kq PassesOwn.never rfl (Kl (Qa 0)) (jl 1 sc_law_pairs.nd) (Qg (Zk (DW.pt (qe (Xl (JR (yJ Z.z2 Z.z5 boot_tuple (by decide) (Qa 1)))) (XZ (Q1 (Vn hr.units) (J6 zI Z.z0 PySem.boot_len (Qb (Qa 1) Qn)) Qm (QW _))))) (Qq (Qu JQ)) QL) (Qq (Zk (Q1 (Vn hr.units) (yI (caps:=[]) (idx:=[]) ⟨by with_unfolding_all rfl,by decide +kernel,rfl,by decide +kernel,rfl,(by exact trivial),by with_unfolding_all rfl,(by exact trivial),by decide⟩ rfl (gK (Kl (Qa 1))) (fun _ _ _ _=>jo (DW.pt (qe (Xl (JR (yJ Z.z2 Z.z3 boot_int (by decide) (Qa 0)))) (XZ (JR (yJ Z.z2 Z.z4 boot_bool (by decide) (Qa 0))))))) (fun _ _ _ _=>Qa 0)) (yK Qn) (QW _)) (Qq (Qu JQ)) QL)))) (Qq (Qu JQ)))
theorem Ku:Has P w K mg O8 "_law_read" 2 3 YT:=hf Z.u4 sc_law_read fun _ _ _ _ _ _ _ hr=>Qg (QE 3 sc_law_read.nd (QO (QY hr) (Qa 1) Zd)) (Qg (Zk (Q1 ku (QO (QY hr) (Qa 0) Qm) ZJ (QW _)) (Qg (QE 3 sc_law_read.nd (QO (QY hr) (Qa 0) Qm)) (Qq (Zk (DW.pt (qe (Xl (jn Vm Vm (QO (QY hr) (Qa 1) Zd) (Qa 3) (QO (QY hr) (Qa 1) Zd))) (XZ (Q1 KQ (QO (QY hr) (Qa 0) Qm) ZJ (QW _))))) (Qq (Qu JQ)) QL))) QL) (Qg (GI 4 sc_law_read.nd (caps:=["upto", "table", "state"]) (idx:=[3,2,1]) ⟨by with_unfolding_all rfl,by decide +kernel,rfl,by decide +kernel,rfl,(by exact ⟨rfl,⟨rfl,⟨rfl,trivial⟩⟩⟩),by with_unfolding_all rfl,(by exact ⟨rfl,.inl rfl,⟨_,rfl⟩,(fun h=>NameKind.noConfusion (Ak (show some NameKind.cell=some NameKind.local from h))),⟨rfl,.inl rfl,⟨_,rfl⟩,(fun h=>NameKind.noConfusion (Ak (show some NameKind.cell=some NameKind.local from h))),⟨rfl,.inl rfl,⟨_,rfl⟩,(fun h=>NameKind.noConfusion (Ak (show some NameKind.cell=some NameKind.local from h))),trivial⟩⟩⟩),by decide⟩ rfl (gJ (J6 (Qaf rfl) Z.z6 boot_sorted (Qb (Qa 2) Qn))) (fun _ _ _ _=>jo (jn QdT Vm (QO (QY hr) (Qa 3) Zd) (Qa 0) (Qa 1))) (fun _ _ _ _=>Zq (Qb (Qa 0) (Qb (QO (QY hr) (Qa 2) (Qa 0)) Qn)))) (Qg (Zk (DW.pt (qe (Xl (JR (QA (V8 Z) hr (by decide) Qx (Qb (QO (QY hr) (Qa 0) Qm) Qn)))) (qe (Q1 (Vn hr.units) (gC Qe7 Z.z1 boot_list (Qb (QO (QY hr) (Qa 0) Qm) Qn)) (Qa 4) (QW _)) (XZ (DW.pt (ua (Q1 KQ (QO (QY hr) (Qa 0) Qm) ZJ (QW _)) (Kr (Q1 ku (QO (QY hr) (Qa 0) Qm) ZJ (QW _))))))))) (Qq (Qu JQ)) QL) (Qg (xg (Qa 3) (xc (QY hr) (Qa 1) Zd)) (Qg (xg (Qy Z6 (QO (QY hr) (Qa 1) Zd) (Qa 4)) (xc (QY hr) (Qa 1) Zd)) (Qq (Qu JQ)))))))
def X3:XH P w K mg O8 "Shelf" "writings" 1 1 ZB:=hM Z.u5 jP fun _ _ _ _ _ _ _ hr=>Qq (Qu (QB Z.k5 (Qa 0)))
theorem zi:XH P w K mg O8 "Walk" "read_pairs" 1 3 J5:=hM Z.u6 sc_Walk_read_pairs fun _ _ _ _ _ _ _ hr=>let ⟨_,g_SIDE⟩:=Z.g0.ex;let ⟨_,g_HIGH⟩:=Z.g1.ex;let ⟨_,g_KEYS⟩:=Z.g2.ex;let ⟨_,g_PARTS⟩:=Z.g3.ex;Qg (QE 3 sc_Walk_read_pairs.nd (QO (QY hr) (QB Z.k3 (Qa 0)) Qm)) (Qg (QE 4 sc_Walk_read_pairs.nd (QO (QY hr) (QB Z.k3 (Qa 0)) Qm)) (Qg (GI 5 sc_Walk_read_pairs.nd (caps:=["low", "high"]) (idx:=[3,4]) ⟨by with_unfolding_all rfl,by decide +kernel,rfl,by decide +kernel,rfl,(by exact ⟨rfl,⟨rfl,trivial⟩⟩),by with_unfolding_all rfl,(by exact ⟨rfl,.inl rfl,⟨_,rfl⟩,(fun h=>NameKind.noConfusion (Ak (show some NameKind.cell=some NameKind.local from h))),⟨rfl,.inl rfl,⟨_,rfl⟩,(fun h=>NameKind.noConfusion (Ak (show some NameKind.cell=some NameKind.local from h))),trivial⟩⟩),by decide⟩ rfl (gK (Qdn (by rfl) (by exact Z.z7) (QO (QY hr) (Qa 2) (Za rfl g_KEYS)) (QO (QY hr) (Qa 2) (Za rfl g_PARTS)))) (fun _ _ _ _=>jo (jn QdT Vm (Qa 1) (QO (QY hr) (Qa 0) Qm) (Qa 2))) (fun _ _ _ _=>Qa 0)) (Qg (Jx (Kk QbY PySem.F.plainAttrs_list PySem.F.slot_list_extend PySem.F.type_list_extend (QB Z.k4 (Qa 0)) (Qb (Qa 5) Qn))) (Qg (Zk (DW.pt (qe (Q1 KQ (QO (QY hr) (Qa 2) (Za rfl g_HIGH)) ZJ (QW _)) (XZ (Q1 Qg9 (QO (QY hr) (Qa 2) (Za rfl g_HIGH)) (Qa 4) (QW _))))) (Qg (Zm Z.k0 (Qa 0) JQ) (Qq (Qu (Zq (Qb Zd (Qb (Qa 1) (Qb (gC Gw Z.z5 boot_tuple (Qb (Qa 5) Qn)) (Qb ZJ (Qb ZJ Qn))))))))) QL) (Qg (Zm Z.k6 (Qa 0) (QO (QY hr) (Qa 2) (Za rfl g_HIGH))) (Qg (Zm Z.k7 (Qa 0) (QO (QY hr) (Qa 2) (Za rfl g_SIDE))) (Qq (Qu (Zq (Qb Zd (Qb (Qa 1) (Qb (gC Gw Z.z5 boot_tuple (Qb (Qa 5) Qn)) (Qb (QB Z.k7 (Qa 0)) (Qb (QB Z.k6 (Qa 0)) Qn))))))))))))))
def Jl:XH P w K mg O8 "Shelf" "check_number" 1 2 Zn:=hM Z.u7 qt fun _ _ _ _ _ _ _ hr=>Qq (Zk (Xl (jn QdT Vm Qm (Qa 1) (J6 zI Z.z0 PySem.boot_len (Qb (QB Z.k1 (Qa 0)) Qn)))) (Qq Qdo) QL)
theorem XL:XH P w K mg O8 "Shelf" "write" 2 3 Jr:=hM Z.u8 VB fun _ _ _ _ _ _ _ hr=>Qg (Jx (ZD (Jl Z) hr (by decide) Qx (Qa 0) (Qb (Qa 1) Qn))) (Qg (xh Z.k5 (Qa 0) Qm) (Qq (xg (Qa 2) (xc (QY hr) (QB Z.k1 (Qa 0)) (Qa 1)))))
def jv:Has P w K mg O8 "refilled" 1 3 YU:=hf Z.u9 vk fun _ _ _ _ _ _ _ hr=>let ⟨_,g_SIDE⟩:=Z.g0.ex;let ⟨_,g_HIGH⟩:=Z.g1.ex;let ⟨_,g_LEVEL⟩:=Z.g4.ex;Qq (Qu (Zq (Qb (Jn (Qa 0) (Za rfl g_LEVEL)) (Qb (Qa 1) (Qb (Qa 2) (Qb (Jn (Qa 0) (Za rfl g_HIGH)) (Qb (Jn (Qa 0) (Za rfl g_SIDE)) Qn)))))))
theorem Je:Has P w K mg O8 "count_not_above" 1 2 Zp:=hf Z.u10 zX fun _ _ _ _ _ _ _ hr=>Qq (Qu (J6 zI Z.z0 PySem.boot_len (Qb (yI (caps:=["key"]) (idx:=[1]) ⟨by with_unfolding_all rfl,by decide +kernel,rfl,by decide +kernel,rfl,(by exact ⟨rfl,trivial⟩),by with_unfolding_all rfl,(by exact ⟨rfl,.inl rfl,⟨_,rfl⟩,(fun h=>NameKind.noConfusion (Ak (show some NameKind.cell=some NameKind.local from h))),trivial⟩),by decide⟩ rfl (gK (Kl (Qa 0))) (fun _ _ _ _=>jo (Q1 QdT (Qa 0) (Qa 1) (QW _))) (fun _ _ _ _=>Qa 0)) Qn)))
theorem qh:Has P w K mg O8 "count_below" 1 2 Xq:=hf Z.u11 VD fun _ _ _ _ _ _ _ hr=>Qq (Qu (J6 zI Z.z0 PySem.boot_len (Qb (yI (caps:=["key"]) (idx:=[1]) ⟨by with_unfolding_all rfl,by decide +kernel,rfl,by decide +kernel,rfl,(by exact ⟨rfl,trivial⟩),by with_unfolding_all rfl,(by exact ⟨rfl,.inl rfl,⟨_,rfl⟩,(fun h=>NameKind.noConfusion (Ak (show some NameKind.cell=some NameKind.local from h))),trivial⟩),by decide⟩ rfl (gK (Kl (Qa 0))) (fun _ _ _ _=>jo (Q1 Vm (Qa 0) (Qa 1) (QW _))) (fun _ _ _ _=>Qa 0)) Qn)))
theorem jw:Has P w K mg O8 "with_run" 2 4 YW:=hf Z.u12 sc_with_run fun _ _ _ _ _ _ _ hr=>let ⟨_,g_PARTS⟩:=Z.g3.ex;let ⟨_,g_KEYS⟩:=Z.g2.ex;Qg (QE 4 sc_with_run.nd (Jn (Qa 0) (Za rfl g_KEYS))) (Qg (QE 5 sc_with_run.nd (Jn (Qa 0) (Za rfl g_PARTS))) (Qg (QE 6 sc_with_run.nd (QA (qh Z) hr (by decide) Qx (Qb (Qa 4) (Qb (Qa 1) Qn)))) (Qg (QE 7 sc_with_run.nd (QA (Je Z) hr (by decide) Qx (Qb (Qa 4) (Qb (Qa 1) Qn)))) (Qq (Qu (QA (jv Z) hr (by decide) Qx (Qb (Qa 0) (Qb (Qy Z6 (Qy Z6 (YD (Qa 4) JF (JG (Qa 6))) (Qa 2)) (YD (Qa 4) (JG (Qa 7)) JF)) (Qb (Qy Z6 (Qy Z6 (YD (Qa 5) JF (JG (Qa 6))) (Qa 3)) (YD (Qa 5) (JG (Qa 7)) JF)) Qn)))))))))
theorem GW:Has P w K mg O8 "without" 3 2 jX:=hf Z.u13 uS fun _ _ _ _ _ _ _ hr=>Qq (Qu (QA (jw Z) hr (by decide) Qx (Qb (Qa 0) (Qb (Qa 1) (Qb (Zq Qn) (Qb (Zq Qn) Qn))))))
theorem Y0:Has P w K mg O8 "worth_of" 2 2 JX:=hf Z.u14 sc_worth_of fun _ _ _ _ _ _ _ hr=>let ⟨_,g_PARTS⟩:=Z.g3.ex;let ⟨_,g_KEYS⟩:=Z.g2.ex;Qg (QE 2 sc_worth_of.nd (Jn (Qa 0) (Za rfl g_KEYS))) (Qg (QE 3 sc_worth_of.nd (QA (qh Z) hr (by decide) Qx (Qb (Qa 2) (Qb (Qa 1) Qn)))) (Qg (Zk (Q1 (Qcc hr.units) (Qa 3) (QA (Je Z) hr (by decide) Qx (Qb (Qa 2) (Qb (Qa 1) Qn))) (QW _)) (Qq (Qu ZJ)) QL) (Qq (Qu (Jn (Jn (Qa 0) (Za rfl g_PARTS)) (Qa 3))))))
theorem xj:XH P w K mg O8 "Walk" "cut_key" 4 3 XV:=hM Z.u15 yo fun _ _ _ _ _ _ _ hr=>Qg (Zm Z.k2 (Qa 0) (QA (Y0 Z) hr (by decide) Qx (Qb (Qa 2) (Qb (QB Z.k6 (Qa 0)) Qn)))) (Qg (Zk (Q1 ku (QB Z.k2 (Qa 0)) ZJ (QW _)) (Qq (Jx (ZD (XL Z) hr (by decide) Qx (QB Z.k8 (Qa 0)) (Qb (Qa 1) (Qb (QA (GW Z) hr (by decide) Qx (Qb (Qa 2) (Qb (QB Z.k6 (Qa 0)) Qn))) Qn))))) QL) (Qg (Zm Z.k0 (Qa 0) JQ) (Qq (Qu (Zq (Qb Zd (Qb (Qa 1) (Qb (QB Z.k2 (Qa 0)) Qn))))))))
def zo:XH P w K mg O8 "Shelf" "lay" 1 2 Xw:=hM Z.u16 KW fun _ _ _ _ _ _ _ hr=>Qg (xh Z.k5 (Qa 0) Qm) (Qg (Jx (Kk QbX PySem.F.plainAttrs_list PySem.F.slot_list_append PySem.F.type_list_append (QB Z.k1 (Qa 0)) (Qb (Qa 1) Qn))) (Qq (Qu (Qy xQ (J6 zI Z.z0 PySem.boot_len (Qb (QB Z.k1 (Qa 0)) Qn)) Qm))))
def ul:Has P w K mg O8 "parted" 1 2 zZ:=hf Z.u17 sc_parted fun _ _ _ _ _ _ _ hr=>let ⟨_,g_SIDE⟩:=Z.g0.ex;let ⟨_,g_HIGH⟩:=Z.g1.ex;let ⟨_,g_PARTS⟩:=Z.g3.ex;let ⟨_,g_KEYS⟩:=Z.g2.ex;let ⟨_,g_LEVEL⟩:=Z.g4.ex;Qg (QE 2 sc_parted.nd (Jn (Qa 0) (Za rfl g_LEVEL))) (Qg (QE 3 sc_parted.nd (Jn (Qa 0) (Za rfl g_KEYS))) (Qg (QE 4 sc_parted.nd (Jn (Qa 0) (Za rfl g_PARTS))) (Qg (QE 5 sc_parted.nd (Qy QeR (J6 gy Z.z0 PySem.boot_len (Qb (Qa 3) Qn)) Qm)) (Qg (QE 6 sc_parted.nd (Jn (Qa 3) (Qa 5))) (Qg (QE 7 sc_parted.nd (QeI (Q1 (Qcc hr.units) (Qa 2) Qm (QW _)) (Qa 5) (Qy Z6 (Qa 5) Qm))) (Qg (QE 8 sc_parted.nd (Zq (Qb (Qa 2) (Qb (YD (Qa 3) JF (JG (Qa 5))) (Qb (YD (Qa 4) JF (JG (Qa 7))) (Qb (Qa 6) (Qb (Qa 1) Qn))))))) (Qg (QE 9 sc_parted.nd (Zq (Qb (Qa 2) (Qb (YD (Qa 3) (JG (Qa 7)) JF) (Qb (YD (Qa 4) (JG (Qa 7)) JF) (Qb (Jn (Qa 0) (Za rfl g_HIGH)) (Qb (Jn (Qa 0) (Za rfl g_SIDE)) Qn))))))) (Qq (Qu (Zq (Qb (Qa 8) (Qb (Qa 9) (Qb (Qa 6) Qn)))))))))))))
def yV:XH P w K mg O8 "Shelf" "room" 1 1 Jj:=hM Z.u18 Uk fun _ _ _ _ _ _ _ hr=>Qq (Qu (QB Z.k9 (Qa 0)))
def GR:Has P w K mg O8 "is_full" 1 2 XT:=hf Z.u19 uQ fun _ _ _ _ _ _ _ hr=>let ⟨_,g_KEYS⟩:=Z.g2.ex;Qq (Qu (xa QfO (J6 gy Z.z0 PySem.boot_len (Qb (Jn (Qa 0) (Za rfl g_KEYS)) Qn)) (Qa 1) (QW _)))
theorem qg:XH P w K mg O8 "Walk" "settle" 3 3 Xp:=hM Z.u20 sc_Walk_settle fun _ _ _ _ _ _ _ hr=>let ⟨_,g_LEVEL⟩:=Z.g4.ex;Qg (Zk (Xl (JR (QA (GR Z) hr (by decide) Qx (Qb (Qa 2) (Qb (Zx (yV Z) hr (by decide) Qx (QB Z.k8 (Qa 0))) Qn))))) (Qg (Jx (ZD (XL Z) hr (by decide) Qx (QB Z.k8 (Qa 0)) (Qb (Qa 1) (Qb (Qa 2) Qn)))) (Qg (Zm Z.k0 (Qa 0) JQ) (Qq (Qu ZJ)))) QL) (Qg (QE 3 sc_Walk_settle.nd (QA (ul Z) hr (by decide) Qx (Qb (Qa 2) (Qb (Zx (qf Z) hr (by decide) Qx (QB Z.k8 (Qa 0))) Qn)))) (Qg (Zm Z.k10 (Qa 0) (ZD (zo Z) hr (by decide) Qx (QB Z.k8 (Qa 0)) (Qb (QO (QY hr) (Qa 3) Qm) Qn))) (Qg (Jx (ZD (XL Z) hr (by decide) Qx (QB Z.k8 (Qa 0)) (Qb (Qa 1) (Qb (QO (QY hr) (Qa 3) Qm) Qn)))) (Qg (Zm Z.k6 (Qa 0) (QO (QY hr) (Qa 3) Qm)) (Qg (Zm Z.k12 (Qa 0) (Qy Z6 (QO (QY hr) (Qa 2) (Za rfl g_LEVEL)) Qm)) (Qg (Zm Z.k7 (Qa 0) (Kk (QfB (QY hr)) PySem.F.plainAttrs_dict PySem.F.slot_dict_get PySem.F.type_dict_get (QB Z.k11 (Qa 0)) (Qb (QB Z.k12 (Qa 0)) Qn))) (Qq (Qu (QB Z.k10 (Qa 0))))))))))
theorem Ub:Has P w K mg O8 "with_pair" 3 3 qx:=hf Z.u21 K1 fun _ _ _ _ _ _ _ hr=>Qq (Qu (QA (jw Z) hr (by decide) Qx (Qb (Qa 0) (Qb (Qa 1) (Qb (Zq (Qb (Qa 1) Qn)) (Qb (Zq (Qb (Qa 2) Qn)) Qn))))))
theorem jt:XH P w K mg O8 "Walk" "put_pair" 4 3 XG:=hM Z.u22 sc_Walk_put_pair fun _ _ _ _ _ _ _ hr=>Qg (Zm Z.k2 (Qa 0) (QA (Y0 Z) hr (by decide) Qx (Qb (Qa 2) (Qb (QB Z.k6 (Qa 0)) Qn)))) (Qg (QE 3 sc_Walk_put_pair.nd (ZD (qg Z) hr (by decide) Qx (Qa 0) (Qb (Qa 1) (Qb (QA (Ub Z) hr (by decide) Qx (Qb (Qa 2) (Qb (QB Z.k6 (Qa 0)) (Qb (QO (QY hr) (QB Z.k3 (Qa 0)) Qm) Qn)))) Qn)))) (Qq (Qu (Zq (Qb Zd (Qb (Qa 1) (Qb (QB Z.k2 (Qa 0)) (Qb (Qa 3) Qn))))))))
theorem zh:XH P w K mg O8 "Walk" "find_worth" 3 3 J4:=hM Z.u23 zW fun _ _ _ _ _ _ _ hr=>Qg (Zm Z.k2 (Qa 0) (QA (Y0 Z) hr (by decide) Qx (Qb (Qa 2) (Qb (QB Z.k6 (Qa 0)) Qn)))) (Qg (Zm Z.k0 (Qa 0) JQ) (Qq (Qu (Zq (Qb Zd (Qb (Qa 1) (Qb (QB Z.k2 (Qa 0)) Qn)))))))
theorem xk:XH P w K mg O8 "Walk" "do_deed" 5 3 XW:=hM Z.u24 sc_Walk_do_deed fun _ _ _ _ _ _ _ hr=>Qg (QE 3 sc_Walk_do_deed.nd (QO (QY hr) (QB Z.k3 (Qa 0)) Qm)) (Qg (Zk (Q1 (jG hr.units) (Qa 3) Zd (QW _)) (Qq (Qu (ZD (zh Z) hr (by decide) Qx (Qa 0) (Qb (Qa 1) (Qb (Qa 2) Qn))))) QL) (Qg (Zk (Q1 (jG hr.units) (Qa 3) Zd (QW _)) (Qq (Qu (ZD (jt Z) hr (by decide) Qx (Qa 0) (Qb (Qa 1) (Qb (Qa 2) Qn))))) QL) (Qg (Zk (Q1 (jG hr.units) (Qa 3) Zd (QW _)) (Qq (Qu (ZD (xj Z) hr (by decide) Qx (Qa 0) (Qb (Qa 1) (Qb (Qa 2) Qn))))) QL) (Qq (Qu (ZD (zi Z) hr (by decide) Qx (Qa 0) (Qb (Qa 1) (Qb (Qa 2) Qn))))))))
theorem Kv:Has P w K mg O8 "with_kid" 2 3 YV:=hf Z.u25 sc_with_kid fun _ _ _ _ _ _ _ hr=>let ⟨_,g_PARTS⟩:=Z.g3.ex;let ⟨_,g_KEYS⟩:=Z.g2.ex;Qg (QE 3 sc_with_kid.nd (Jn (Qa 0) (Za rfl g_KEYS))) (Qg (QE 4 sc_with_kid.nd (Jn (Qa 0) (Za rfl g_PARTS))) (Qg (QE 5 sc_with_kid.nd (QA (Je Z) hr (by decide) Qx (Qb (Qa 3) (Qb (Qa 1) Qn)))) (Qg (QE 6 sc_with_kid.nd (Qy Z6 (Qa 5) Qm)) (Qq (Qu (QA (jv Z) hr (by decide) Qx (Qb (Qa 0) (Qb (Qy Z6 (Qy Z6 (YD (Qa 3) JF (JG (Qa 5))) (Zq (Qb (Qa 1) Qn))) (YD (Qa 3) (JG (Qa 5)) JF)) (Qb (Qy Z6 (Qy Z6 (YD (Qa 4) JF (JG (Qa 6))) (Zq (Qb (Qa 2) Qn))) (YD (Qa 4) (JG (Qa 6)) JF)) Qn)))))))))
theorem zP:XH P w K mg O8 "Walk" "tell_fork" 4 3 Xi:=hM Z.u26 sc_Walk_tell_fork fun _ _ _ _ _ _ _ hr=>Qg (QE 3 sc_Walk_tell_fork.nd (ZD (qg Z) hr (by decide) Qx (Qa 0) (Qb (Qa 1) (Qb (QA (Kv Z) hr (by decide) Qx (Qb (Qa 2) (Qb (QB Z.k6 (Qa 0)) (Qb (QB Z.k10 (Qa 0)) Qn)))) Qn)))) (Qq (Qu (Zq (Qb Zd (Qb (Qa 1) (Qb (Qa 3) Qn))))))
def qG:XH P w K mg O8 "Walk" "go_on" 1 4 JC:=hM Z.u27 Um fun _ _ _ _ _ _ _ hr=>Qg (Zm Z.k7 (Qa 0) (Qa 3)) (Qq (Qu (Zq (Qb (Qa 1) (Qb (Qa 2) (Qb (Qa 3) Qn))))))
theorem GT:Has P w K mg O8 "kid_for" 2 2 Yz:=hf Z.u28 uR fun _ _ _ _ _ _ _ hr=>let ⟨_,g_PARTS⟩:=Z.g3.ex;let ⟨_,g_KEYS⟩:=Z.g2.ex;Qq (Qu (Jn (Jn (Qa 0) (Za rfl g_PARTS)) (QA (Je Z) hr (by decide) Qx (Qb (Jn (Qa 0) (Za rfl g_KEYS)) (Qb (Qa 1) Qn)))))
def uj:Has P w K mg O8 "beyond" 1 2 Yy:=hf Z.u29 sc_beyond fun _ _ _ _ _ _ _ hr=>let ⟨_,g_HIGH⟩:=Z.g1.ex;Qg (QE 2 sc_beyond.nd (Jn (Qa 0) (Za rfl g_HIGH))) (Qq (Qu (Qfb (xa ku (Qa 2) ZJ (QW _)) (Qfc (xa Qg9 (Qa 1) (Qa 2) (QW _))))))
theorem qF:XH P w K mg O8 "Shelf" "raise_root" 2 3 ZS:=hM Z.u30 sc_Shelf_raise_root fun _ _ _ _ _ _ _ hr=>let ⟨_,g_LEVEL⟩:=Z.g4.ex;Qg (Jx (ZD (Jl Z) hr (by decide) Qx (Qa 0) (Qb (Qa 2) Qn))) (Qg (QE 3 sc_Shelf_raise_root.nd (Qy Z6 (QO (QY hr) (QO (QY hr) (QB Z.k1 (Qa 0)) (QB Z.k13 (Qa 0))) (Za rfl g_LEVEL)) Qm)) (Qg (Zm Z.k13 (Qa 0) (ZD (zo Z) hr (by decide) Qx (Qa 0) (Qb (Zq (Qb (Qa 3) (Qb (Zq (Qb (Qa 1) Qn)) (Qb (Zq (Qb (QB Z.k13 (Qa 0)) (Qb (Qa 2) Qn))) (Qb ZJ (Qb ZJ Qn)))))) Qn))) (Qq (Qu (QB Z.k13 (Qa 0))))))
theorem Yv:XH P w K mg O8 "Walk" "raise_root_over" 3 2 ZK:=hM Z.u31 YL fun _ _ _ _ _ _ _ hr=>Qg (Zm Z.k0 (Qa 0) JQ) (Qq (Qu (Zq (Qb Zd (Qb (Qa 1) (Qb (ZD (qF Z) hr (by decide) Qx (QB Z.k8 (Qa 0)) (Qb (QB Z.k6 (Qa 0)) (Qb (QB Z.k10 (Qa 0)) Qn))) Qn))))))
theorem yU:XH P w K mg O8 "Shelf" "read" 2 2 JA:=hM Z.u32 Uj fun _ _ _ _ _ _ _ hr=>Qg (Jx (ZD (Jl Z) hr (by decide) Qx (Qa 0) (Qb (Qa 1) Qn))) (Qg (xh Z.k14 (Qa 0) Qm) (Qq (Qu (QO (QY hr) (QB Z.k1 (Qa 0)) (Qa 1)))))
def yW:XH P w K mg O8 "Shelf" "root" 1 1 JB:=hM Z.u33 Ul fun _ _ _ _ _ _ _ hr=>Qq (Qu (QB Z.k13 (Qa 0)))
theorem zp:XH P w K mg O8 "Walk" "step" 6 1 Xx:=hM Z.u34 sc_Walk_step fun _ _ _ _ _ _ _ hr=>let ⟨_,g_LEVEL⟩:=Z.g4.ex;let ⟨_,g_SIDE⟩:=Z.g0.ex;Qg (Zk (JR (QB Z.k0 (Qa 0))) (Qq (Qu ZJ)) QL) (Qg (QE 1 sc_Walk_step.nd (QeI (Q1 KQ (QB Z.k7 (Qa 0)) ZJ (QW _)) (Zx (yW Z) hr (by decide) Qx (QB Z.k8 (Qa 0))) (QB Z.k7 (Qa 0)))) (Qg (QE 2 sc_Walk_step.nd (ZD (yU Z) hr (by decide) Qx (QB Z.k8 (Qa 0)) (Qb (Qa 1) Qn))) (Qg (Zk (DW.pt (ua (Q1 KQ (QB Z.k7 (Qa 0)) ZJ (QW _)) (Kr (Q1 Vm (QO (QY hr) (Qa 2) (Za rfl g_LEVEL)) (QB Z.k12 (Qa 0)) (QW _))))) (Qq (Qu (ZD (Yv Z) hr (by decide) Qx (Qa 0) (Qb (Qa 1) Qn)))) QL) (Qg (Zk (JR (QA (uj Z) hr (by decide) Qx (Qb (Qa 2) (Qb (QB Z.k6 (Qa 0)) Qn)))) (Qq (Qu (ZD (qG Z) hr (by decide) Qx (Qa 0) (Qb Zd (Qb (Qa 1) (Qb (QO (QY hr) (Qa 2) (Za rfl g_SIDE)) Qn)))))) QL) (Qg (Zk (Q1 QfO (QO (QY hr) (Qa 2) (Za rfl g_LEVEL)) (QB Z.k12 (Qa 0)) (QW _)) (Qg (xg (Qa 1) (xc (QY hr) (QB Z.k11 (Qa 0)) (QO (QY hr) (Qa 2) (Za rfl g_LEVEL)))) (Qq (Qu (ZD (qG Z) hr (by decide) Qx (Qa 0) (Qb Zd (Qb (Qa 1) (Qb (QA (GT Z) hr (by decide) Qx (Qb (Qa 2) (Qb (QB Z.k6 (Qa 0)) Qn))) Qn))))))) QL) (Qg (Zk (Q1 QfO (QB Z.k12 (Qa 0)) Qm (QW _)) (Qq (Qu (ZD (zP Z) hr (by decide) Qx (Qa 0) (Qb (Qa 1) (Qb (Qa 2) Qn))))) QL) (Qq (Qu (ZD (xk Z) hr (by decide) Qx (Qa 0) (Qb (Qa 1) (Qb (Qa 2) Qn)))))))))))
theorem qi:Has P w K mg O8 "_law_stepped" 7 4 Jt:=hf Z.u35 sc_law_stepped fun _ _ _ _ _ _ _ hr=>Qg (QE 4 sc_law_stepped.nd (Zx (X3 Z) hr (by decide) Qx (Qa 0))) (Qg (QE 5 sc_law_stepped.nd (Zx (zp Z) hr (by decide) Qx (Qa 1))) (Qg (Zk (DW.pt (qe (Xl (JR (yJ Z.z2 Z.z5 boot_tuple (by decide) (Qa 5)))) (XZ (Q1 (Vn hr.units) (Zx (X3 Z) hr (by decide) Qx (Qa 0)) (Qa 4) (QW _))))) (Qq (Qu JQ)) QL) (Qg (Zk (Q1 (jG hr.units) (QO (QY hr) (Qa 5) Qm) Zd (QW _)) (Qg (Zk (DW.pt (qe (Q1 (Vn hr.units) (J6 zI Z.z0 PySem.boot_len (Qb (Qa 5) Qn)) Qm (QW _)) (XZ (Xl (JR (QA (Ku Z) hr (by decide) Qx (Qb (Qa 5) (Qb (Qa 2) (Qb (Qa 3) Qn))))))))) (Qq (Qu JQ)) QL) (Qq (Zk (Q1 (Vn hr.units) (Zx (Jb Z) hr (by decide) Qx (Qa 1)) (xa KQ (QO (QY hr) (Qa 5) Qm) ZJ (QW _)) (QW _)) (Qq (Qu JQ)) QL))) (Qq (Zk (DW.pt (qe (Q1 (QfP (QY hr)) (QO (QY hr) (Qa 5) Qm) (Zq (Qb Zd (Qb Zd Qn))) (by with_unfolding_all rfl)) (XZ (JR (Zx (Jb Z) hr (by decide) Qx (Qa 1)))))) (Qq (Qu JQ)) QL))) (Qg (Zk (JR (Zx (Jb Z) hr (by decide) Qx (Qa 1))) (Qg (QE 6 sc_law_stepped.nd (Zx (XM Z) hr (by decide) Qx (Qa 1))) (Qg (Zk (DW.pt (qe (Xl (JR (Qdj Z.z2 Z.z1 boot_list (by decide) (Qa 6)))) (XZ (Q1 (Vn hr.units) (Qa 6) (QO (QY hr) (Qa 2) Zd) (QW _))))) (Qq (Qu JQ)) QL) (Qg (Jx (Qdk QdI PySem.F.plainAttrs_list PySem.F.slot_list_clear PySem.F.type_list_clear (Qa 6))) (Qq (Qu (xa (jG hr.units) (Zx (XM Z) hr (by decide) Qx (Qa 1)) (QO (QY hr) (Qa 2) Zd) (QW _))))))) QL) (Qq (Qu (xa KQ (Zx (XM Z) hr (by decide) Qx (Qa 1)) ZJ (QW _))))))))
theorem V9:Has P w K mg O8 "_law_plain" 1 2 qv:=hf Z.u36 KZ fun _ _ _ _ _ _ _ hr=>Qg (Zk (Q1 (jG hr.units) (QO (QY hr) (Qa 0) Qm) Zd (QW _)) (Qq (xg (QO (QY hr) (Qa 0) Qm) (xc (QY hr) (Qa 1) (QO (QY hr) (Qa 0) Qm)))) QL) (Qq (Zk (DW.pt (ua (Q1 (jG hr.units) (QO (QY hr) (Qa 0) Qm) Zd (QW _)) (Kr (Q1 (Qha (QY hr)) (QO (QY hr) (Qa 0) Qm) (Qa 1) (by with_unfolding_all rfl))))) (Qq (Jx (Kk QfC PySem.F.plainAttrs_dict PySem.F.slot_dict_pop PySem.F.type_dict_pop (Qa 1) (Qb (QO (QY hr) (Qa 0) Qm) Qn)))) QL))
def Yg:Qba P w K mg O8 "Walk" 1 3 Zv:=hI Z.u37 xD fun _ _ _ _ _ _ _ hr=>Qg (Zm Z.k8 (Qa 0) (Qa 1)) (Qg (Zm Z.k3 (Qa 0) (Qa 2)) (Qg (Zm Z.k6 (Qa 0) (QO (QY hr) (Qa 2) Qm)) (Qg (Zm Z.k12 (Qa 0) Qm) (Qg (Zm Z.k7 (Qa 0) ZJ) (Qg (Zm Z.k11 (Qa 0) yL) (Qg (Zm Z.k10 (Qa 0) ZJ) (Qg (Zm Z.k2 (Qa 0) ZJ) (Qg (Zm Z.k4 (Qa 0) (gB Qn)) (Qq (Zm Z.k0 (Qa 0) JQ))))))))))
theorem ju:Has P w K mg O8 "_law_done" 7 2 Xj:=hf Z.u38 sc_law_done fun _ _ _ _ _ _ _ hr=>Qg (QE 2 sc_law_done.nd (Kj (Yg Z) hr (by decide) Qx (Qb (Qa 0) (Qb (Qa 1) Qn)))) (Qg (Kq PassesOwn.never rfl (xf rfl Z.z8 (Qb Qm Qn)) (jl 3 sc_law_done.nd) (Qg (Zk (JR (Zx (Jb Z) hr (by decide) Qx (Qa 2))) (Qq (Qu (Qa 2))) QL) (Qq (Jx (Zx (zp Z) hr (by decide) Qx (Qa 2)))))) (Qq (Qu (Qa 2))))
def QU:Has P w K mg O8 "_law_pick" 1 3 Qw:=hf Z.u39 sc_law_pick fun _ _ _ _ _ _ _ hr=>Qg (QE 3 sc_law_pick.nd (Qy xP (Qy Z6 (Qa 0) (Qy QeR (Qa 1) Qm)) (Qa 1))) (Qq (Qu (Qy xP (Qy xP (Qy jH (Qy xP (Qy jH (Qa 3) (Qa 3)) (Qa 1)) (Qa 3)) (Qa 1)) (Qa 2))))
theorem Ua:Has P w K mg O8 "_law_worth" 2 1 qw:=hf Z.u40 K0 fun _ _ _ _ _ _ _ hr=>Qg (Zk (Q1 (Qcc hr.units) (QA (QU Z) hr (by decide) Qx (Qb (Qa 0) (Qb Qm (Qb Qm Qn)))) Qm (QW _)) (Qq (Qu (Qy xQ (Qy xP (Qy Z6 (Qy jH (Qy xP (Qa 0) (Qy qO Qm Qm)) Qm) Qm) (Qy Z6 (Qy jH Qm (Qy qO Qm Qm)) Qm)) (Qy qO Qm Qm)))) QL) (Qq (Qu (Qy xQ (QA (QU Z) hr (by decide) Qx (Qb (Qa 0) (Qb Qm (Qb Qm Qn)))) Qm)))
theorem GU:Has P w K mg O8 "_law_key" 2 1 YA:=hf Z.u41 sc_law_key fun _ _ _ _ _ _ _ hr=>Qg (QE 1 sc_law_key.nd (QA (QU Z) hr (by decide) Qx (Qb (Qa 0) (Qb Qm (Qb Qm Qn))))) (Qg (Zk (Q1 (Qcc hr.units) (Qa 1) Qm (QW _)) (Qq (Qu (Qy xQ (Qy xP (Qy Z6 (Qy jH (Qy xP (Qa 0) (Qy qO Qm Qm)) Qm) Qm) (Qy Z6 (Qy jH Qm (Qy qO Qm Qm)) Qm)) (Qy qO Qm Qm)))) QL) (Qq (Qu (Qy xQ (QA (QU Z) hr (by decide) Qx (Qb (Qa 0) (Qb Qm (Qb (Jn (yK (Qb Qm (Qb Qm (Qb Qm (Qb Qm (Qb Qm Qn)))))) (Qa 1)) Qn)))) Qm))))
theorem Kt:Has P w K mg O8 "_law_deed" 3 1 zF:=hf Z.u42 sc_law_deed fun _ _ _ _ _ _ _ hr=>Qg (QE 1 sc_law_deed.nd (QA (QU Z) hr (by decide) Qx (Qb (Qa 0) (Qb Qm (Qb Qm Qn))))) (Qg (QE 2 sc_law_deed.nd (QA (GU Z) hr (by decide) Qx (Qb (Qa 0) Qn))) (Qg (Zk (Q1 Vm (Qa 1) Qm (QW _)) (Qq (Qu (Zq (Qb Zd (Qb (Qa 2) (Qb (QA (Ua Z) hr (by decide) Qx (Qb (Qa 0) Qn)) Qn)))))) QL) (Qg (Zk (Q1 Vm (Qa 1) Qm (QW _)) (Qq (Qu (Zq (Qb Zd (Qb (Qa 2) Qn))))) QL) (Qg (Zk (Q1 Vm (Qa 1) Qm (QW _)) (Qq (Qu (Zq (Qb Zd (Qb (Qa 2) Qn))))) QL) (Qg (QE 3 sc_law_deed.nd (J6 (Qbn rfl) Z.z9 boot_min (Qb (Qa 2) (Qb (Qy xQ (Qy qO Qm Qm) Qm) Qn)))) (Qg (QE 4 sc_law_deed.nd (J6 (Qbn rfl) Z.z9 boot_min (Qb (Qy qO Qm Qm) (Qb (Qy Z6 (Qy Z6 (Qa 3) Qm) (QA (QU Z) hr (by decide) Qx (Qb (Qa 0) (Qb Qm (Qb Qm Qn))))) Qn)))) (Qg (QE 5 sc_law_deed.nd (J6 (Qbn rfl) Z.z9 boot_min (Qb (Qy qO Qm Qm) (Qb (Qy Z6 (Qy Z6 (Qa 3) Qm) (QA (QU Z) hr (by decide) Qx (Qb (Qa 0) (Qb Qm (Qb Qm Qn))))) Qn)))) (Qq (Qu (Zq (Qb Zd (Qb (Qa 3) (Qb (Jn (yK (Qb (Qy Z6 (Qa 3) Qm) (Qb (Qa 4) (Qb (Qa 5) (Qb (Qy qO Qm Qm) Qn))))) (QA (QU Z) hr (by decide) Qx (Qb (Qa 0) (Qb Qm (Qb Qm Qn))))) Qn)))))))))))))
theorem GV:Has P w K mg O8 "_law_new" 2 1 Xk:=hf Z.u43 sc_law_new fun _ _ _ _ _ _ _ hr=>Qg (QE 1 sc_law_new.nd (Qy xQ (QA (QU Z) hr (by decide) Qx (Qb (Qa 0) (Qb Qm (Qb Qm Qn)))) Qm)) (Qg (QE 2 sc_law_new.nd (Qy Z6 (Qy Z6 (Qa 1) Qm) (Jn (yK (Qb (QA (QU Z) hr (by decide) Qx (Qb (Qa 0) (Qb Qm (Qb Qm Qn)))) (Qb (Qy Z6 Qm (QA (QU Z) hr (by decide) Qx (Qb (Qa 0) (Qb Qm (Qb Qm Qn))))) Qn))) (QA (QU Z) hr (by decide) Qx (Qb (Qa 0) (Qb Qm (Qb Qm Qn))))))) (Qg (Zk (Q1 (Qcc hr.units) (QA (QU Z) hr (by decide) Qx (Qb (Qa 0) (Qb Qm (Qb Qm Qn)))) Qm (QW _)) (Qq (QE 2 sc_law_new.nd (Qy qO Qm Qm))) QL) (Qq (Qu (Zq (Qb Zd (Qb (Qa 1) (Qb (Qa 2) Qn))))))))
def ym:Has P w K mg O8 "_law_cell_at" 1 2 JM:=hf Z.u44 VE fun _ _ _ _ _ _ _ hr=>Qg (Zk (Q1 Vm (Qa 1) (J6 gy Z.z0 PySem.boot_len (Qb (Qa 0) Qn)) (QW _)) (Qq (Qu (Jn (Qa 0) (Qa 1)))) QL) (Qq (Qu Qm))
def zO:Qba P w K mg O8 "Shelf" 1 2 ZR:=hI Z.u45 jO fun _ _ _ _ _ _ _ hr=>let ⟨_,g_EMPTY_LEAF,q_EMPTY_LEAF⟩:=Z.t0.ex;Qg (Zm Z.k9 (Qa 0) (Qa 1)) (Qg (Zm Z.k1 (Qa 0) (gB (Qb (Qdi rfl g_EMPTY_LEAF q_EMPTY_LEAF) Qn))) (Qg (Zm Z.k13 (Qa 0) Qm) (Qg (Zm Z.k14 (Qa 0) Qm) (Qq (Zm Z.k5 (Qa 0) Qm)))))
theorem V7:Has P w K mg O8 "_law_begun" 8 2 qu:=hf Z.u46 sc_law_begun fun _ _ _ _ _ _ _ hr=>Qg (QE 2 sc_law_begun.nd (Kj (zO Z) hr (by decide) Qx (Qb (Qy Z6 Qm (Qy jH (QA (QU Z) hr (by decide) Qx (Qb (Qa 0) (Qb Qm (Qb Qm Qn)))) (QA (QU Z) hr (by decide) Qx (Qb (Qa 0) (Qb Qm (Qb Qm Qn)))))) Qn))) (Qg (QE 3 sc_law_begun.nd (QA (QU Z) hr (by decide) Qx (Qb (Qa 0) (Qb Qm (Qb Qm Qn))))) (Qg (Zk (Q1 (jG hr.units) (QA (QU Z) hr (by decide) Qx (Qb (Qa 0) (Qb Qm (Qb Qm Qn)))) Qm (QW _)) (Qq (QE 3 sc_law_begun.nd Qm)) QL) (Qg (Kq PassesOwn.never rfl (xf rfl Z.z8 (Qb (Qa 3) Qn)) (jl 4 sc_law_begun.nd) (Qg (QE 5 sc_law_begun.nd (Qy xQ (QA (QU Z) hr (by decide) Qx (Qb (Qy Z6 (Qa 0) (Qy jH Qm (Qa 4))) (Qb Qm (Qb Qm Qn)))) Qm)) (Qg (Jx (QA (ju Z) hr (by decide) Qx (Qb (Qa 2) (Qb (Zq (Qb Zd (Qb (Qa 5) (Qb (Qa 4) Qn)))) Qn)))) (Qq (xg (Qa 4) (xc (QY hr) (Qa 1) (Qa 5))))))) (Qq (Qu (Qa 2))))))
theorem law_fn {g:Addr} {fd:FuncData} (F:Fun K "law" "law" xV g fd):qy P w K mg O8 CX0 9 g fd ["script"] (spD K 1 Gg):=QgM F sc_law fun _ _ _ _ _ _ hr=>Qg (QE 1 sc_law.nd yL) (Qg (QE 2 sc_law.nd (QA (V7 Z) hr (by decide) Qx (Qb (QA (ym Z) hr (by decide) Qx (Qb (Qa 0) (Qb Qm Qn))) (Qb (Qa 1) Qn)))) (Qg (QE 3 sc_law.nd ZJ) (Qg (QE 4 sc_law.nd yL) (Qg (Qdp PassesOwn.never rfl (gJ (YD (Qa 0) JF (JG Qm))) (jl 5 sc_law.nd) (Qg (Zk (DW.pt (qe (Q1 KQ (Qa 3) ZJ (QW _)) (XZ (JR (Zx (Jb Z) hr (by decide) Qx (Qa 3)))))) (Qg (QE 8 sc_law.nd (QA (GV Z) hr (by decide) Qx (Qb (Qa 5) Qn))) (Qg (QE 3 sc_law.nd (Kj (Yg Z) hr (by decide) Qx (Qb (Qa 2) (Qb (Qa 8) Qn)))) (Qq (QE 4 sc_law.nd (Qdl (Kn Zd (QO (QY hr) (Qa 8) Qm) (Kn Zd (QO (QY hr) (Qa 8) Qm) (Kn Zd (yK Qn) Qff)))))))) QL) (Qg (QE 7 sc_law.nd (QA (Kt Z) hr (by decide) Qx (Qb (Qa 5) Qn))) (Qg (Jx (QA (ju Z) hr (by decide) Qx (Qb (Qa 2) (Qb (Qa 7) Qn)))) (Qg (Jx (QA (V9 Z) hr (by decide) Qx (Qb (Qa 7) (Qb (Qa 1) Qn)))) (Qq (Zk (Xl (JR (QA (qi Z) hr (by decide) Qx (Qb (Qa 2) (Qb (Qa 3) (Qb (Qa 4) (Qb (Qa 1) Qn))))))) (Qq (Qu JQ)) QL))))))) (Qg (Kq PassesOwn.never rfl (xf rfl Z.z8 (Qb (Qy Z6 (Qy jH Qm (Zx (qf Z) hr (by decide) Qx (Qa 2))) Qm) Qn)) (jl 6 sc_law.nd) (Qg (Zk (DW.pt (qe (Q1 KQ (Qa 3) ZJ (QW _)) (XZ (JR (Zx (Jb Z) hr (by decide) Qx (Qa 3)))))) (Qq (Qu JQ)) QL) (Qq (Zk (Xl (JR (QA (qi Z) hr (by decide) Qx (Qb (Qa 2) (Qb (Qa 3) (Qb (Qa 4) (Qb (Qa 1) Qn))))))) (Qq (Qu JQ)) QL)))) (Qq (Qu (Zx (Jb Z) hr (by decide) Qx (Qa 3)))))))))
end
def shF (r:Int) (k:Nat) (t a b:Int):List (Str×DV):=[("page_room", .int r),("kept", .ref k),("top", .int t),("read_count", .int a),("write_count", .int b)]
theorem QcM (r:Int) (k:Nat) (t a b:Int):List.lookup ("page_room" : Str) (shF r k t a b)=some (DV.int r):=by rfl
theorem YM (r:Int) (k:Nat) (t a b:Int):List.lookup ("kept" : Str) (shF r k t a b)=some (DV.ref k):=by rfl
theorem kN (r:Int) (k:Nat) (t a b:Int):List.lookup ("top" : Str) (shF r k t a b)=some (DV.int t):=by rfl
theorem QcN (r:Int) (k:Nat) (t a b:Int):List.lookup ("write_count" : Str) (shF r k t a b)=some (DV.int b):=by rfl
theorem Qhs (r:Int) (k:Nat) (t a b:Int):List.lookup ("read_count" : Str) (shF r k t a b)=some (DV.int a):=by rfl
theorem vr (r:Int) (k:Nat) (t a b c:Int):J9 ("write_count" : Str) (.int c) (shF r k t a b)=shF r k t a c:=by rfl
theorem QcK (r:Int) (k:Nat) (t a b c:Int):J9 ("read_count" : Str) (.int c) (shF r k t a b)=shF r k t c b:=by rfl
theorem QcL (r:Int) (k:Nat) (t a b c:Int):J9 ("top" : Str) (.int c) (shF r k t a b)=shF r k c a b:=by rfl
def yy (r:Int) (k:Nat) (t a b:Int):(shF r k t a b).length=5:=rfl
theorem xF (r:Int) (k:Nat) (t a b:Int):List.lookup ("check_number" : Str) (shF r k t a b)=none:=by rfl
theorem U1 (r:Int) (k:Nat) (t a b:Int):List.lookup ("lay" : Str) (shF r k t a b)=none:=by rfl
theorem uW (r:Int) (k:Nat) (t a b:Int):List.lookup ("read" : Str) (shF r k t a b)=none:=by rfl
theorem qR (r:Int) (k:Nat) (t a b:Int):List.lookup ("write" : Str) (shF r k t a b)=none:=by rfl
theorem uX (r:Int) (k:Nat) (t a b:Int):List.lookup ("root" : Str) (shF r k t a b)=none:=by rfl
theorem vo (r:Int) (k:Nat) (t a b:Int):List.lookup ("raise_root" : Str) (shF r k t a b)=none:=by rfl
theorem QcJ (r:Int) (k:Nat) (t a b:Int):List.lookup ("room" : Str) (shF r k t a b)=none:=by rfl
theorem x8 (r:Int) (k:Nat) (t a b:Int):List.lookup ("pages" : Str) (shF r k t a b)=none:=by rfl
theorem vq (r:Int) (k:Nat) (t a b:Int):List.lookup ("writings" : Str) (shF r k t a b)=none:=by rfl
section
variable {r t a b:Int} {n k:Nat} {ps:List DV} {U:Hs}
theorem G8 (h1:U[n]?=some (.ins "Shelf" (shF r k t a b))) (h2:U[k]?=some (.lst ps)):Jq [.ref n] U=some (.int ps.length,U):=by
 simp [Jq,zk,Q7,Qr,QJ,QG,X7,sIf,Zc,zV,zf,zT,zU,Qj,Qc,eC,eB,asB,Xm,eOr,Jo,XB,zL,X1,eIf,zJ,Qo,Qd,Zz,XC,Qt,ZT,Qz,gN,ZE,ZW,ZY,Zw,ZZ,Z5,ZV,J3,X6,zR,ZH,Jm,Z7,Zf,Yk,Ui,Xe,gSb,xA,Xn,XD,QF,js,jQ,onI,onL,onD,JI,Xr,Yi,X4,ixG,Yb,qp,Y2,J8,YE,asI,zG,Up,QD,JS,Yd,JY,X0,evP,ZF,Xu,run_pure,JU,Ju,Xt,run_set,Xv,Zb,QZ,Z9,h1,h2,YM]
theorem Qej (h1:U[n]?=some (.ins "Shelf" (shF r k t a b))):JB [.ref n] U=some (.int t,U):=by
 simp [JB,jf,Q7,Qr,QJ,QG,X7,sIf,Zc,zV,zf,zT,zU,Qj,Qc,eC,eB,asB,Xm,eOr,Jo,XB,zL,X1,eIf,zJ,Qo,Qd,Zz,XC,Qt,ZT,Qz,gN,ZE,ZW,ZY,Zw,ZZ,Z5,ZV,J3,X6,zR,ZH,Jm,Z7,Zf,Yk,Ui,Xe,gSb,xA,Xn,XD,QF,js,jQ,onI,onL,onD,JI,Xr,Yi,X4,ixG,Yb,qp,Y2,J8,YE,asI,zG,Up,QD,JS,Yd,JY,X0,evP,ZF,Xu,run_pure,JU,Ju,Xt,run_set,Xv,Zb,QZ,Z9,h1,kN]
theorem Qei (h1:U[n]?=some (.ins "Shelf" (shF r k t a b))):Jj [.ref n] U=some (.int r,U):=by
 simp [Jj,je,Q7,Qr,QJ,QG,X7,sIf,Zc,zV,zf,zT,zU,Qj,Qc,eC,eB,asB,Xm,eOr,Jo,XB,zL,X1,eIf,zJ,Qo,Qd,Zz,XC,Qt,ZT,Qz,gN,ZE,ZW,ZY,Zw,ZZ,Z5,ZV,J3,X6,zR,ZH,Jm,Z7,Zf,Yk,Ui,Xe,gSb,xA,Xn,XD,QF,js,jQ,onI,onL,onD,JI,Xr,Yi,X4,ixG,Yb,qp,Y2,J8,YE,asI,zG,Up,QD,JS,Yd,JY,X0,evP,ZF,Xu,run_pure,JU,Ju,Xt,run_set,Xv,Zb,QZ,Z9,h1,QcM]
theorem yc (h1:U[n]?=some (.ins "Shelf" (shF r k t a b))):ZB [.ref n] U=some (.int b,U):=by
 simp [ZB,YC,Q7,Qr,QJ,QG,X7,sIf,Zc,zV,zf,zT,zU,Qj,Qc,eC,eB,asB,Xm,eOr,Jo,XB,zL,X1,eIf,zJ,Qo,Qd,Zz,XC,Qt,ZT,Qz,gN,ZE,ZW,ZY,Zw,ZZ,Z5,ZV,J3,X6,zR,ZH,Jm,Z7,Zf,Yk,Ui,Xe,gSb,xA,Xn,XD,QF,js,jQ,onI,onL,onD,JI,Xr,Yi,X4,ixG,Yb,qp,Y2,J8,YE,asI,zG,Up,QD,JS,Yd,JY,X0,evP,ZF,Xu,run_pure,JU,Ju,Xt,run_set,Xv,Zb,QZ,Z9,h1,QcN]
theorem yF {i:Int} (h1:U[n]?=some (.ins "Shelf" (shF r k t a b))) (h2:U[k]?=some (.lst ps)) (i0:0<=i) (i1:i < ps.length):
  Zn [.ref n,.int i] U=some (.non,U):=by
 have q0:¬ i < 0:=by lia
 have q1:¬ (ps.length:Int)<=i:=by lia
 simp [Zn,Xy,Q7,Qr,QJ,QG,X7,sIf,Zc,zV,zf,zT,zU,Qj,Qc,eC,eB,asB,Xm,eOr,Jo,XB,zL,X1,eIf,zJ,Qo,Qd,Zz,XC,Qt,ZT,Qz,gN,ZE,ZW,ZY,Zw,ZZ,Z5,ZV,J3,X6,zR,ZH,Jm,Z7,Zf,Yk,Ui,Xe,gSb,xA,Xn,XD,QF,js,jQ,onI,onL,onD,JI,Xr,Yi,X4,ixG,Yb,qp,Y2,J8,YE,asI,zG,Up,QD,JS,Yd,JY,X0,evP,ZF,Xu,run_pure,JU,Ju,Xt,run_set,Xv,Zb,QZ,Z9,JK,h1,h2,YM,i0,i1,q0,q1]
theorem Qeg {i:Nat} (h1:U[n]?=some (.ins "Shelf" (shF r k t a b))) (h2:U[k]?=some (.lst ps)) (hnk:n≠k) (hd:ps[i]?=some d):
  JA [.ref n,.int i] U=some (d,U.set n (.ins "Shelf" (shF r k t (a+1) b))):=by
 have i1:i < ps.length:=(Ac.mp hd).1
 have c:=yF (i:=(i:Int)) h1 h2 (by lia) (by lia)
 have hd':=jc hd
 simp [JA,jd,Q7,Qr,QJ,QG,X7,sIf,Zc,zV,zf,zT,zU,Qj,Qc,eC,eB,asB,Xm,eOr,Jo,XB,zL,X1,eIf,zJ,Qo,Qd,Zz,XC,Qt,ZT,Qz,gN,ZE,ZW,ZY,Zw,ZZ,Z5,ZV,J3,X6,zR,ZH,Jm,Z7,Zf,Yk,Ui,Xe,gSb,xA,Xn,XD,QF,js,jQ,onI,onL,onD,JI,Xr,Yi,X4,ixG,Yb,qp,Y2,J8,YE,asI,zG,Up,QD,JS,Yd,JY,X0,evP,ZF,Xu,run_pure,JU,Ju,Xt,run_set,Xv,Zb,QZ,Z9,h1,h2,c,YM,Qhs,QcK,yy,xF,hd',hnk,hnk.symm]
theorem VY {i:Nat} {d:DV} (h1:U[n]?=some (.ins "Shelf" (shF r k t a b))) (h2:U[k]?=some (.lst ps)) (hnk:n≠k) (i1:i < ps.length):
  Jr [.ref n,.int i,d] U=some (.non,(U.set n (.ins "Shelf" (shF r k t a (b+1)))).set k (.lst (ps.set i d))):=by
 have c:=yF (i:=(i:Int)) h1 h2 (by lia) (by lia)
 simp [Jr,zm,Q7,Qr,QJ,QG,X7,sIf,Zc,zV,zf,zT,zU,Qj,Qc,eC,eB,asB,Xm,eOr,Jo,XB,zL,X1,eIf,zJ,Qo,Qd,Zz,XC,Qt,ZT,Qz,gN,ZE,ZW,ZY,Zw,ZZ,Z5,ZV,J3,X6,zR,ZH,Jm,Z7,Zf,Yk,Ui,Xe,gSb,xA,Xn,XD,QF,js,jQ,onI,onL,onD,JI,Xr,Yi,X4,ixG,Yb,qp,Y2,J8,YE,asI,zG,Up,QD,JS,Yd,JY,X0,evP,ZF,Xu,run_pure,JU,Ju,Xt,run_set,Xv,Zb,QZ,Z9,h1,h2,c,YM,QcN,vr,yy,xF,hnk,hnk.symm,QdF i1]
theorem QbS {pg:DV} (h1:U[n]?=some (.ins "Shelf" (shF r k t a b))) (h2:U[k]?=some (.lst ps)) (hnk:n≠k) (hl:ps.length < 99999):
  Xw [.ref n,pg] U=some (.int ps.length,(U.set n (.ins "Shelf" (shF r k t a (b+1)))).set k (.lst (ps++[pg]))):=by
 have hlim:ps.length < lim:=by unfold lim;lia
 simp [Xw,xJ,Q7,Qr,QJ,QG,X7,sIf,Zc,zV,zf,zT,zU,Qj,Qc,eC,eB,asB,Xm,eOr,Jo,XB,zL,X1,eIf,zJ,Qo,Qd,Zz,XC,Qt,ZT,Qz,gN,ZE,ZW,ZY,Zw,ZZ,Z5,ZV,J3,X6,zR,ZH,Jm,Z7,Zf,Yk,Ui,Xe,gSb,xA,Xn,XD,QF,js,jQ,onI,onL,onD,JI,Xr,Yi,X4,ixG,Yb,qp,Y2,J8,YE,asI,zG,Up,QD,JS,Yd,JY,X0,evP,ZF,Xu,run_pure,JU,Ju,Xt,run_set,Xv,Zb,QZ,Z9,h1,h2,YM,QcN,vr,yy,hlim,hnk,hnk.symm]
end
def Zl (l:Int) (ks ps:List Int) (hi sd:Option Int):DV:=.tup [.int l,.tup (ks.map .int),.tup (ps.map .int),opt hi,opt sd]
def hiB (hi:Option Int) (k:Int):Bool:=match hi with
 | none=>false
 | some h=>decide (h<=k)
def cLe (ks:List Int) (k:Int):Nat:=(ks.filter fun x=>decide (x<=k)).length
def cLt (ks:List Int) (k:Int):Nat:=(ks.filter fun x=>decide (x < k)).length
def Jz (ks:List Int) (k:Int):cLe ks k<=ks.length:=Cb _ _
def j7 (ks:List Int) (k:Int):cLt ks k<=ks.length:=Cb _ _
theorem ga {f:DEx} (hf:f env U=some (.tup ds,U)):iTp f env U=some (ds,U):=by
 unfold iTp;rw [Qh hf];rfl
theorem Qbq {t:DTx} {p:Int->Bool} (ks:List Int) (k:Int) (hl:ks.length<=100) (ht:∀ x U,t [.val (.int x),.val (.int k)] U=some (p x,U)) (U:Hs):ZT Yb (Qd (J7 false (xOf (iTp (Qc 0))) [1] t (Qc 0)) Qo) [.val (.tup (ks.map .int)),.val (.int k)] U=some (.int (ks.filter p).length,U):=by
 have q:J7 false (xOf (iTp (Qc 0))) [1] t (Qc 0) [.val (.tup (ks.map .int)),.val (.int k)] U=some (.lst (((ks.filter p).map fun x=>x).map .int),U):=by
  unfold J7
  rw [Qh (Qgx (ga (ds:=ks.map .int) (Qf rfl)))]
  exact (Qh (vY (p:=p) (g:=fun x=>x) ks (fun i hi=>qN (ks.map .int) i (by rw [Br];exact hi) U) (fun x=>ht x U) (fun x=>rfl) (by lia))).trans rfl
 rw [qA (JN q) (QbU ..),Br,Br]
def Kg (ks:List Int) (k:Int) (hl:ks.length<=100):Zp [.tup (ks.map .int),.int k]=pure (.int (cLe ks k)):=gx fun U=>QI (env:=[.val (.tup (ks.map .int)),.val (.int k)]) (QM (Qbq ks k hl (fun _ _=>rfl) U))
def QeG (ks:List Int) (k:Int) (hl:ks.length<=100):Xq [.tup (ks.map .int),.int k]=pure (.int (cLt ks k)):=gx fun U=>QI (env:=[.val (.tup (ks.map .int)),.val (.int k)]) (QM (Qbq ks k hl (fun _ _=>rfl) U))
theorem Qae (l:Int) (ks ps:List Int) (hi sd:Option Int) (k:Int):Yy [Zl l ks ps hi sd,.int k]=pure (.bl (hiB hi k)):=by
 cases hi<;>rfl
theorem Qft (l:Int) (ks ps:List Int) (hi sd:Option Int) (k:Int) (hl:ks.length<=100) (U:ps.length=ks.length+1):Yz [Zl l ks ps hi sd,.int k]=pure (.int (ps.getD (cLe ks k) 0)):=by
 have h:=Jz ks k
 have a:=Kb ps (i:=(cLe ks k:Int)) (by lia) (by lia)
 rw [B7] at a
 refine Yj (XR (qU (x:=.tup (ps.map .int)) (y:=.int (cLe ks k)) rfl (xi (x:=.tup (ks.map .int)) (y:=.int k) rfl rfl (Kg ks k hl)) ?_))<;>try exact []
 simp [ixD,a]
theorem Qc4 (l:Int) (ks ps:List Int) (hi sd:Option Int) (k:Int) (hl:ks.length<=100) (U:ps.length=ks.length):JX [Zl l ks ps hi sd,.int k]=pure (if cLt ks k=cLe ks k then .non else .int (ps.getD (cLt ks k) 0)):=by
 have h:=Jz ks k
 have hlt:=j7 ks k
 refine Yj (env:=[.val (Zl l ks ps hi sd),.val (.int k),.val (.tup (ks.map .int)),.val (.int (cLt ks k))]) ?_
 refine (ZM (Z1 (d:=.tup (ks.map .int)) rfl)).trans ?_
 refine (ZM (Z1 (d:=.int (cLt ks k)) (xi (x:=.tup (ks.map .int)) (y:=.int k) rfl rfl (QeG ks k hl)))).trans ?_
 have tst:eB (Qj eqD (Qc 3) (Qt 2 Zp (Qd (Qc 2) (Qd (Qc 1) Qo)))) [.val (Zl l ks ps hi sd),.val (.int k),.val (.tup (ks.map .int)),.val (.int (cLt ks k))]=pure (decide (cLt ks k=cLe ks k)):=by
  refine QgI (qU (x:=.int (cLt ks k)) (y:=.int (cLe ks k)) rfl (xi (x:=.tup (ks.map .int)) (y:=.int k) rfl rfl (Kg ks k hl)) ?_)
  rw [ZH]
  congr 2
  rw [Bool.eq_iff_iff];simp only [beq_iff_eq,decide_eq_true_eq];lia
 by_cases hc:cLt ks k=cLe ks k
 ·rw [C9 hc]
  exact Qel ((Qhr (tst.trans (by simp [hc]))).trans (XR rfl))
 ·rw [C8 hc]
  refine (ZM ((Qhq (tst.trans (by simp [hc]))).trans rfl)).trans ?_
  have hlt2:cLt ks k < ks.length:=by
   have:cLt ks k<=cLe ks k:=by
    unfold cLt cLe
    rw [<- List.countP_eq_length_filter,<- List.countP_eq_length_filter]
    exact List.countP_mono_left fun x _ hx=>by simp at hx ⊢;lia
   lia
  have a:=Kb ps (i:=(cLt ks k:Int)) (by lia) (by lia)
  rw [B7] at a
  exact XR (qU (x:=.tup (ps.map .int)) (y:=.int (cLt ks k)) rfl rfl (by simp [ixD,a]))
theorem Gi {f:DEx} {g:DAx} {x:DV} (h:f env U=some (x,hp1)) (h':g env hp1=some (xs,hp2)):Qd f g env U=some (x::xs,hp2):=by
 unfold Qd;rw [Qh h,Qh h'];rfl
theorem Qby {F:Er} {f f' f'' f3:DEx} (h:f env=pure x) (h':f' env=pure y) (h'':f'' env=pure z) (h3:f3 env=pure u) (hF:F [x,y,z,u]=pure d):Qt 4 F (Qd f (Qd f' (Qd f'' (Qd f3 Qo)))) env=pure d:=by simp [Qt,Qd,Qo,h,h',h'',h3,Qz,hF]
def xR (l:Int) (ks ps:List Int) (hi sd:Option Int) (a b:DV):YU [Zl l ks ps hi sd,a,b]=pure (.tup [.int l,a,b,opt hi,opt sd]):=rfl
theorem runs (ks ns:List Int) (a b:Nat) (h:ks.length<=1000) (hn:ns.length<=10):(do let x <- slD (.tup (ks.map .int)) none (some (a:Int));let y <- ZL x (.tup (ns.map .int));let d <- slD (.tup (ks.map .int)) (some (b:Int)) none;ZL y d:M DV)=pure (.tup ((ks.take a++ns++ks.drop b).map .int)):=by
 rw [VH,VG]
 simp only [Eg,ZL]
 rw [za (by simp;lia)]
 simp only [Qz,if_true,Eg]
 rw [za (by simp;lia)]
 simp [List.map_take,List.map_drop]
theorem QeK {f g h q:DEx} {ks ns:List Int} {a b:Nat} (hf:f env=pure (.tup (ks.map .int))) (hg:g env=pure (.int (a:Int))) (hh:h env=pure (.int (b:Int))) (hq:q env=pure (.tup (ns.map .int))) (hl:ks.length<=1000) (hn:ns.length<=10):Qj ZL (Qj ZL (eSl f ZP (ZQ g)) q) (eSl f (ZQ h) ZP) env=pure (.tup ((ks.take a++ns++ks.drop b).map .int)):=by
 have e1:eSl f ZP (ZQ g) env=slD (.tup (ks.map .int)) none (some (a:Int)):=by simp only [eSl,hf,hg,ZP,ZQ,asI,Eg]
 have e2:eSl f (ZQ h) ZP env=slD (.tup (ks.map .int)) (some (b:Int)) none:=by simp only [eSl,hf,hh,ZP,ZQ,asI,Eg]
 rw [<- runs ks ns a b hl hn]
 simp only [Qj,e1,e2,hq,Eg,bind_assoc]
theorem yb (l:Int) (ks ps nk nw:List Int) (hi sd:Option Int) (k:Int) (hl:ks.length<=100) (U:ps.length<=100) (h1:nk.length<=10) (h2:nw.length<=10):YW [Zl l ks ps hi sd,.int k,.tup (nk.map .int),.tup (nw.map .int)]=pure (Zl l (ks.take (cLt ks k)++nk++ks.drop (cLe ks k)) (ps.take (cLt ks k)++nw++ps.drop (cLe ks k)) hi sd):=by
 refine Yj (env:=[.val (Zl l ks ps hi sd),.val (.int k),.val (.tup (nk.map .int)),.val (.tup (nw.map .int)),.val (.tup (ks.map .int)),.val (.tup (ps.map .int)),.val (.int (cLt ks k:Int)),.val (.int (cLe ks k:Int))]) ?_
 refine (ZM (Z1 (d:=.tup (ks.map .int)) rfl)).trans ?_
 refine (ZM (Z1 (d:=.tup (ps.map .int)) rfl)).trans ?_
 refine (ZM (Z1 (d:=.int (cLt ks k:Int)) (xi (x:=.tup (ks.map .int)) (y:=.int k) rfl rfl (QeG ks k hl)))).trans ?_
 refine (ZM (Z1 (d:=.int (cLe ks k:Int)) (xi (x:=.tup (ks.map .int)) (y:=.int k) rfl rfl (Kg ks k hl)))).trans ?_
 exact XR (Qbx (x:=Zl l ks ps hi sd) rfl (QeK rfl rfl rfl rfl (by lia) h1) (QeK rfl rfl rfl rfl (by lia) h2) (xR l ks ps hi sd _ _))
def uo (ks:List Int) (c:Nat) (k:Int):List Int:=ks.take c++k::ks.drop c
theorem Qgk (ks:List Int) (c:Nat) (k:Int) (h:ks.length<=1000):(do let a <- slD (.tup (ks.map .int)) none (some (c:Int));let b <- ZL a (.tup [.int k]);let d <- slD (.tup (ks.map .int)) (some (c:Int)) none;ZL b d:M DV)=pure (.tup ((uo ks c k).map .int)):=by
 rw [VH,VG]
 simp only [Eg,ZL]
 rw [za (by simp;lia)]
 simp only [Qz,if_true,Eg]
 rw [za (by simp;lia)]
 simp [uo,List.map_take,List.map_drop]
theorem gM {f g h:DEx} {ks:List Int} {c:Nat} {k:Int} (hf:f env=pure (.tup (ks.map .int))) (hg:g env=pure (.int (c:Int))) (hk:h env=pure (.int k)) (hl:ks.length<=1000):Qj ZL (Qj ZL (eSl f ZP (ZQ g)) (Zz (Qd h Qo))) (eSl f (ZQ g) ZP) env=pure (.tup ((uo ks c k).map .int)):=by
 have e1:eSl f ZP (ZQ g) env=slD (.tup (ks.map .int)) none (some (c:Int)):=by simp only [eSl,hf,hg,ZP,ZQ,asI,Eg]
 have e2:eSl f (ZQ g) ZP env=slD (.tup (ks.map .int)) (some (c:Int)) none:=by simp only [eSl,hf,hg,ZP,ZQ,asI,Eg]
 have e3:Zz (Qd h Qo) env=pure (.tup [.int k]):=by
  simp only [Zz,Qd,Qo,hk,Eg];rfl
 rw [<- Qgk ks c k hl]
 simp only [Qj,e1,e2,e3,Eg,bind_assoc]
theorem Qaz (l:Int) (ks ps:List Int) (hi sd:Option Int) (k kid:Int) (hl:ks.length<=100) (U:ps.length<=1000):YV [Zl l ks ps hi sd,.int k,.int kid]=pure (Zl l (uo ks (cLe ks k) k) (uo ps (cLe ks k+1) kid) hi sd):=by
 refine Yj (env:=[.val (Zl l ks ps hi sd),.val (.int k),.val (.int kid),.val (.tup (ks.map .int)),.val (.tup (ps.map .int)),.val (.int (cLe ks k:Int)),.val (.int ((cLe ks k:Int)+1))]) ?_
 refine (ZM (Z1 (d:=.tup (ks.map .int)) rfl)).trans ?_
 refine (ZM (Z1 (d:=.tup (ps.map .int)) rfl)).trans ?_
 refine (ZM (Z1 (d:=.int (cLe ks k:Int)) (xi (x:=.tup (ks.map .int)) (y:=.int k) rfl rfl (Kg ks k hl)))).trans ?_
 refine (ZM (Z1 (d:=.int ((cLe ks k:Int)+1)) rfl)).trans ?_
 refine XR (Qbx (x:=Zl l ks ps hi sd) (y:=.tup ((uo ks (cLe ks k) k).map .int)) (z:=.tup ((uo ps (cLe ks k+1) kid).map .int)) rfl ?_ ?_ (xR l ks ps hi sd _ _))
 ·exact gM rfl rfl rfl (by lia)
 ·exact gM rfl (by show (pure (DV.int ((cLe ks k:Int)+1)):M DV)=_;rw [show ((cLe ks k:Int)+1)=((cLe ks k+1:Nat):Int) by lia]) rfl U
def Zj (l:Int) (n:Nat):Nat:=if l=0 then n / 2 else n / 2+1
def Qcf (l:Int) (ks ps:List Int) (hi sd:Option Int) (num:Int):DV :=
 .tup [Zl l (ks.take (ks.length / 2)) (ps.take (Zj l ks.length)) (some (ks.getD (ks.length / 2) 0)) (some num),Zl l (ks.drop (Zj l ks.length)) (ps.drop (Zj l ks.length)) hi sd,.int (ks.getD (ks.length / 2) 0)]
theorem QaJ (l:Int) (ks ps:List Int) (hi sd:Option Int) (num:Int) (h3:3<=ks.length) (hl:ks.length<=100):zZ [Zl l ks ps hi sd,.int num]=pure (Qcf l ks ps hi sd num):=by
 have hm:((ks.length:Int)) / 2=((ks.length / 2:Nat):Int):=by lia
 have a:=Kb ks (i:=((ks.length / 2:Nat):Int)) (by lia) (by lia)
 rw [B7] at a
 have hcut:(if l=0 then DV.int ((ks.length / 2:Nat):Int) else .int (((ks.length / 2:Nat):Int)+1))=.int ((Zj l ks.length:Nat):Int):=by
  unfold Zj
  split<;>simp
 generalize hC:Zj l ks.length=C at hcut
 generalize hK:ks.getD (ks.length / 2) 0=kk at a
 have e7:eIf (eB (Qj eqD (Qc 2) (eC (.int 0)))) (Qc 5) (Qj ZL (Qc 5) (eC (.int 1))) [.val (Zl l ks ps hi sd),.val (.int num),.val (.int l),.val (.tup (ks.map .int)),.val (.tup (ps.map .int)),.val (.int ((ks.length / 2:Nat):Int)),.val (.int kk),.un,.un,.un]=pure (.int (C:Int)):=by
  rw [<- hcut]
  by_cases q:l=0
  ·simp [eIf,eB,Qj,Qc,eC,ZH,asB,q]
  ·have:(l==0)=false:=by simpa using q
   simp [eIf,eB,Qj,Qc,eC,ZH,asB,q,this,ZE]
 unfold Qcf
 rw [hC,hK]
 refine Yj (env:=[.val (Zl l ks ps hi sd),.val (.int num),.val (.int l),.val (.tup (ks.map .int)),.val (.tup (ps.map .int)),.val (.int ((ks.length / 2:Nat):Int)),.val (.int kk),.val (.int (C:Int)),.val (Zl l (ks.take (ks.length / 2)) (ps.take C) (some kk) (some num)),.val (Zl l (ks.drop C) (ps.drop C) hi sd)]) ?_
 refine (ZM (Z1 (d:=.int l) rfl)).trans ?_
 refine (ZM (Z1 (d:=.tup (ks.map .int)) rfl)).trans ?_
 refine (ZM (Z1 (d:=.tup (ps.map .int)) rfl)).trans ?_
 refine (ZM (Z1 (d:=.int ((ks.length / 2:Nat):Int)) ?_)).trans ?_
 ·refine qU (x:=.int (ks.length:Int)) (y:=.int 2) ?_ rfl ((GF _ 2 (by decide) (by decide)).trans (by rw [hm]))
  show (pure (DV.int ((ks.map DV.int).length:Int)):M DV)=_
  rw [Br]
 refine (ZM (Z1 (d:=.int kk) (qU (x:=.tup (ks.map .int)) (y:=.int ((ks.length / 2:Nat):Int)) rfl rfl (QdD a)))).trans ?_
 refine (ZM (Z1 (d:=.int (C:Int)) e7)).trans ?_
 refine (ZM (Z1 (d:=Zl l (ks.take (ks.length / 2)) (ps.take C) (some kk) (some num)) ?_)).trans ?_
 ·have t1:=GL (f:=Qc 3) (g:=Qc 5) (env:=[.val (Zl l ks ps hi sd),.val (.int num),.val (.int l),.val (.tup (ks.map .int)),.val (.tup (ps.map .int)),.val (.int ((ks.length / 2:Nat):Int)),.val (.int kk),.val (.int (C:Int)),.un,.un]) (ds:=ks.map .int) (m:=ks.length / 2) rfl rfl
  have t2:=GL (f:=Qc 4) (g:=Qc 7) (env:=[.val (Zl l ks ps hi sd),.val (.int num),.val (.int l),.val (.tup (ks.map .int)),.val (.tup (ps.map .int)),.val (.int ((ks.length / 2:Nat):Int)),.val (.int kk),.val (.int (C:Int)),.un,.un]) (ds:=ps.map .int) (m:=C) rfl rfl
  simp only [List.set_cons_succ,List.set_cons_zero,Bb,List.map_nil,Ba,List.length_nil,List.cons_append,List.nil_append,List.replicate,Zz,Qd,Qo,t1,t2,Eg]
  simp only [Zl,List.map_take,opt]
  rfl
 refine (ZM (Z1 (d:=Zl l (ks.drop C) (ps.drop C) hi sd) ?_)).trans ?_
 ·have t1:=GK (f:=Qc 3) (g:=Qc 7) (env:=[.val (Zl l ks ps hi sd),.val (.int num),.val (.int l),.val (.tup (ks.map .int)),.val (.tup (ps.map .int)),.val (.int ((ks.length / 2:Nat):Int)),.val (.int kk),.val (.int (C:Int)),.val (Zl l (ks.take (ks.length / 2)) (ps.take C) (some kk) (some num)),.un]) (ds:=ks.map .int) (m:=C) rfl rfl
  have t2:=GK (f:=Qc 4) (g:=Qc 7) (env:=[.val (Zl l ks ps hi sd),.val (.int num),.val (.int l),.val (.tup (ks.map .int)),.val (.tup (ps.map .int)),.val (.int ((ks.length / 2:Nat):Int)),.val (.int kk),.val (.int (C:Int)),.val (Zl l (ks.take (ks.length / 2)) (ps.take C) (some kk) (some num)),.un]) (ds:=ps.map .int) (m:=C) rfl rfl
  simp only [List.set_cons_succ,List.set_cons_zero,Bb,List.map_nil,Ba,List.length_nil,List.cons_append,List.nil_append,List.replicate,Zz,Qd,Qo,t1,t2,Eg]
  simp only [Zl,List.map_drop]
  rfl
 exact XR rfl
theorem Xo (p:TR.Pg):pgD p=Zl p.lv p.ks p.ps p.hi (p.sd.map fun n=>(n:Int)):=by
 unfold pgD Zl;cases p.sd<;>rfl
theorem QaM (p:TR.Pg) (k:Int):Yy [pgD p,.int k]=pure (.bl (TR.Zh p k)):=by
 rw [Xo,Qae]
 unfold hiB TR.Zh
 cases p.hi<;>rfl
theorem Qf2 (p:TR.Pg) (k c:Int) (hl:p.ks.length<=100) (U:p.ps.length=p.ks.length+1) (hc:p.ps[TR.cLe p.ks k]?=some c):Yz [pgD p,.int k]=pure (.int c):=by
 rw [Xo,Qft _ _ _ _ _ _ hl U]
 rw [List.getD_eq_getElem?_getD,show p.ps[cLe p.ks k]?=some c from hc];rfl
theorem Qcn (p:TR.Pg) (k:Int) (hl:p.ks.length<=100) (U:p.ps.length=p.ks.length):JX [pgD p,.int k]=pure (opt (TR.QR p k)):=by
 rw [Xo,Qc4 _ _ _ _ _ _ hl U]
 unfold TR.QR
 by_cases h:cLt p.ks k=cLe p.ks k
 ·rw [C9 h,C9 (show TR.cLt p.ks k=TR.cLe p.ks k from h)];rfl
 ·rw [C8 h,C8 (show ¬ TR.cLt p.ks k=TR.cLe p.ks k from h)]
  have h1:=TR.Kf p.ks k
  have h2:=TR.Jz p.ks k
  have h3:¬ TR.cLt p.ks k=TR.cLe p.ks k:=h
  rw [List.getD_eq_getElem?_getD,show p.ps[cLt p.ks k]?=some (p.ps[TR.cLt p.ks k]'(by lia)) from Ab _,Ab (show TR.cLt p.ks k < p.ps.length by lia)];rfl
theorem QdZ (p:TR.Pg) (k x:Int) (hl:p.ks.length<=100) (U:p.ps.length<=100):qx [pgD p,.int k,.int x]=pure (pgD (TR.QH p k x)):=by
 have e:=yb p.lv p.ks p.ps [k] [x] p.hi (p.sd.map fun n=>(n:Int)) k hl U (by simp) (by simp)
 rw [Xo,Xo]
 refine Yj (env:=[.val (Zl p.lv p.ks p.ps p.hi (p.sd.map fun n=>(n:Int))),.val (.int k),.val (.int x)]) (XR (Qby rfl rfl rfl rfl (e.trans ?_)))
 simp [TR.QH,TR.cLt,TR.cLe,cLt,cLe]
theorem uH (p:TR.Pg) (k:Int) (hl:p.ks.length<=100) (U:p.ps.length<=100):jX [pgD p,.int k]=pure (pgD (TR.without p k)):=by
 have e:=yb p.lv p.ks p.ps [] [] p.hi (p.sd.map fun n=>(n:Int)) k hl U (by simp) (by simp)
 rw [Xo,Xo]
 refine Yj (env:=[.val (Zl p.lv p.ks p.ps p.hi (p.sd.map fun n=>(n:Int))),.val (.int k)]) (XR (Qby rfl rfl rfl rfl (e.trans ?_)))
 simp [TR.without,TR.cLt,TR.cLe,cLt,cLe]
theorem uG (p:TR.Pg) (k:Int) (c:Nat) (hl:p.ks.length<=100) (U:p.ps.length<=1000):YV [pgD p,.int k,.int c]=pure (pgD (TR.Q2 p k c)):=by
 rw [Xo,Qaz _ _ _ _ _ _ _ hl U,Xo];rfl
theorem QdY (p:TR.Pg) (O2:Nat):XT [pgD p,.int O2]=pure (.bl (decide (O2 < p.ks.length))):=by
 have e:(decide ((O2:Int) < ((p.ks.map DV.int).length:Int)))=decide (O2 < p.ks.length):=by
  rw [Br];congr 1;rw [eq_iff_iff];lia
 refine Yj (env:=[.val (pgD p),.val (.int O2)]) (XR (qU (x:=.int ((p.ks.map DV.int).length:Int)) (y:=.int O2) rfl rfl ((ZY _ _).trans ?_)))
 rw [<- e]
theorem QaN (p:TR.Pg) (n:Nat) (h3:3<=p.ks.length) (hl:p.ks.length<=100):zZ [pgD p,.int n]=pure (.tup [pgD (TR.QS p n),pgD (TR.QC p),.int (TR.JJ p)]):=by
 rw [Xo,QaJ _ _ _ _ _ _ h3 hl]
 unfold Qcf
 rw [Xo,Xo]
 have hc:Zj p.lv p.ks.length=TR.Zj p:=by
  unfold Zj TR.Zj TR.mid
  by_cases h:p.lv=0
  ·simp [h]
  ·rw [C8 h,C8 (by lia)]
 rw [hc];rfl
structure At (U:Hs) (n k a f q:Nat) (S:TR.Sh) (w:TR.Wk):Prop where
 h1:U[n]?=some (.ins "Shelf" (shF S.O2 k S.top S.rd S.wr))
 h2:U[k]?=some (.lst (S.pg.map pgD))
 h3:U[a]?=some (wkO n f q w)
 h4:U[f]?=some (.dic (fkD w.O3))
 h5:U[q]?=some (.lst (prD w.O5))
structure Dif (n k a f q:Nat):Prop where
 nk:n≠k
 na:n≠a
 nf:n≠f
 nq:n≠q
 ka:k≠a
 kf:k≠f
 kq:k≠q
 af:a≠f
 aq:a≠q
 fq:f≠q
def Fr (U hp':Hs) (n k a f q:Nat):Prop:=U.length<=hp'.length/\∀ i,i < U.length->i≠n->i≠k->i≠a->i≠f->i≠q->hp'[i]?=U[i]?
section
variable {U hp' hp2:Hs} {n k a f q:Nat} {S S':TR.Sh} {w w':TR.Wk}
def Fr.refl:Fr U U n k a f q:=⟨Ae _,fun _ _ _ _ _ _ _=>rfl⟩
def Fr.trans (x:Fr U hp' n k a f q) (y:Fr hp' hp2 n k a f q):Fr U hp2 n k a f q:=⟨Bj x.1 y.1,fun i hi a1 a2 a3 a4 a5=>(y.2 i (Ay hi x.1) a1 a2 a3 a4 a5).trans (x.2 i hi a1 a2 a3 a4 a5)⟩
def gs {n m:Nat} {Y:Option OV} (h:n≠m) (h':U[m]?=Y):(U.set n X)[m]?=Y:=(QZ _ _ _ _ h).trans h'
theorem gss {n:Nat} (h':U[n]?=some Y):(U.set n X)[n]?=some X:=Zb _ _ _ (by rw [h'];rfl)
theorem At.walk (A:At U n k a f q S w) (D:Dif n k a f q) (w':TR.Wk) (e1:w'.O3=w.O3) (e2:w'.O5=w.O5):At (U.set a (wkO n f q w')) n k a f q S w'/\Fr U (U.set a (wkO n f q w')) n k a f q :=
 ⟨⟨gs D.na.symm A.h1,gs D.ka.symm A.h2,gss A.h3,gs D.af (by rw [e1];exact A.h4),gs D.aq (by rw [e2];exact A.h5)⟩,by simp,fun i hi a1 a2 a3 a4 a5=>QZ _ _ _ _ (Ne.symm a3)⟩
theorem At.shelf (A:At U n k a f q S w) (D:Dif n k a f q) (S':TR.Sh) (e:S'.O2=S.O2):At ((U.set n (.ins "Shelf" (shF S.O2 k S'.top S'.rd S'.wr))).set k (.lst (S'.pg.map pgD))) n k a f q S' w/\Fr U ((U.set n (.ins "Shelf" (shF S.O2 k S'.top S'.rd S'.wr))).set k (.lst (S'.pg.map pgD))) n k a f q :=
 ⟨⟨gs D.nk.symm (by rw [e];exact gss A.h1),gss (gs D.nk A.h2),gs D.ka (gs D.na A.h3),gs D.kf (gs D.nf A.h4),gs D.kq (gs D.nq A.h5)⟩,by simp,fun i hi a1 a2 a3 a4 a5=>(QZ _ _ _ _ (Ne.symm a2)).trans (QZ _ _ _ _ (Ne.symm a1))⟩
theorem At.count (A:At U n k a f q S w) (D:Dif n k a f q) (S':TR.Sh) (e:S'.O2=S.O2) (e2:S'.pg=S.pg):At (U.set n (.ins "Shelf" (shF S.O2 k S'.top S'.rd S'.wr))) n k a f q S' w/\Fr U (U.set n (.ins "Shelf" (shF S.O2 k S'.top S'.rd S'.wr))) n k a f q :=
 ⟨⟨by rw [e];exact gss A.h1,gs D.nk (by rw [e2];exact A.h2),gs D.na A.h3,gs D.nf A.h4,gs D.nq A.h5⟩,by simp,fun i hi a1 a2 a3 a4 a5=>QZ _ _ _ _ (Ne.symm a1)⟩
theorem At.fork (A:At U n k a f q S w) (D:Dif n k a f q) (w':TR.Wk) (h:wkO n f q w'=wkO n f q w) (e:w'.O5=w.O5):At (U.set f (.dic (fkD w'.O3))) n k a f q S w'/\Fr U (U.set f (.dic (fkD w'.O3))) n k a f q :=
 ⟨⟨gs D.nf.symm A.h1,gs D.kf.symm A.h2,gs D.af.symm (by rw [h];exact A.h3),gss A.h4,gs D.fq (by rw [e];exact A.h5)⟩,by simp,fun i hi a1 a2 a3 a4 a5=>QZ _ _ _ _ (Ne.symm a4)⟩
theorem At.pair (A:At U n k a f q S w) (D:Dif n k a f q) (w':TR.Wk) (h:wkO n f q w'=wkO n f q w) (e:w'.O3=w.O3):At (U.set q (.lst (prD w'.O5))) n k a f q S w'/\Fr U (U.set q (.lst (prD w'.O5))) n k a f q :=
 ⟨⟨gs D.nq.symm A.h1,gs D.kq.symm A.h2,gs D.aq.symm (by rw [h];exact A.h3),gs D.fq.symm (by rw [e];exact A.h4),gss A.h5⟩,by simp,fun i hi a1 a2 a3 a4 a5=>QZ _ _ _ _ (Ne.symm a5)⟩
theorem At.more (A:At U n k a f q S w) (x:OV):At (U++[x]) n k a f q S w/\Fr U (U++[x]) n k a f q:=by
 have ap:∀ {i:Nat} {y:OV},U[i]?=some y->(U++[x])[i]?=some y:=fun {i y} h=>by rw [Ah (Ac.mp h).1];exact h
 exact ⟨⟨ap A.h1,ap A.h2,ap A.h3,ap A.h4,ap A.h5⟩,by simp,fun i hi _ _ _ _ _=>Ah hi⟩
theorem kj (ps:List TR.Pg) (p:TR.Pg):ps.map pgD++[pgD p]=(ps++[p]).map pgD:=by simp
theorem map_set (ps:List TR.Pg) (i:Nat) (p:TR.Pg):(ps.map pgD).set i (pgD p)=(ps.set i p).map pgD:=by rw [List.map_set]
def Xb (A:At U n k a f q S w) {env:En} (h:env[0]?=some (.val (.ref a))):QF "Walk" "shelf" (Qc 0) env U=some (.ref n,U):=Q8 (Qf h) A.h3 (Qa8 ..)
theorem UX (A:At U n k a f q S w) (D:Dif n k a f q) {i:Nat} (hi:i < S.pg.length) (P:TR.Pg) (h3:S.O2 < P.ks.length->3<=P.ks.length) (hP:P.ks.length<=100) (hl:S.pg.length < 90000):
  ∃ hp',Xp [.ref a,.int i,pgD P] U=some (oN (TR.Qs S w i P).1,hp')/\At hp' n k a f q (TR.Qs S w i P).2.1 (TR.Qs S w i P).2.2/\Fr U hp' n k a f q:=by
 have t0:Qt 2 XT (Qd (Qc 2) (Qd (QD "Shelf" "room" 1 Jj (QF "Walk" "shelf" (Qc 0)) Qo) Qo)) [.val (.ref a),.val (.int i),.val (pgD P),.un] U=some (.bl (decide (S.O2 < P.ks.length)),U) :=
  Q4 (Z2 (Qf rfl) (Q5 (Xb A rfl) A.h1 (QcJ ..) Xg rfl (Qei A.h1))) rfl (Zg (QdY P S.O2) U)
 unfold TR.Qs
 by_cases hr:P.ks.length<=S.O2
 ·rw [C9 hr]
  have hd:decide (S.O2 < P.ks.length)=false:=Ef (by lia)
  rw [hd] at t0
  have t1:Jo (eB (Qt 2 XT (Qd (Qc 2) (Qd (QD "Shelf" "room" 1 Jj (QF "Walk" "shelf" (Qc 0)) Qo) Qo)))) [.val (.ref a),.val (.int i),.val (pgD P),.un] U=some (true,U):=JH (b:=false) (QV t0)
  have wr:=VY (d:=pgD P) (i:=i) A.h1 A.h2 D.nk (by simpa using hi)
  rw [map_set] at wr
  obtain ⟨A1,F1⟩:=A.shelf D { S with pg:=S.pg.set i P,wr:=S.wr+1 } rfl
  obtain ⟨A2,F2⟩:=A1.walk D { w with O7:=true } rfl rfl
  refine ⟨_,?_,A2,F1.trans F2⟩
  refine QI (env:=[.val (.ref a),.val (.int i),.val (pgD P),.un]) (Q3 ((Zo t1).trans ?_))
  refine (Qk (JV (Q5 (Xb A rfl) A.h1 (qR ..) (Z2 (Qf rfl) (Qf rfl)) rfl wr))).trans ?_
  exact (Qk (Jk (v:=.bl true) rfl (Qf rfl) A1.h3 wl)).trans (QM (d:=.non) rfl)
 ·rw [C8 hr]
  have hd:decide (S.O2 < P.ks.length)=true:=Ed (by lia)
  rw [hd] at t0
  have t1:Jo (eB (Qt 2 XT (Qd (Qc 2) (Qd (QD "Shelf" "room" 1 Jj (QF "Walk" "shelf" (Qc 0)) Qo) Qo)))) [.val (.ref a),.val (.int i),.val (pgD P),.un] U=some (false,U):=JH (b:=true) (QV t0)
  have pl:(S.pg.map pgD).length=S.pg.length:=by simp
  have pe:=QaN P S.pg.length (h3 (by lia)) hP
  have ly:=QbS (pg:=pgD (TR.QC P)) A.h1 A.h2 D.nk (by rw [pl];lia)
  rw [pl,kj] at ly
  obtain ⟨A1,F1⟩:=A.shelf D { S with pg:=S.pg++[TR.QC P],wr:=S.wr+1 } rfl
  obtain ⟨A2,F2⟩:=A1.walk D { w with Oz:=some S.pg.length } rfl rfl
  have wr:=VY (d:=pgD (TR.QS P S.pg.length)) (i:=i) A2.h1 A2.h2 D.nk (by simp;lia)
  rw [map_set] at wr
  obtain ⟨A3,F3⟩:=A2.shelf D { S with pg:=(S.pg++[TR.QC P]).set i (TR.QS P S.pg.length),wr:=S.wr+1+1 } rfl
  obtain ⟨A4,F4⟩:=A3.walk D { w with Oz:=some S.pg.length,aim:=TR.JJ P } rfl rfl
  obtain ⟨A5,F5⟩:=A4.walk D { w with Oz:=some S.pg.length,aim:=TR.JJ P,O4:=P.lv+1 } rfl rfl
  obtain ⟨A6,F6⟩:=A5.walk D { w with Oz:=some S.pg.length,aim:=TR.JJ P,O4:=P.lv+1,O6:=TR.Jh w.O3 (P.lv+1) } rfl rfl
  refine ⟨_,?_,A6,F1.trans (F2.trans (F3.trans (F4.trans (F5.trans F6))))⟩
  refine QI (env:=[.val (.ref a),.val (.int i),.val (pgD P),.val (.tup [pgD (TR.QS P S.pg.length),pgD (TR.QC P),.int (TR.JJ P)])]) ?_
  refine (Qk ((QN t1).trans QP)).trans ?_
  have pg:=G8 A.h1 A.h2
  rw [pl] at pg
  refine (Qk (Q0 (Q4 (Z2 (Qf rfl) (Q5 (Xb A rfl) A.h1 (x8 ..) Xg rfl pg)) rfl (Zg pe U)))).trans ?_
  refine (Qk (Jk (Q5 (Xb A rfl) A.h1 (U1 ..) (JN (Ql (Qf rfl) rfl (JZ (i:=1) rfl _))) rfl ly) (Qf rfl) A1.h3 wl)).trans ?_
  refine (Qk (JV (Q5 (Xb A2 rfl) A2.h1 (qR ..) (Z2 (Qf rfl) (Ql (Qf rfl) rfl (JZ (i:=0) rfl _))) rfl wr))).trans ?_
  refine (Qk (Jk (Ql (Qf rfl) rfl (JZ (i:=2) rfl _)) (Qf rfl) A3.h3 wl)).trans ?_
  refine (Qk (Jk (v:=.int ((P.lv+1:Nat):Int)) (Ql (Ql (Qf rfl) rfl (Qcl P _)) rfl rfl) (Qf rfl) A4.h3 wl)).trans ?_
  have dg:Xn "dict" X4 (QF "Walk" "forks" (Qc 0)) (Qd (QF "Walk" "goal" (Qc 0)) Qo) [.val (.ref a),.val (.int i),.val (pgD P),.val (.tup [pgD (TR.QS P S.pg.length),pgD (TR.QC P),.int (TR.JJ P)])] _=some (oN (TR.Jh w.O3 (P.lv+1)),_) :=
   Qdm (Q8 (Qf rfl) A5.h3 (U4 ..)) A5.h4 (JN (Q8 (Qf rfl) A5.h3 (vJ ..)))
  refine (Qk (Jk dg (Qf rfl) A5.h3 wl)).trans ?_
  exact QM (Q8 (Qf rfl) A6.h3 (Gc ..))
end
def Qbg (x:DV) (xs:List DV):atI (x::xs) 0=some x:=jc (j:=0) rfl
theorem Ug {r a b:Int} {n k:Nat} {ps:List DV} {U:Hs} {t i:Nat} {key:Int} {l:Int} {ks qs:List Int} {hi sd:Option Int} (h1:U[n]?=some (.ins "Shelf" (shF r k t a b))) (h2:U[k]?=some (.lst ps)) (hnk:n≠k) (hi1:i < ps.length) (ht:ps[t]?=some (Zl l ks qs hi sd)) (hl:ps.length < 99999):
  ZS [.ref n,.int key,.int i] U=some (.int ps.length,(U.set n (.ins "Shelf" (shF r k ps.length a (b+1)))).set k (.lst (ps++[Zl (l+1) [key] [(t:Int),(i:Int)] none none]))):=by
 have c:=yF (i:=(i:Int)) h1 h2 (by lia) (by lia)
 have ht':atI ps (t:Int)=some (.tup [.int l,.tup (ks.map .int),.tup (qs.map .int),opt hi,opt sd]):=jc ht
 have y:=QbS (pg:=Zl (l+1) [key] [(t:Int),(i:Int)] none none) h1 h2 hnk hl
 have pd:DV.tup [.int (l+1),.tup [.int key],.tup [.int (t:Int),.int (i:Int)],.non,.non]=Zl (l+1) [key] [(t:Int),(i:Int)] none none:=rfl
 have g1:((U.set n (.ins "Shelf" (shF r k t a (b+1)))).set k (.lst (ps++[Zl (l+1) [key] [(t:Int),(i:Int)] none none])))[n]?=some (.ins "Shelf" (shF r k t a (b+1))):=by
  rw [QZ _ _ _ _ hnk.symm];exact Zb _ _ _ (by rw [h1];rfl)
 have g2:∀ X Y Z:OV,((U.set n X).set k Y).set n Z=(U.set n Z).set k Y:=fun X Y Z=>by
  rw [List.set_comm _ _ hnk,List.set_set,List.set_comm _ _ hnk.symm,List.set_comm _ _ hnk]
 have g3:((U.set n (.ins "Shelf" (shF r k ps.length a (b+1)))).set k (.lst (ps++[Zl (l+1) [key] [(t:Int),(i:Int)] none none])))[n]?=some (.ins "Shelf" (shF r k ps.length a (b+1))):=by
  rw [QZ _ _ _ _ hnk.symm];exact Zb _ _ _ (by rw [h1];rfl)
 simp [ZS,XY,Q7,Qr,QJ,QG,X7,sIf,Zc,zV,zf,zT,zU,Qj,Qc,eC,eB,asB,Xm,eOr,Jo,XB,zL,X1,eIf,zJ,Qo,Qd,Zz,XC,Qt,ZT,Qz,gN,ZE,ZW,ZY,Zw,ZZ,Z5,ZV,J3,X6,zR,ZH,Jm,Z7,Zf,Yk,Ui,Xe,gSb,xA,Xn,XD,QF,js,jQ,onI,onL,onD,JI,Xr,Yi,X4,ixG,Yb,qp,Y2,J8,YE,asI,zG,Up,QD,JS,Yd,JY,X0,evP,ZF,Xu,run_pure,JU,Ju,Xt,run_set,Xv,Zb,QZ,Z9,Yo,lim,ixD,h1,h2,c,YM,kN,QcL,yy,xF,U1,ht',Qbg,pd,y,g1,g2,g3]
theorem Qcw {n k a f q:Nat} {S:TR.Sh} {w:TR.Wk} (A:At U n k a f q S w) (D:Dif n k a f q) {c:Nat} {key:Int} (hc:c < S.pg.length) (hr:S.pg[S.top]?=some r) (hl:S.pg.length < 90000):
  ZS [.ref n,.int key,.int c] U=some (.int S.pg.length,(U.set n (.ins "Shelf" (shF S.O2 k S.pg.length S.rd (S.wr+1)))).set k (.lst ((S.pg++[(⟨r.lv+1,[key],[(S.top:Int),(c:Int)],none,none⟩:TR.Pg)]).map pgD))):=by
 have ht:(S.pg.map pgD)[S.top]?=some (Zl r.lv r.ks r.ps r.hi (r.sd.map fun n=>(n:Int))):=by rw [Bu,hr,Option.map_some,Xo]
 have e:=Ug (key:=key) A.h1 A.h2 D.nk (i:=c) (by simpa using hc) ht (by simp;lia)
 rw [e,Br]
 rw [show Zl ((r.lv:Int)+1) [key] [(S.top:Int),(c:Int)] none none=pgD ⟨r.lv+1,[key],[(S.top:Int),(c:Int)],none,none⟩ from rfl,kj]
theorem K4 (S:TR.Sh) (w:TR.Wk) (i:Nat) (P:TR.Pg):(TR.Qs S w i P).2.2.O1=w.O1:=by
 unfold TR.Qs;split<;>rfl
section
variable {U:Hs} {n k a f q:Nat} {S:TR.Sh} {w:TR.Wk} {i:Nat} {p:TR.Pg}
theorem GQ (A:At U n k a f q S w) (D:Dif n k a f q) (word:Str) (t:Option Nat):∃ hp',JC [.ref a,.str word,.int i,oN t] U=some (.tup [.str word,.int i,oN t],hp')/\At hp' n k a f q S { w with O6:=t }/\Fr U hp' n k a f q:=by
 obtain ⟨A1,F1⟩:=A.walk D { w with O6:=t } rfl rfl
 refine ⟨_,?_,A1,F1⟩
 refine QI (env:=[.val (.ref a),.val (.str word),.val (.int i),.val (oN t)]) ?_
 exact (Qk (Jk (Qf rfl) (Qf rfl) A.h3 wl)).trans (QM (JL (Ji (Qf rfl) (Qf rfl) (Qf rfl)) (by simp)))
theorem Uf (A:At U n k a f q S w) (D:Dif n k a f q) {c:Nat} (hw:w.Oz=some c) (hc:c < S.pg.length) (hr:S.pg[S.top]?=some r) (hl:S.pg.length < 90000):∃ hp',ZK [.ref a,.int i] U=some (.tup [.str "raised", .int i,.int S.pg.length],hp')/\At hp' n k a f q { S with pg:=S.pg++[⟨r.lv+1,[w.aim],[(S.top:Int),(c:Int)],none,none⟩],top:=S.pg.length,wr:=S.wr+1 } { w with O7:=true }/\Fr U hp' n k a f q:=by
 obtain ⟨A1,F1⟩:=A.walk D { w with O7:=true } rfl rfl
 have e:=Qcw (key:=w.aim) A1 D hc hr hl
 obtain ⟨A2,F2⟩:=A1.shelf D { S with pg:=S.pg++[⟨r.lv+1,[w.aim],[(S.top:Int),(c:Int)],none,none⟩],top:=S.pg.length,wr:=S.wr+1 } rfl
 refine ⟨_,?_,A2,F1.trans F2⟩
 refine QI (env:=[.val (.ref a),.val (.int i)]) ?_
 refine (Qk (Jk (v:=.bl true) rfl (Qf rfl) A.h3 wl)).trans ?_
 refine QM (JL (Ji rfl (Qf rfl) (Q5 (Xb A1 rfl) A1.h1 (vo ..) (Z2 (Q8 (Qf rfl) A1.h3 (Yq ..)) (Q8 (d:=.int c) (Qf rfl) A1.h3 ((Gc ..).trans (by show some (oN w.Oz)=_;rw [hw];rfl)))) rfl e)) (by simp))
theorem VX (A:At U n k a f q S w) (D:Dif n k a f q) {env:En} (e0:env[0]?=some (.val (.ref a))) (e2:env[2]?=some (.val (pgD p))) (h1:p.ks.length<=100) (h2:p.ps.length=p.ks.length):
  ∃ hp',Zf "Walk" "worth" (Qc 0) (Qt 2 JX (Qd (Qc 2) (Qd (QF "Walk" "aim" (Qc 0)) Qo))) env U=some ((.nx,env),hp')/\At hp' n k a f q S { w with O1:=TR.QR p w.aim }/\Fr U hp' n k a f q:=by
 obtain ⟨A1,F1⟩:=A.walk D { w with O1:=TR.QR p w.aim } rfl rfl
 exact ⟨_,Jk (Q4 (Z2 (Qf e2) (Q8 (Qf e0) A.h3 (Yq ..))) rfl (Zg (Qcn p w.aim h1 h2) U)) (Qf e0) A.h3 wl,A1,F1⟩
theorem Qdr (A:At U n k a f q S w) (D:Dif n k a f q) (h1:p.ks.length<=100) (h2:p.ps.length=p.ks.length):
  ∃ hp',J4 [.ref a,.int i,pgD p] U=some (.tup [.str "found", .int i,opt (TR.QR p w.aim)],hp')/\At hp' n k a f q S { w with O1:=TR.QR p w.aim,O7:=true }/\Fr U hp' n k a f q:=by
 obtain ⟨hp1,e1,A1,F1⟩:=VX (env:=[.val (.ref a),.val (.int i),.val (pgD p)]) A D rfl rfl h1 h2
 obtain ⟨A2,F2⟩:=A1.walk D { w with O1:=TR.QR p w.aim,O7:=true } rfl rfl
 refine ⟨_,?_,A2,F1.trans F2⟩
 refine QI (env:=[.val (.ref a),.val (.int i),.val (pgD p)]) ?_
 refine (Qk e1).trans ((Qk (Jk (v:=.bl true) rfl (Qf rfl) A1.h3 wl)).trans ?_)
 exact QM (JL (Ji rfl (Qf rfl) (Q8 (Qf rfl) A2.h3 (YR ..))) (by simp))
theorem Qge (A:At U n k a f q S w) (D:Dif n k a f q) (hi:i < S.pg.length) {x y:Int} (hd:w.O0=.put y x) (h1:p.ks.length<=90) (h2:p.ps.length=p.ks.length) (h3:S.O2 < (TR.QH p w.aim x).ks.length->3<=(TR.QH p w.aim x).ks.length) (h4:(TR.QH p w.aim x).ks.length<=100) (hl:S.pg.length < 90000):
  ∃ hp',XG [.ref a,.int i,pgD p] U=some (.tup [.str "put", .int i,opt (TR.QR p w.aim),oN (TR.Qs S { w with O1:=TR.QR p w.aim } i (TR.QH p w.aim x)).1],hp')/\At hp' n k a f q (TR.Qs S { w with O1:=TR.QR p w.aim } i (TR.QH p w.aim x)).2.1 (TR.Qs S { w with O1:=TR.QR p w.aim } i (TR.QH p w.aim x)).2.2/\Fr U hp' n k a f q:=by
 obtain ⟨hp1,e1,A1,F1⟩:=VX (env:=[.val (.ref a),.val (.int i),.val (pgD p),.un]) A D rfl rfl (by lia) h2
 obtain ⟨hp2,e2,A2,F2⟩:=UX A1 D hi (TR.QH p w.aim x) h3 h4 hl
 refine ⟨hp2,?_,A2,F1.trans F2⟩
 refine QI (env:=[.val (.ref a),.val (.int i),.val (pgD p),.val (oN (TR.Qs S { w with O1:=TR.QR p w.aim } i (TR.QH p w.aim x)).1)]) ?_
 refine (Qk e1).trans ?_
 have dx:ixG (Zy w.O0) (.int 2) hp1=some (.int x,hp1):=by rw [hd];exact JZ (i:=2) rfl hp1
 refine (Qk (Q0 (Q5 (Qf rfl) A1.h3 (Qc3 ..) (Z2 (Qf rfl) (Q4 (Ji (Qf rfl) (Q8 (Qf rfl) A1.h3 (Yq ..)) (Ql (Q8 (Qf rfl) A1.h3 (qT ..)) rfl dx)) rfl (Zg (QdZ p w.aim x (by lia) (by lia)) hp1))) rfl e2))).trans ?_
 refine QM (JL (Gh rfl (Qf rfl) (Q8 (Qf rfl) A2.h3 ((YR ..).trans ?_)) (Qf rfl)) (by simp))
 rw [K4]
theorem Ki (A:At U n k a f q S w) (D:Dif n k a f q) (hi:i < S.pg.length) (h1:p.ks.length<=100) (h2:p.ps.length=p.ks.length):
    ∃ hp',XV [.ref a,.int i,pgD p] U=some (.tup [.str "cut", .int i,opt (TR.QR p w.aim)],hp')/\At hp' n k a f q (if (TR.QR p w.aim).isSome=true then { S with pg:=S.pg.set i (TR.without p w.aim),wr:=S.wr+1 } else S) { w with O1:=TR.QR p w.aim,O7:=true }/\Fr U hp' n k a f q:=by
  obtain ⟨hp1,e1,A1,F1⟩:=VX (env:=[.val (.ref a),.val (.int i),.val (pgD p)]) A D rfl rfl h1 h2
  have t:∀ b:Bool,(TR.QR p w.aim).isSome=b->eB (Qj Ud (QF "Walk" "worth" (Qc 0)) (eC .non)) [.val (.ref a),.val (.int i),.val (pgD p)] hp1=some (b,hp1):=fun b hb=>QV (Ql (Q8 (Qf rfl) A1.h3 (YR ..)) rfl (by rw [uE,hb];rfl))
  cases hs:(TR.QR p w.aim).isSome with
  | true =>
    rw [C9 rfl]
    have wr:=VY (d:=pgD (TR.without p w.aim)) (i:=i) A1.h1 A1.h2 D.nk (by simpa using hi)
    rw [map_set] at wr
    obtain ⟨A2,F2⟩:=A1.shelf D { S with pg:=S.pg.set i (TR.without p w.aim),wr:=S.wr+1 } rfl
    obtain ⟨A3,F3⟩:=A2.walk D { w with O1:=TR.QR p w.aim,O7:=true } rfl rfl
    refine ⟨_,?_,A3,F1.trans (F2.trans F3)⟩
    refine QI (env:=[.val (.ref a),.val (.int i),.val (pgD p)]) ?_
    refine (Qk e1).trans ?_
    refine (Qk ((Zo (t true hs)).trans (JV (Q5 (Xb A1 rfl) A1.h1 (qR ..) (Z2 (Qf rfl) (Q4 (Z2 (Qf rfl) (Q8 (Qf rfl) A1.h3 (Yq ..))) rfl (Zg (uH p w.aim (by lia) (by lia)) hp1))) rfl wr)))).trans ?_
    refine (Qk (Jk (v:=.bl true) rfl (Qf rfl) A2.h3 wl)).trans ?_
    exact QM (JL (Ji rfl (Qf rfl) (Q8 (Qf rfl) A3.h3 (YR ..))) (by simp))
  | false =>
    rw [C8 (by simp)]
    obtain ⟨A3,F3⟩:=A1.walk D { w with O1:=TR.QR p w.aim,O7:=true } rfl rfl
    refine ⟨_,?_,A3,F1.trans F3⟩
    refine QI (env:=[.val (.ref a),.val (.int i),.val (pgD p)]) ?_
    refine (Qk e1).trans ?_
    refine (Qk ((QN (t false hs)).trans QP)).trans ?_
    refine (Qk (Jk (v:=.bl true) rfl (Qf rfl) A1.h3 wl)).trans ?_
    exact QM (JL (Ji rfl (Qf rfl) (Q8 (Qf rfl) A3.h3 (YR ..))) (by simp))
theorem Qew (A:At U n k a f q S w) (D:Dif n k a f q) (hi:i < S.pg.length) {c:Nat} (hw:w.Oz=some c) (h1:p.ks.length<=90) (h2:p.ps.length<=100) (h3:S.O2 < (TR.Q2 p w.aim c).ks.length->3<=(TR.Q2 p w.aim c).ks.length) (h4:(TR.Q2 p w.aim c).ks.length<=100) (hl:S.pg.length < 90000):
  ∃ hp',Xi [.ref a,.int i,pgD p] U=some (.tup [.str "told", .int i,oN (TR.Qs S w i (TR.Q2 p w.aim c)).1],hp')/\At hp' n k a f q (TR.Qs S w i (TR.Q2 p w.aim c)).2.1 (TR.Qs S w i (TR.Q2 p w.aim c)).2.2/\Fr U hp' n k a f q:=by
 obtain ⟨hp2,e2,A2,F2⟩:=UX A D hi (TR.Q2 p w.aim c) h3 h4 hl
 refine ⟨hp2,?_,A2,F2⟩
 refine QI (env:=[.val (.ref a),.val (.int i),.val (pgD p),.val (oN (TR.Qs S w i (TR.Q2 p w.aim c)).1)]) ?_
 have nw:QF "Walk" "new_page" (Qc 0) [.val (.ref a),.val (.int i),.val (pgD p),.un] U=some (.int c,U):=Q8 (Qf rfl) A.h3 ((Gc ..).trans (by rw [hw];rfl))
 refine (Qk (Q0 (Q5 (Qf rfl) A.h3 (Qc3 ..) (Z2 (Qf rfl) (Q4 (Ji (Qf rfl) (Q8 (Qf rfl) A.h3 (Yq ..)) nw) rfl (Zg (uG p w.aim c (by lia) (by lia)) U))) rfl e2))).trans ?_
 exact QM (JL (Ji rfl (Qf rfl) (Qf rfl)) (by simp))
end
section
variable {U:Hs} {n k a f q:Nat} {S:TR.Sh} {w:TR.Wk} {i:Nat} {p:TR.Pg}
theorem Qce (A:At U n k a f q S w) {l h:Int} (hl:p.ks.length<=100):
  Jc [.val (.ref a),.val (.int i),.val (pgD p),.val (.int l),.val (.int h),.un] U=some (.ref U.length,U++[OV.lst (prD (TR.QT p l h))]):=by
 have e0:QbL (Qj ixG (Qc 2) (eC (.int 1))) (Qj ixG (Qc 2) (eC (.int 2))) [.val (.ref a),.val (.int i),.val (pgD p),.val (.int l),.val (.int h),.un] U=some (prD (p.ks.zip p.ps),U):=by
  have x1:Qj ixG (Qc 2) (eC (.int 1)) [.val (.ref a),.val (.int i),.val (pgD p),.val (.int l),.val (.int h),.un] U=some (.tup (p.ks.map .int),U):=Ql (Qf rfl) rfl (Qf0 p U)
  have x2:Qj ixG (Qc 2) (eC (.int 2)) [.val (.ref a),.val (.int i),.val (pgD p),.val (.int l),.val (.int h),.un] U=some (.tup (p.ps.map .int),U):=Ql (Qf rfl) rfl (Qf1 p U)
  unfold QbL
  rw [Qh x1]
  show (gc (.tup (p.ks.map .int)) >>= _) U=_
  rw [show gc (.tup (p.ks.map .int))=pure (p.ks.map .int) from rfl,Eg,Qh x2,show gc (.tup (p.ps.map .int))=pure (p.ps.map .int) from rfl,Eg,kX];rfl
 have e1:xOf (QbL (Qj ixG (Qc 2) (eC (.int 1))) (Qj ixG (Qc 2) (eC (.int 2)))) [.val (.ref a),.val (.int i),.val (pgD p),.val (.int l),.val (.int h),.un] U=some (nxD (prD (p.ks.zip p.ps)),U):=by
  unfold xOf;rw [Qh e0];rfl
 have hz:(p.ks.zip p.ps).length<=100:=by rw [List.length_zip];lia
 have e2:=Qak (U:=U) (t:=fun d=>eB (JK leD ltD (Qc 1) (Qj ixG (Qc 0) (eC (.int 0))) (Qc 2)) (cE [3,4] [.val (.ref a),.val (.int i),.val (pgD p),.val (.int l),.val (.int h),.un] d)) (f:=fun d=>Qc 0 (cE [3,4] [.val (.ref a),.val (.int i),.val (pgD p),.val (.int l),.val (.int h),.un] d)) (p:=Qd5 l h) (prD (p.ks.zip p.ps)) (fun d hd=>by
   obtain ⟨z,_,rfl⟩:=C6.mp hd
   have c:cE [3,4] [.val (.ref a),.val (.int i),.val (pgD p),.val (.int l),.val (.int h),.un] (.tup [.int z.1,.int z.2])=[.val (.tup [.int z.1,.int z.2]),.val (.int l),.val (.int h)]:=rfl
   show eB (JK leD ltD (Qc 1) (Qj ixG (Qc 0) (eC (.int 0))) (Qc 2)) (cE [3,4] [.val (.ref a),.val (.int i),.val (pgD p),.val (.int l),.val (.int h),.un] (.tup [.int z.1,.int z.2])) U=_
   rw [c]
   have x1:Qj ixG (Qc 0) (eC (.int 0)) [.val (.tup [.int z.1,.int z.2]),.val (.int l),.val (.int h)] U=some (.int z.1,U):=Ql (Qf rfl) rfl (JZ (i:=0) rfl U)
   by_cases q1:l<=z.1
   ·by_cases q2:z.1 < h<;>simp [eB,JK,ZF,run_pure,x1,Qc,ZZ,Zw,asB,Qd5,q1,q2]
   ·simp [eB,JK,ZF,run_pure,x1,Qc,ZZ,Zw,asB,Qd5,q1])
  (fun d hd=>rfl) (by rw [jI];lia)
 rw [uK] at e2
 unfold Jc J7
 rw [Qh e1,Qh (show JP _ _ _ lim 0 U=_ from e2)]
 rfl
theorem Uh (A:At U n k a f q S w) (D:Dif n k a f q) {l h:Int} (hd:w.O0=.stretch l h) (h1:p.ks.length<=100) (hw:w.O5.length<=50000) (hlk:(p.hi=none/\p.sd=none)∨∃ x s,p.hi=some x/\p.sd=some s):
  ∃ hp',J5 [.ref a,.int i,pgD p] U=some (Vr (TR.ZO S w i p).1,hp')/\At hp' n k a f q (TR.ZO S w i p).2.1 (TR.ZO S w i p).2.2/\Fr U hp' n k a f q:=by
 have d1:ixG (Zy w.O0) (.int 1) U=some (.int l,U):=by rw [hd];exact JZ (i:=1) rfl U
 have d2:ixG (Zy w.O0) (.int 2) U=some (.int h,U):=by rw [hd];exact JZ (i:=2) rfl U
 obtain ⟨A1,F1⟩:=A.more (OV.lst (prD (TR.QT p l h)))
 obtain ⟨A2,F2⟩:=A1.pair D { w with O5:=w.O5++TR.QT p l h } rfl rfl
 have pl:(TR.QT p l h).length<=100:=by
  unfold TR.QT
  refine Bj (Cb _ _) ?_
  rw [List.length_zip];lia
 have gl:(U++[OV.lst (prD (TR.QT p l h))])[U.length]?=some (.lst (prD (TR.QT p l h))):=by simp
 have ql:q≠U.length:=fun e=>by
  have:=(Ac.mp A.h5).1;lia
 have ex:=Qas (o:=QF "Walk" "pairs" (Qc 0)) (fa:=Qd (Qc 5) Qo) (env:=[.val (.ref a),.val (.int i),.val (pgD p),.val (.int l),.val (.int h),.val (.ref U.length)]) (Q8 (Qf rfl) A1.h3 (U5 ..)) A1.h5 (JN (Qf rfl)) gl (by rw [jI,jI];lia)
 rw [kD] at ex
 have tw:∀ {hpx:Hs} {env:En},hpx[U.length]?=some (.lst (prD (TR.QT p l h)))->env[5]?=some (.val (.ref U.length))->ZT Qa5 (Qd (Qc 5) Qo) env hpx=some (.tup (prD (TR.QT p l h)),hpx):=fun {hpx env} hx he=>by
  unfold ZT
  rw [Qh (JN (Qf he))]
  show (Ja U.length >>= _) hpx=_
  rw [Qh (ZX hx)];rfl
 have gl2:((U++[OV.lst (prD (TR.QT p l h))]).set q (OV.lst (prD (w.O5++TR.QT p l h))))[U.length]?=some (.lst (prD (TR.QT p l h))):=gs ql gl
 have al:a≠U.length:=fun e=>by
  have:=(Ac.mp A.h3).1;lia
 have start:∀ (g:DSx) (r:(Fl×En)×Hs),g [.val (.ref a),.val (.int i),.val (pgD p),.val (.int l),.val (.int h),.val (.ref U.length)] ((U++[OV.lst (prD (TR.QT p l h))]).set q (OV.lst (prD (w.O5++TR.QT p l h))))=some r ->
   Qr (QJ 3 (Qj ixG (QF "Walk" "deed" (Qc 0)) (eC (.int 1)))) (Qr (QJ 4 (Qj ixG (QF "Walk" "deed" (Qc 0)) (eC (.int 2)))) (Qr (QJ 5 Jc) (Qr (Z7 (Xn "list" jC (QF "Walk" "pairs" (Qc 0)) (Qd (Qc 5) Qo))) g))) [.val (.ref a),.val (.int i),.val (pgD p),.un,.un,.un] U=some r:=fun g r hg=>by
  refine (Qk (Q0 (Ql (Q8 (Qf rfl) A.h3 (qT ..)) rfl d1))).trans ?_
  refine (Qk (Q0 (Ql (Q8 (Qf rfl) A.h3 (qT ..)) rfl d2))).trans ?_
  refine (Qk (Q0 (Qce A h1))).trans ?_
  exact (Qk (JV ex)).trans hg
 have fin:∃ hp',Qr (Zf "Walk" "ended" (Qc 0) (eC (.bl true))) (QG (Zz (Qd (eC (.str "read")) (Qd (Qc 1) (Qd (ZT Qa5 (Qd (Qc 5) Qo)) (Qd (eC .non) (Qd (eC .non) Qo))))))) [.val (.ref a),.val (.int i),.val (pgD p),.val (.int l),.val (.int h),.val (.ref U.length)] ((U++[OV.lst (prD (TR.QT p l h))]).set q (OV.lst (prD (w.O5++TR.QT p l h))))=some ((.rt (Vr (.read i (TR.QT p l h) none)),[.val (.ref a),.val (.int i),.val (pgD p),.val (.int l),.val (.int h),.val (.ref U.length)]),hp')/\At hp' n k a f q S { w with O5:=w.O5++TR.QT p l h,O7:=true }/\Fr U hp' n k a f q:=by
  obtain ⟨A3,F3⟩:=A2.walk D { w with O5:=w.O5++TR.QT p l h,O7:=true } rfl rfl
  refine ⟨_,?_,A3,F1.trans (F2.trans F3)⟩
  refine (Qk (Jk (v:=.bl true) rfl (Qf rfl) A2.h3 wl)).trans ?_
  exact QM (JL (QeE rfl (Qf rfl) (tw (gs al gl2) rfl) rfl rfl) (by simp))
 have hiE:∀ hpx:Hs,Qj ixG (Qc 2) (eC (.int 3)) [.val (.ref a),.val (.int i),.val (pgD p),.val (.int l),.val (.int h),.val (.ref U.length)] hpx=some (opt p.hi,hpx):=fun hpx=>Ql (Qf rfl) rfl (QfZ p hpx)
 have sdE:∀ hpx:Hs,Qj ixG (Qc 2) (eC (.int 4)) [.val (.ref a),.val (.int i),.val (pgD p),.val (.int l),.val (.int h),.val (.ref U.length)] hpx=some (oN p.sd,hpx):=fun hpx=>Ql (Qf rfl) rfl (Qcm p hpx)
 rcases hlk with ⟨e1,e2⟩ | ⟨x,s,e1,e2⟩
 ·rw [QaC hd e1]
  obtain ⟨hp',ef,Af,Ff⟩:=fin
  refine ⟨hp',QI (start _ _ (Q3 ((Zo (hp1:=_) ?_).trans ef))),Af,Ff⟩
  exact Qbz (QV (Ql (hiE _) rfl (by rw [xy,e1];rfl)))
 ·rw [QbT hd e1 e2]
  by_cases hx:h<=x
  ·rw [C9 hx]
   obtain ⟨hp',ef,Af,Ff⟩:=fin
   refine ⟨hp',QI (start _ _ (Q3 ((Zo (hp1:=_) ?_).trans ef))),Af,Ff⟩
   exact (Ye (QV (b:=false) (Ql (hiE _) rfl (by rw [xy,e1];rfl)))).trans (QV (Ql (hiE _) (Qf rfl) (by rw [e1];show geD (.int x) (.int h) _=_;rw [Z5,Ed hx];rfl)))
  ·rw [C8 hx]
   obtain ⟨A3,F3⟩:=A2.walk D { w with O5:=w.O5++TR.QT p l h,aim:=x } rfl rfl
   obtain ⟨A4,F4⟩:=A3.walk D { w with O5:=w.O5++TR.QT p l h,aim:=x,O6:=some s } rfl rfl
   refine ⟨_,QI (env:=[.val (.ref a),.val (.int i),.val (pgD p),.val (.int l),.val (.int h),.val (.ref U.length)]) (start _ _ ?_),A4,F1.trans (F2.trans (F3.trans F4))⟩
   refine (Qk ((QN ((Ye (QV (b:=false) (Ql (hiE _) rfl (by rw [xy,e1];rfl)))).trans (QV (b:=false) (Ql (hiE _) (Qf rfl) (by rw [e1];show geD (.int x) (.int h) _=_;rw [Z5,Ef hx];rfl))))).trans QP)).trans ?_
   refine (Qk (Jk (v:=.int x) ((hiE _).trans (by rw [e1];rfl)) (Qf rfl) A2.h3 wl)).trans ?_
   refine (Qk (Jk (v:=.int s) ((sdE _).trans (by rw [e2];rfl)) (Qf rfl) A3.h3 wl)).trans ?_
   exact QM (JL (QeE rfl (Qf rfl) (tw (gs al (gs al gl2)) rfl) (Q8 (Qf rfl) A4.h3 (YQ ..)) (Q8 (Qf rfl) A4.h3 (Yq ..))) (by simp))
end
section
variable {U:Hs} {n k a f q:Nat} {S:TR.Sh} {w:TR.Wk} {i:Nat} {p:TR.Pg}
theorem X9:PyData.strOk "find" = true:=by decide +kernel
theorem Xd:PyData.strOk "put" = true:=by decide +kernel
theorem Xc:PyData.strOk "cut" = true:=by decide +kernel
theorem Y7:PyData.strOk "stretch" = true:=by decide +kernel
def yM:TR.Deed->Str
 | .find _ => "find"
 | .put _ _ => "put"
 | .cut _ => "cut"
 | .stretch _ _ => "stretch"
theorem Qao (d:TR.Deed) (U:Hs):ixG (Zy d) (.int 0) U=some (.str (yM d),U):=by cases d<;>exact JZ (i:=0) rfl U
theorem v8 (A:At U n k a f q S w) (D:Dif n k a f q) (hi:i < S.pg.length) (h1:p.ks.length<=90) (h2:p.ps.length=p.ks.length) (h3:∀ x,S.O2 < (TR.QH p w.aim x).ks.length->3<=(TR.QH p w.aim x).ks.length) (h4:∀ x,(TR.QH p w.aim x).ks.length<=100) (hl:S.pg.length < 90000) (hw:w.O5.length<=50000) (hlk:(p.hi=none/\p.sd=none)∨∃ x s,p.hi=some x/\p.sd=some s):
    ∃ hp',XW [.ref a,.int i,pgD p] U=some (Vr (TR.ZO S w i p).1,hp')/\At hp' n k a f q (TR.ZO S w i p).2.1 (TR.ZO S w i p).2.2/\Fr U hp' n k a f q:=by
  have s0:QJ 3 (Qj ixG (QF "Walk" "deed" (Qc 0)) (eC (.int 0))) [.val (.ref a),.val (.int i),.val (pgD p),.un] U=some ((.nx,[.val (.ref a),.val (.int i),.val (pgD p),.val (.str (yM w.O0))]),U):=Q0 (Ql (Q8 (Qf rfl) A.h3 (qT ..)) rfl (Qao w.O0 U))
  have tst:∀ (x:Str) (b:Bool),PyData.strOk (yM w.O0)=true->PyData.strOk x=true->(yM w.O0==x)=b->eB (Qj eqG (Qc 3) (eC (.str x))) [.val (.ref a),.val (.int i),.val (pgD p),.val (.str (yM w.O0))] U=some (b,U):=fun x b o1 o2 e=>QV (Ql (Qf rfl) rfl (eqS U o1 o2 e))
  have ag:∀ (nm:Str) (fn:Er) (d:DV) (hp':Hs),List.lookup nm (wkF n f q (Zy w.O0) (.int w.aim) (.int w.O4) (oN w.O6) (oN w.Oz) (opt w.O1) (.bl w.O7))=none->fn [.ref a,.int i,pgD p] U=some (d,hp')->QG (QD "Walk" nm 3 fn (Qc 0) (Qd (Qc 1) (Qd (Qc 2) Qo))) [.val (.ref a),.val (.int i),.val (pgD p),.val (.str (yM w.O0))] U=some ((.rt d,[.val (.ref a),.val (.int i),.val (pgD p),.val (.str (yM w.O0))]),hp'):=fun nm fn d hp' e1 e2=>QM (Q5 (Qf rfl) A.h3 e1 (Z2 (Qf rfl) (Qf rfl)) rfl e2)
  cases hd:w.O0 with
  | find y =>
    obtain ⟨hp',e,A',F'⟩:=Qdr (i:=i) A D (by lia) h2
    refine ⟨hp',?_,by rw [Vc hd];exact A',F'⟩
    rw [Vc hd]
    have t:=tst "find" true (by rw [hd];exact X9) X9 (by rw [hd];show (("find" : Str)==("find" : Str))=true;decide)
    exact QI ((Qk s0).trans (Q3 ((Zo t).trans (ag _ _ _ _ (Qgt ..) e))))
  | put y x =>
    obtain ⟨hp',e,A',F'⟩:=Qge (i:=i) A D hi hd h1 h2 (h3 x) (h4 x) hl
    refine ⟨hp',?_,by rw [UK hd];exact A',F'⟩
    rw [UK hd]
    have t1:=tst "find" false (by rw [hd];exact Xd) X9 (by rw [hd];show (("put" : Str)==("find" : Str))=false;decide)
    have t2:=tst "put" true (by rw [hd];exact Xd) Xd (by rw [hd];show (("put" : Str)==("put" : Str))=true;decide)
    exact QI ((Qk s0).trans ((Qk ((QN t1).trans QP)).trans (Q3 ((Zo t2).trans (ag _ _ _ _ (Qgu ..) e)))))
  | cut y =>
    obtain ⟨hp',e,A',F'⟩:=Ki (i:=i) A D hi (by lia) h2
    refine ⟨hp',?_,by rw [UJ hd];exact A',F'⟩
    rw [UJ hd]
    have t1:=tst "find" false (by rw [hd];exact Xc) X9 (by rw [hd];show (("cut" : Str)==("find" : Str))=false;decide)
    have t2:=tst "put" false (by rw [hd];exact Xc) Xd (by rw [hd];show (("cut" : Str)==("put" : Str))=false;decide)
    have t3:=tst "cut" true (by rw [hd];exact Xc) Xc (by rw [hd];show (("cut" : Str)==("cut" : Str))=true;decide)
    exact QI ((Qk s0).trans ((Qk ((QN t1).trans QP)).trans ((Qk ((QN t2).trans QP)).trans (Q3 ((Zo t3).trans (ag _ _ _ _ (Qgv ..) e))))))
  | stretch l h =>
    obtain ⟨hp',e,A',F'⟩:=Uh (i:=i) A D hd (by lia) hw hlk
    refine ⟨hp',?_,A',F'⟩
    have t1:=tst "find" false (by rw [hd];exact Y7) X9 (by rw [hd];show (("stretch" : Str)==("find" : Str))=false;decide)
    have t2:=tst "put" false (by rw [hd];exact Y7) Xd (by rw [hd];show (("stretch" : Str)==("put" : Str))=false;decide)
    have t3:=tst "cut" false (by rw [hd];exact Y7) Xc (by rw [hd];show (("stretch" : Str)==("cut" : Str))=false;decide)
    exact QI ((Qk s0).trans ((Qk ((QN t1).trans QP)).trans ((Qk ((QN t2).trans QP)).trans ((Qk ((QN t3).trans QP)).trans (ag _ _ _ _ (Qgw ..) e)))))
theorem kP {r:TR.Row} (T:TR.Tree S bg) (W:TR.WOk S bg w) (hr:S.O2<=50) (A:At U n k a f q S w) (D:Dif n k a f q) (hl:S.pg.length < 90000) (hf:w.O3.length < 5000) (hw:w.O5.length<=50000) (hs:TR.Jg S w=some (r,S',w')):
    ∃ hp',Xx [.ref a] U=some (Vr r,hp')/\At hp' n k a f q S' w'/\Fr U hp' n k a f q:=by
  have env0:([DV.ref a].map Sl.val++List.replicate (3 - [DV.ref a].length) Sl.un)=[.val (.ref a),.un,.un]:=rfl
  cases he:w.O7 with
  | true =>
    unfold TR.Jg at hs
    rw [C9 he] at hs
    cases hs
    refine ⟨U,?_,A,Fr.refl⟩
    exact QI (env:=[.val (.ref a),.un,.un]) (Q3 ((Zo (QV (Q8 (Qf rfl) A.h3 ((YO ..).trans (by rw [he]))))).trans (QM (d:=.non) rfl)))
  | false =>
    obtain ⟨m,hm0,hpl⟩:∃ m,w.O6.getD S.top=m/\(w.O6=some m∨(w.O6=none/\m=S.top)):=by
      cases e:w.O6 with
      | none=>exact ⟨S.top,rfl,.inr ⟨rfl,rfl⟩⟩
      | some m=>exact ⟨m,rfl,.inl rfl⟩
    unfold TR.Jg at hs
    rw [C8 (by rw [he];simp),hm0] at hs
    cases hg:S.pg[m]? with
    | none=>rw [hg] at hs;cases hs
    | some p =>
      rw [hg] at hs
      simp only at hs
      have ok:=T.page m p hg
      have hml:m < S.pg.length:=(Ac.mp hg).1
      have hps:p.ps.length<=100:=by have a1:=ok.parts;have a2:=ok.few;split at a1<;>lia
      have hks:p.ks.length<=90:=by have a2:=ok.few;lia
      have r2:=T.room2
      have st0:sIf (eB (QF "Walk" "ended" (Qc 0))) (QG (eC .non)) Zc [.val (.ref a),.un,.un] U=some ((.nx,[.val (.ref a),.un,.un]),U):=(QN (QV (Q8 (Qf rfl) A.h3 ((YO ..).trans (by rw [he]))))).trans QP
      have num:eIf (eB (Qj isD (QF "Walk" "place" (Qc 0)) (eC .non))) (QD "Shelf" "root" 1 JB (QF "Walk" "shelf" (Qc 0)) Qo) (QF "Walk" "place" (Qc 0)) [.val (.ref a),.un,.un] U=some (.int m,U):=by
        rcases hpl with e | ⟨e,rfl⟩
        . exact (QgJ (QV (b:=false) (Ql (Q8 (Qf rfl) A.h3 (YQ ..)) rfl (by rw [Vk,e];rfl)))).trans (Q8 (Qf rfl) A.h3 ((YQ ..).trans (by rw [e];rfl)))
        . exact (QgK (QV (Ql (Q8 (Qf rfl) A.h3 (YQ ..)) rfl (by rw [Vk,e];rfl)))).trans (Q5 (Xb A rfl) A.h1 (uX ..) Xg rfl (Qej A.h1))
      have rd:=Qeg (i:=m) (d:=pgD p) A.h1 A.h2 D.nk (by rw [Bu,hg];rfl)
      obtain ⟨A1,F1⟩:=A.count D { S with rd:=S.rd+1 } rfl rfl
      have st1:=Q0 (i:=1) num
      have st2:QJ 2 (QD "Shelf" "read" 2 JA (QF "Walk" "shelf" (Qc 0)) (Qd (Qc 1) Qo)) [.val (.ref a),.val (.int m),.un] U=some ((.nx,[.val (.ref a),.val (.int m),.val (pgD p)]),(U.set n (.ins "Shelf" (shF S.O2 k S.top (S.rd+1) S.wr)))):=Q0 (Q5 (Xb A rfl) A.h1 (uW ..) (JN (Qf rfl)) rfl rd)
      have lvE:∀ hpx:Hs,Qj ixG (Qc 2) (eC (.int 0)) [.val (.ref a),.val (.int m),.val (pgD p)] hpx=some (.int p.lv,hpx):=fun hpx=>Ql (Qf rfl) rfl (Qcl p hpx)
      have plE:eB (Qj isD (QF "Walk" "place" (Qc 0)) (eC .non)) [.val (.ref a),.val (.int m),.val (pgD p)] (U.set n (.ins "Shelf" (shF S.O2 k S.top (S.rd+1) S.wr)))=some (w.O6.isNone,(U.set n (.ins "Shelf" (shF S.O2 k S.top (S.rd+1) S.wr)))):=QV (Ql (Q8 (Qf rfl) A1.h3 (YQ ..)) rfl (by rw [Vk];rfl))
      have glE:QF "Walk" "goal" (Qc 0) [.val (.ref a),.val (.int m),.val (pgD p)] (U.set n (.ins "Shelf" (shF S.O2 k S.top (S.rd+1) S.wr)))=some (.int w.O4,(U.set n (.ins "Shelf" (shF S.O2 k S.top (S.rd+1) S.wr)))):=Q8 (Qf rfl) A1.h3 (vJ ..)
      have t1:Xm (eB (Qj isD (QF "Walk" "place" (Qc 0)) (eC .non))) (eB (Qj ltD (Qj ixG (Qc 2) (eC (.int 0))) (QF "Walk" "goal" (Qc 0)))) [.val (.ref a),.val (.int m),.val (pgD p)] (U.set n (.ins "Shelf" (shF S.O2 k S.top (S.rd+1) S.wr)))=some (decide (w.O6=none/\p.lv < w.O4),(U.set n (.ins "Shelf" (shF S.O2 k S.top (S.rd+1) S.wr)))):=by
        cases hp0:w.O6 with
        | none =>
          rw [hp0] at plE
          refine (ub plE).trans (QV (Ql (lvE _) glE ?_))
          rw [Zw]
          show some (DV.bl _,_)=_
          congr 3
          by_cases z:p.lv < w.O4
          . rw [Ed (show (p.lv:Int) < w.O4 by lia),Ed (show (none:Option Nat)=none/\p.lv < w.O4 from ⟨rfl,z⟩)]
          . rw [Ef (show ¬ (p.lv:Int) < w.O4 by lia),Ef (fun h=>z h.2)]
        | some z =>
          rw [hp0] at plE
          rw [Ef (fun h=>by cases h.1)]
          exact yR plE
      have go:∀ (g:DSx) (x:(Fl×En)×Hs),g [.val (.ref a),.val (.int m),.val (pgD p)] (U.set n (.ins "Shelf" (shF S.O2 k S.top (S.rd+1) S.wr)))=some x->Qr (sIf (eB (QF "Walk" "ended" (Qc 0))) (QG (eC .non)) Zc) (Qr (QJ 1 (eIf (eB (Qj isD (QF "Walk" "place" (Qc 0)) (eC .non))) (QD "Shelf" "root" 1 JB (QF "Walk" "shelf" (Qc 0)) Qo) (QF "Walk" "place" (Qc 0)))) (Qr (QJ 2 (QD "Shelf" "read" 2 JA (QF "Walk" "shelf" (Qc 0)) (Qd (Qc 1) Qo))) g)) [.val (.ref a),.un,.un] U=some x:=fun g x hg=>(Qk st0).trans ((Qk st1).trans ((Qk st2).trans hg))
      by_cases hr1:w.O6=none/\p.lv < w.O4
      . rw [C9 hr1] at hs
        rw [Ed hr1] at t1
        cases hn:w.Oz with
        | none=>rw [hn] at hs;cases hs
        | some c =>
          rw [hn] at hs
          simp only [Option.some.injEq,Bp] at hs
          obtain ⟨rfl,rfl,rfl⟩:=hs
          have htop:m=S.top:=by
            rcases hpl with e | ⟨_,e⟩
            . rw [hr1.1] at e;cases e
            . exact e
          subst htop
          obtain ⟨c',z,b1,b2,_⟩:=W.tell (by lia)
          rw [hn] at b1;cases b1
          obtain ⟨hp',e,A',F'⟩:=Uf (i:=S.top) A1 D hn (Ac.mp b2).1 hg hl
          rw [hn] at A'
          refine ⟨hp',?_,A',F1.trans F'⟩
          exact QI (go _ _ (Q3 ((Zo t1).trans (QM (Q5 (Qf rfl) A1.h3 (Qgs ..) (JN (Qf rfl)) rfl e)))))
      . rw [C8 hr1] at hs
        rw [Ef hr1] at t1
        have t2:eB (Qt 2 Yy (Qd (Qc 2) (Qd (QF "Walk" "aim" (Qc 0)) Qo))) [.val (.ref a),.val (.int m),.val (pgD p)] (U.set n (.ins "Shelf" (shF S.O2 k S.top (S.rd+1) S.wr)))=some (TR.Zh p w.aim,(U.set n (.ins "Shelf" (shF S.O2 k S.top (S.rd+1) S.wr)))):=QV (Q4 (Z2 (Qf rfl) (Q8 (Qf rfl) A1.h3 (Yq ..))) rfl (Zg (QaM p w.aim) _))
        have go2:∀ (g:DSx) (x:(Fl×En)×Hs),g [.val (.ref a),.val (.int m),.val (pgD p)] (U.set n (.ins "Shelf" (shF S.O2 k S.top (S.rd+1) S.wr)))=some x->Qr (sIf (Xm (eB (Qj isD (QF "Walk" "place" (Qc 0)) (eC .non))) (eB (Qj ltD (Qj ixG (Qc 2) (eC (.int 0))) (QF "Walk" "goal" (Qc 0))))) (QG (QD "Walk" "raise_root_over" 2 ZK (Qc 0) (Qd (Qc 1) Qo))) Zc) g [.val (.ref a),.val (.int m),.val (pgD p)] (U.set n (.ins "Shelf" (shF S.O2 k S.top (S.rd+1) S.wr)))=some x:=fun g x hg=>(Qk ((QN t1).trans QP)).trans hg
        cases hb:TR.Zh p w.aim with
        | true =>
          rw [hb,C9 rfl] at hs
          rw [hb] at t2
          cases hsd:p.sd with
          | none=>rw [hsd] at hs;cases hs
          | some s =>
            rw [hsd] at hs
            simp only [Option.some.injEq,Bp] at hs
            obtain ⟨rfl,rfl,rfl⟩:=hs
            obtain ⟨hp',e,A',F'⟩:=GQ (i:=m) A1 D "side" (some s)
            refine ⟨hp',?_,A',F1.trans F'⟩
            refine QI (go _ _ (go2 _ _ (Q3 ((Zo t2).trans (QM (Q5 (Qf rfl) A1.h3 (Qc2 ..) (Ji rfl (Qf rfl) (Ql (Qf rfl) rfl (Qcm p _))) rfl ?_))))))
            rw [hsd];exact e
        | false =>
          rw [hb,C8 (by simp)] at hs
          rw [hb] at t2
          have t3:eB (Qj gtD (Qj ixG (Qc 2) (eC (.int 0))) (QF "Walk" "goal" (Qc 0))) [.val (.ref a),.val (.int m),.val (pgD p)] (U.set n (.ins "Shelf" (shF S.O2 k S.top (S.rd+1) S.wr)))=some (decide (w.O4 < p.lv),(U.set n (.ins "Shelf" (shF S.O2 k S.top (S.rd+1) S.wr)))):=QV (Ql (lvE _) glE (by
            rw [ZY]
            show some (DV.bl _,_)=_
            congr 3
            by_cases z:w.O4 < p.lv
            . rw [Ed z,Ed (by lia)]
            . rw [Ef z,Ef (by lia)]))
          by_cases hd:w.O4 < p.lv
          . rw [C9 hd] at hs
            rw [Ed hd] at t3
            cases hc:p.ps[TR.cLe p.ks w.aim]? with
            | none=>rw [hc] at hs;cases hs
            | some c =>
              rw [hc] at hs
              simp only [Option.some.injEq,Bp] at hs
              obtain ⟨rfl,rfl,rfl⟩:=hs
              have pl:=ok.parts
              rw [C8 (by lia)] at pl
              obtain ⟨c',z,b1,b2,_⟩:=T.kid m p hg (by lia) _ _ hc
              subst b1
              obtain ⟨A2,F2⟩:=A1.fork D { w with O3:=TR.zS w.O3 p.lv m } rfl rfl
              obtain ⟨hp',e,A',F'⟩:=GQ (i:=m) A2 D "down" (some c')
              refine ⟨hp',?_,by rw [B7];exact A',F1.trans (F2.trans F')⟩
              have ke:=Qf2 p w.aim c' (by lia) pl hc
              have pt:Xe (Qc 1) (gSb (QF "Walk" "forks" (Qc 0)) (Qj ixG (Qc 2) (eC (.int 0)))) [.val (.ref a),.val (.int m),.val (pgD p)] (U.set n (.ins "Shelf" (shF S.O2 k S.top (S.rd+1) S.wr)))=some ((.nx,[.val (.ref a),.val (.int m),.val (pgD p)]),(U.set n (.ins "Shelf" (shF S.O2 k S.top (S.rd+1) S.wr))).set f (.dic (fkD (TR.zS w.O3 p.lv m)))):=Qgl (Qf rfl) (Q8 (Qf rfl) A1.h3 (U4 ..)) (lvE _) A1.h4 hf
              refine QI (go _ _ (go2 _ _ ((Qk ((QN t2).trans QP)).trans (Q3 ((Zo t3).trans ((Qk pt).trans (QM (Q5 (Qf rfl) A2.h3 (Qc2 ..) (Ji rfl (Qf rfl) (Q4 (Z2 (Qf rfl) (Q8 (Qf rfl) A2.h3 (Yq ..))) rfl (Zg ke _))) rfl ?_))))))))
              rw [show Vr (TR.Row.down m (c':Int).toNat)=.tup [.str "down", .int m,.int c'] from by rw [B7];rfl]
              exact e
          . rw [C8 hd] at hs
            rw [Ef hd] at t3
            have go3:∀ (g:DSx) (x:(Fl×En)×Hs),g [.val (.ref a),.val (.int m),.val (pgD p)] (U.set n (.ins "Shelf" (shF S.O2 k S.top (S.rd+1) S.wr)))=some x->Qr (sIf (eB (Qt 2 Yy (Qd (Qc 2) (Qd (QF "Walk" "aim" (Qc 0)) Qo)))) (QG (QD "Walk" "go_on" 4 JC (Qc 0) (Qd (eC (.str "side")) (Qd (Qc 1) (Qd (Qj ixG (Qc 2) (eC (.int 4))) Qo))))) Zc) (Qr (sIf (eB (Qj gtD (Qj ixG (Qc 2) (eC (.int 0))) (QF "Walk" "goal" (Qc 0)))) (Qr (Xe (Qc 1) (gSb (QF "Walk" "forks" (Qc 0)) (Qj ixG (Qc 2) (eC (.int 0))))) (QG (QD "Walk" "go_on" 4 JC (Qc 0) (Qd (eC (.str "down")) (Qd (Qc 1) (Qd (Qt 2 Yz (Qd (Qc 2) (Qd (QF "Walk" "aim" (Qc 0)) Qo))) Qo)))))) Zc) g) [.val (.ref a),.val (.int m),.val (pgD p)] (U.set n (.ins "Shelf" (shF S.O2 k S.top (S.rd+1) S.wr)))=some x:=fun g x hg=>(Qk ((QN t2).trans QP)).trans ((Qk ((QN t3).trans QP)).trans hg)
            have t4:eB (Qj gtD (QF "Walk" "goal" (Qc 0)) (eC (.int 0))) [.val (.ref a),.val (.int m),.val (pgD p)] (U.set n (.ins "Shelf" (shF S.O2 k S.top (S.rd+1) S.wr)))=some (decide (0 < w.O4),(U.set n (.ins "Shelf" (shF S.O2 k S.top (S.rd+1) S.wr)))):=QV (Ql glE rfl (by
              rw [ZY]
              show some (DV.bl _,_)=_
              congr 3
              by_cases z:0 < w.O4
              . rw [Ed z,Ed (by lia)]
              . rw [Ef z,Ef (by lia)]))
            have glv:w.O4<=p.lv:=by
              rcases hpl with e | ⟨e,_⟩
              . obtain ⟨p',b1,b2,_⟩:=W.at_ m e
                rw [hg] at b1;cases b1;exact b2
              . exact Cz fun h=>hr1 ⟨e,h⟩
            by_cases h0:0 < w.O4
            . rw [C9 h0] at hs
              rw [Ed h0] at t4
              cases hn:w.Oz with
              | none=>rw [hn] at hs;cases hs
              | some c =>
                rw [hn] at hs
                simp only [Option.some.injEq,Bp] at hs
                obtain ⟨rfl,rfl,rfl⟩:=hs
                have kl:=TR.x9 ok (k:=w.aim) (c:=c)
                obtain ⟨hp',e,A',F'⟩:=Qew (i:=m) (p:=p) A1 D hml hn hks hps (fun z=>by have:S.O2 < (TR.Q2 p w.aim c).ks.length:=z;lia) (by lia) hl
                refine ⟨hp',?_,A',F1.trans F'⟩
                exact QI (go _ _ (go2 _ _ (go3 _ _ (Q3 ((Zo t4).trans (QM (Q5 (Qf rfl) A1.h3 (Qgr ..) (Z2 (Qf rfl) (Qf rfl)) rfl e)))))))
            . rw [C8 h0] at hs
              rw [Ef h0] at t4
              have hz:p.lv=0:=by lia
              have pl:=ok.parts
              rw [C9 hz] at pl
              have kl:∀ x,(TR.QH p w.aim x).ks.length<=S.O2+1:=fun x=>TR.jU ok
              obtain ⟨hp',e,A',F'⟩:=v8 (i:=m) (p:=p) A1 D hml hks (by lia) (fun x z=>by have:S.O2 < (TR.QH p w.aim x).ks.length:=z;lia) (fun x=>by have:=kl x;lia) hl hw ((T.link m p hg).imp id fun ⟨x,s,_,b1,b2,_⟩=>⟨x,s,b1,b2⟩)
              have hs':=Ak hs
              refine ⟨hp',?_,?_,F1.trans F'⟩
              . rw [show r=(TR.ZO { S with rd:=S.rd+1 } w m p).1 by rw [hs']]
                exact QI (go _ _ (go2 _ _ (go3 _ _ ((Qk ((QN t4).trans QP)).trans (QM (Q5 (Qf rfl) A1.h3 (Qgq ..) (Z2 (Qf rfl) (Qf rfl)) rfl e))))))
              . rw [show S'=(TR.ZO { S with rd:=S.rd+1 } w m p).2.1 by rw [hs'],show w'=(TR.ZO { S with rd:=S.rd+1 } w m p).2.2 by rw [hs']]
                exact A'
end
theorem Qc1 (n:Nat) (d:TR.Deed) (U:Hs):Zv [.ref U.length,.ref n,Zy d] (U++[.ins "Walk" []])=some (.non,U++[wkO n (U.length+1) (U.length+2) (TR.fresh d),.dic [],.lst []]):=by
 have st:∀ (nm:Str) (e:DEx) (v:DV) (fs:List (Str×DV)) (t t':Hs),e [.val (.ref U.length),.val (.ref n),.val (Zy d)] (U++.ins "Walk" fs::t)=some (v,U++.ins "Walk" fs::t')->fs.length < 1000->Zf "Walk" nm (Qc 0) e [.val (.ref U.length),.val (.ref n),.val (Zy d)] (U++.ins "Walk" fs::t)=some ((.nx,[.val (.ref U.length),.val (.ref n),.val (Zy d)]),U++.ins "Walk" (J9 nm v fs)::t'):=fun nm e v fs t t' he hl=>by
  rw [Jk he (Qf rfl) (QbH U _ _) hl,QcG]
 have a1:∀ fs,JY [.val (.ref U.length),.val (.ref n),.val (Zy d)] (U++.ins "Walk" fs::[])=some (.ref (U.length+1),U++.ins "Walk" fs::[.dic []]):=fun fs=>by
  show some (DV.ref (U++[OV.ins "Walk" fs]).length,(U++[OV.ins "Walk" fs])++[OV.dic []])=_
  simp
 have a2:∀ fs,Yd Qo [.val (.ref U.length),.val (.ref n),.val (Zy d)] (U++.ins "Walk" fs::[.dic []])=some (.ref (U.length+2),U++.ins "Walk" fs::[.dic [],.lst []]):=fun fs=>by
  show some (DV.ref (U++[OV.ins "Walk" fs,OV.dic []]).length,(U++[OV.ins "Walk" fs,OV.dic []])++[OV.lst []])=_
  simp
 refine qZ (env:=[.val (.ref U.length),.val (.ref n),.val (Zy d)]) ?_
 refine (Qk (st "shelf" _ (.ref n) [] [] [] (Qf rfl) (By (m:=20) (by repeat (first | exact Be _ | refine JT ?_)) (by decide)))).trans ?_
 refine (Qk (st "deed" _ (Zy d) _ [] [] (Qf rfl) (By (m:=20) (by repeat (first | exact Be _ | refine JT ?_)) (by decide)))).trans ?_
 refine (Qk (st "aim" _ (.int d.key) _ [] [] (Ql (Qf rfl) rfl (Qbu d _)) (By (m:=20) (by repeat (first | exact Be _ | refine JT ?_)) (by decide)))).trans ?_
 refine (Qk (st "goal" _ (.int 0) _ [] [] rfl (By (m:=20) (by repeat (first | exact Be _ | refine JT ?_)) (by decide)))).trans ?_
 refine (Qk (st "place" _ .non _ [] [] rfl (By (m:=20) (by repeat (first | exact Be _ | refine JT ?_)) (by decide)))).trans ?_
 refine (Qk (st "forks" _ (.ref (U.length+1)) _ [] [.dic []] (a1 _) (By (m:=20) (by repeat (first | exact Be _ | refine JT ?_)) (by decide)))).trans ?_
 refine (Qk (st "new_page" _ .non _ [.dic []] [.dic []] rfl (By (m:=20) (by repeat (first | exact Be _ | refine JT ?_)) (by decide)))).trans ?_
 refine (Qk (st "worth" _ .non _ [.dic []] [.dic []] rfl (By (m:=20) (by repeat (first | exact Be _ | refine JT ?_)) (by decide)))).trans ?_
 refine (Qk (st "pairs" _ (.ref (U.length+2)) _ [.dic []] [.dic [],.lst []] (a2 _) (By (m:=20) (by repeat (first | exact Be _ | refine JT ?_)) (by decide)))).trans ?_
 exact st "ended" _ (.bl false) _ [.dic [],.lst []] [.dic [],.lst []] rfl (By (m:=20) (by repeat (first | exact Be _ | refine JT ?_)) (by decide))
theorem vK {n:Nat} {d:TR.Deed} {fa:DAx} {hp0 U:Hs} (ha:fa env hp0=some ([.ref n,Zy d],U)):JS "Walk" 3 Zv fa env hp0=some (.ref U.length,U++[wkO n (U.length+1) (U.length+2) (TR.fresh d),.dic [],.lst []]):=by
 unfold JS
 rw [Qh ha]
 have al:XX (.ins "Walk" []) U=some (.ref U.length,U++[.ins "Walk" []]):=rfl
 have gd:Qz (decide ([DV.ref n,Zy d].length+1=3)) U=some ((),U):=rfl
 rw [Qh gd,Qh al,Qh (Qc1 n d U)];rfl
def qX {U:Hs} {n f q a:Nat} {w:TR.Wk} (h:U[a]?=some (wkO n f q w)):Q6 [.ref a] U=some (.bl w.O7,U):=QI (QM (Q8 (Qf rfl) h (YO ..)))
def X5 (c p m:Int):Int:=(c+p / 3) % p * ((c+p / 3) % p) % p * ((c+p / 3) % p) % p % m
theorem Z0 (c p m:Int) (h0:0 < p) (h1:p < 1073741824) (hm:0 < m):Qw [.int c,.int p,.int m]=pure (.int (X5 c p m)):=by
 have l0:0<=(c+p / 3) % p:=Int.emod_nonneg _ (by lia)
 have l1:(c+p / 3) % p < p:=Int.emod_lt_of_pos _ h0
 have d:=GF p 3 (by decide) (by decide)
 have a:=XE (c+p / 3) p h0
 have b:=xu ((c+p / 3) % p) ((c+p / 3) % p) (by lia) (by lia)
 have e:=XE ((c+p / 3) % p * ((c+p / 3) % p)) p h0
 have f:=uA ((c+p / 3) % p * ((c+p / 3) % p) % p) ((c+p / 3) % p) (by lia) (by lia)
 have g:=XE ((c+p / 3) % p * ((c+p / 3) % p) % p * ((c+p / 3) % p)) p h0
 have h:=XE ((c+p / 3) % p * ((c+p / 3) % p) % p * ((c+p / 3) % p) % p) m hm
 simp [Qw,yD,Q7,Qr,QJ,QG,Qj,Qc,eC,ZE,d,a,b,e,f,g,h,X5]
theorem Xs (c p m:Int) (h:0 < m):0<=X5 c p m:=Int.emod_nonneg _ (by lia)
def Y4 (c p m:Int) (h:0 < m):X5 c p m < m:=Int.emod_lt_of_pos _ h
def QeT:qq (.int 10) (.int 40)=pure (.int 10000000000000000000000000000000000000000):=rfl
def emp:DV:=.tup [.int 0,.tup [],.tup [],.non,.non]
theorem pf0 (d:DV):J9 ("page_room" : Str) d []=[(("page_room" : Str),d)]:=by rfl
theorem pf1 (x d:DV):J9 ("kept" : Str) d [(("page_room" : Str),x)]=[(("page_room" : Str),x),(("kept" : Str),d)]:=by rfl
theorem pf2 (x y d:DV):J9 ("top" : Str) d [(("page_room" : Str),x),(("kept" : Str),y)]=[(("page_room" : Str),x),(("kept" : Str),y),(("top" : Str),d)]:=by rfl
theorem pf3 (x y z d:DV):J9 ("read_count" : Str) d [(("page_room" : Str),x),(("kept" : Str),y),(("top" : Str),z)]=[(("page_room" : Str),x),(("kept" : Str),y),(("top" : Str),z),(("read_count" : Str),d)]:=by rfl
theorem pf4 (x y z u d:DV):J9 ("write_count" : Str) d [(("page_room" : Str),x),(("kept" : Str),y),(("top" : Str),z),(("read_count" : Str),u)]=[(("page_room" : Str),x),(("kept" : Str),y),(("top" : Str),z),(("read_count" : Str),u),(("write_count" : Str),d)]:=by rfl
theorem Qdz (r:Int) (U:Hs):ZR [.ref U.length,.int r] (U++[.ins "Shelf" []])=some (.non,U++[.ins "Shelf" (shF r (U.length+1) 0 0 0),.lst [emp]]):=by
 simp [ZR,YB,Q7,Qr,QJ,QG,X7,sIf,Zc,zV,zf,zT,zU,Qj,Qc,eC,eB,asB,Xm,eOr,Jo,XB,zL,X1,eIf,zJ,Qo,Qd,Zz,XC,Qt,ZT,Qz,gN,ZE,ZW,ZY,Zw,ZZ,Z5,ZV,J3,X6,zR,ZH,Jm,Z7,Zf,Yk,Ui,Xe,gSb,xA,Xn,XD,QF,js,jQ,onI,onL,onD,JI,Xr,Yi,X4,ixG,Yb,qp,Y2,J8,YE,asI,zG,Up,QD,JS,Yd,JY,X0,evP,ZF,Xu,run_pure,JU,Ju,Xt,run_set,Xv,Zb,QZ,Z9,QbH,QcG,pf0,pf1,pf2,pf3,pf4,Yo,lim,shF,emp]
theorem QcZ (r:Nat) (h:2<=r):TR.Tree ⟨r,[⟨0,[],[],none,none⟩],0,0,0⟩ (fun _=>none):=by
 have one:∀ (n:Nat) (p:TR.Pg),([⟨0,[],[],none,none⟩]:List TR.Pg)[n]?=some p->n=0/\p=⟨0,[],[],none,none⟩:=fun n p U=>by
  match n,U with
  | 0,U=>cases U;exact ⟨rfl,rfl⟩
  | n+1,U=>simp at U
 refine ⟨h,⟨_,rfl,fun n p U=>?_⟩,rfl,fun n p U=>?_,fun n p U=>?_,fun n p U h0=>?_,fun n m p q hn hm _ e=>?_,fun n p U v hv=>(by cases hv)⟩
 ·rw [(one n p U).2];exact Ae _
 ·rw [(one n p U).2]
  exact ⟨List.Pairwise.nil,Be _,rfl,fun k hk=>(by cases hk),fun _ k hk=>(by cases hk),fun k hk=>(by cases hk),fun h hh=>(by cases hh)⟩
 ·rw [(one n p U).2];exact .inl ⟨rfl,rfl⟩
 ·rw [(one n p U).2] at h0;exact absurd h0 (by decide)
 ·exact absurd ((one n p hn).1.trans (one m q hm).1.symm) e
abbrev Zs:=List (Int×Int)
def zK (z:Zs):List Int:=z.map (·.1)
def zE (z:Zs):List (Key×DV):=z.map fun p=>(.inl p.1,.int p.2)
def Rise (z:Zs):Prop:=z.Pairwise fun p q=>p.1 < q.1
def QaE (z:Zs) (k:Int):Zs:=z.filter fun p=>decide (p.1 < k)
def Qa4 (z:Zs) (k:Int):Zs:=z.filter fun p=>decide (k < p.1)
def KU (z:Zs) (k:Int) (n:Zs):Zs:=QaE z k++n++Qa4 z k
def Rise.keys (h:Rise z):(zK z).Pairwise (· < ·):=List.pairwise_map.mpr h
theorem km {z:Zs} {k:Int} {p:Int×Int} (h:p∈QaE z k):p∈z/\p.1 < k:=by
 have:=Bm.mp h;exact ⟨this.1,by simpa using this.2⟩
theorem QdL {z:Zs} {k:Int} {p:Int×Int} (h:p∈Qa4 z k):p∈z/\k < p.1:=by
 have:=Bm.mp h;exact ⟨this.1,by simpa using this.2⟩
theorem vg (h:Rise z) (k:Int) (hn:Rise n) (hk:∀ p∈n,p.1=k):Rise (KU z k n):=by
 refine Bv.mpr ⟨Bv.mpr ⟨List.Pairwise.filter _ h,hn,fun a ha b hb=>?_⟩,List.Pairwise.filter _ h,fun a ha b hb=>?_⟩
 ·have:=(km ha).2;have:=hk b hb;lia
 ·have q:=(QdL hb).2
  rcases Ai.mp ha with w | w
  ·have:=(km w).2;lia
  ·have:=hk a w;lia
theorem uF (z:Zs) (k:Int):(z.filter fun p=>decide (p.1≠k)).Perm (QaE z k++Qa4 z k):=by
 have e:=List.filter_append_perm (fun p:Int×Int=>decide (p.1 < k)) (z.filter fun p=>decide (p.1≠k))
 rw [List.filter_filter,List.filter_filter] at e
 have a:(z.filter fun p=>decide (p.1 < k)&&decide (p.1≠k))=QaE z k:=List.filter_congr fun p _=>by
  rw [<- Bool.decide_and,decide_eq_decide];lia
 have b:(z.filter fun p=>(!decide (p.1 < k))&&decide (p.1≠k))=Qa4 z k:=List.filter_congr fun p _=>by
  rw [<- decide_not,<- Bool.decide_and,decide_eq_decide];lia
 rw [a,b] at e
 exact e.symm
def Dz (kvs:List (Key×DV)) (z:Zs):Prop:=kvs.Perm (zE z)
theorem Dz.len {kvs:List (Key×DV)} {z:Zs} (d:Dz kvs z):kvs.length=z.length:=by have:=d.length_eq;simpa [zE] using this
theorem Dz.nodup {kvs:List (Key×DV)} (d:Dz kvs z) (h:Rise z):(kvs.map (·.1)).Nodup:=by
 refine (d.map (·.1)).nodup_iff.mpr ?_
 unfold zE
 rw [List.map_map]
 refine List.pairwise_map.mpr (h.imp fun q e=>?_)
 have:=Sum.inl.inj e
 lia
theorem Dz.drop (d:Dz kvs z) (k:Int):Dz (XA kvs (.inl k)) (KU z k []):=by
 have e:(zE z).filter (fun kv=>decide (kv.1≠(Sum.inl k:Key)))=zE (z.filter fun p=>decide (p.1≠k)):=by
  unfold zE
  rw [List.filter_map]
  congr 1
  apply List.filter_congr
  intro p _
  show decide ((Sum.inl p.1:Key)≠Sum.inl k)=decide (p.1≠k)
  rw [decide_eq_decide]
  exact ⟨fun h q=>h (by rw [q]),fun h q=>h (Sum.inl.inj q)⟩
 have p:=(List.Perm.filter (fun kv:Key×DV=>decide (kv.1≠(Sum.inl k:Key))) d)
 rw [e] at p
 unfold Dz XA KU
 rw [Bt]
 exact p.trans ((uF z k).map _)
theorem QaR:∀ {kvs:List (Key×DV)},(kvs.map (·.1)).Nodup->(YG kvs k d).Perm ((k,d)::XA kvs k):=by
  intro kvs h
  unfold YG
  by_cases q:(kvs.any fun kv=>decide (kv.1=k))=true
  . rw [C9 q]
    induction kvs with
    | nil=>simp at q
    | cons p r ih =>
      obtain ⟨h1,h2⟩:=Cv.mp h
      by_cases e:p.1=k
      . have hr:∀ x∈r,x.1≠k:=fun x hx y=>h1 (by show p.1∈_;rw [e,<- y];exact List.mem_map_of_mem hx)
        have a:r.map (fun kv=>if kv.1=k then (kv.1,d) else kv)=r:=by
          conv=>rhs;rw [<- List.map_id r]
          exact List.map_congr_left fun x hx=>by rw [C8 (hr x hx)];rfl
        have b:XA (p::r) k=r:=by
          unfold XA
          rw [List.filter_cons_of_neg (by simp [e]),Ct]
          intro x hx;simpa using hr x hx
        rw [Bb,C9 e,a,b,e]
      . have q':(r.any fun kv=>decide (kv.1=k))=true:=by simpa [e] using q
        have b:XA (p::r) k=p::XA r k:=by
          unfold XA
          rw [List.filter_cons_of_pos (by simpa using e)]
        rw [Bb,C8 e,b]
        exact ((ih h2 q').cons p).trans (List.Perm.swap _ _ _)
  . rw [C8 q]
    have b:XA kvs k=kvs:=by
      unfold XA
      rw [Ct]
      intro x hx
      have:¬ x.1=k:=fun e=>q (List.any_eq_true.mpr ⟨x,hx,by simpa using e⟩)
      simpa using this
    rw [b]
    exact List.perm_append_singleton _ _
theorem Dz.put (d:Dz kvs z) (h:Rise z) (k w:Int):Dz (YG kvs (.inl k) (.int w)) (KU z k [(k,w)]):=by
 refine (QaR (d.nodup h)).trans ?_
 have e:=(d.drop k).cons ((Sum.inl k:Key),DV.int w)
 refine e.trans ?_
 unfold KU zE
 rw [Bt]
 rw [A8]
 exact (List.perm_middle (a:=(k,w)) (l₁:=QaE z k) (l₂:=Qa4 z k)).symm.map (fun p=>((Sum.inl p.1:Key),DV.int p.2))
theorem vE:∀ {kvs:List (Key×DV)},(kvs.map (·.1)).Nodup->(k,d)∈kvs->J0 kvs k=some d
  | [],_,h=>by cases h
  | p::r,hn,h=>by
    obtain ⟨h1,h2⟩:=Cv.mp hn
    rw [U3]
    rcases Bk.mp h with e | e
    . rw [<- e,C9 rfl]
    . rw [C8,vE h2 e]
      intro q
      exact h1 (by show p.1∈_;rw [q];exact List.mem_map_of_mem (f:=(·.1)) e)
theorem Dz.val (d:Dz kvs z) (h:Rise z) {k w:Int} (hm:(k,w)∈z):J0 kvs (.inl k)=some (.int w) :=
 vE (d.nodup h) (d.mem_iff.mpr (List.mem_map_of_mem (f:=fun p:Int×Int=>((Sum.inl p.1:Key),DV.int p.2)) hm))
def kI:Key->Int
 | .inl i=>i
 | .inr _=>0
theorem UH:∀ {kvs:List (Key×DV)},(∀ p∈kvs,∃ i,p.1=.inl i)->jy kvs=some (kvs.map fun p=>kI p.1)
  | [],_=>rfl
  | (k,d)::r,h=>by
    obtain ⟨i,e⟩:=h (k,d) (List.mem_cons_self ..)
    cases e
    show (jy r).map (i :: ·)=_
    rw [UH fun p U=>h p (Ax _ U)];rfl
theorem Dz.keys (d:Dz kvs z) (h:Rise z):∃ ns,jy kvs=some ns/\srt ns=zK z:=by
 refine ⟨_,UH fun p U=>?_,(VN ?_ (h.keys.imp fun q=>Ck q)).symm⟩
 ·obtain ⟨q,_,rfl⟩:=C6.mp (d.mem_iff.mp U)
  exact ⟨q.1,rfl⟩
 ·have e:=(d.map fun p=>kI p.1).symm
  have a:(zE z).map (fun p=>kI p.1)=zK z:=by
   unfold zE zK
   rw [List.map_map];rfl
  rwa [a] at e
theorem Qes (d:Dz kvs z) (h:Rise z) {f:DEx} {n:Nat} {U:Hs} (hf:f env U=some (.ref n,U)) (hn:U[n]?=some (.dic kvs)):ZT kO (Qd f Qo) env U=some (.lst ((zK z).map .int),U):=by
 obtain ⟨ns,e1,e2⟩:=d.keys h
 have a:Qd f Qo env U=some ([.ref n],U):=Gi hf rfl
 unfold ZT
 rw [Qh a]
 show (QbN (.ref n) >>= fun ns=>pure (DV.lst ((srt ns).map .int))) U=_
 have b:QbN (.ref n) U=some (ns,U):=by
  show (Ja n >>= _) U=_
  rw [Qh (ZX hn)]
  show uD (jy kvs) U=_
  rw [e1];rfl
 rw [Qh b,e2];rfl
theorem QdE {n:Nat} {U:Hs} {k:Int} (h:U[n]?=some (.dic kvs)) (hd:J0 kvs (.inl k)=some d):ixG (.ref n) (.int k) U=some (d,U):=by
 show (Ja n >>= _) U=_
 rw [Qh (ZX h)]
 show (J8 (.int k) >>= fun k=>Y2 (J0 kvs k)) U=_
 rw [show J8 (.int k)=pure (.inl k) from rfl,Eg,hd];rfl
theorem Qf7 {n:Nat} {U:Hs} {k:Int} {f g:DEx} (hn:U[n]?=some (.dic kvs)) (hf:f env U=some (.ref n,U)) (hg:g env U=some (.int k,U)) (hd:J0 kvs (.inl k)=some d):Xn "dict" Yi f (Qd g Qo) env U=some (d,U.set n (.dic (XA kvs (.inl k)))):=by
 unfold Xn
 rw [Qh hf]
 have e:XD "dict" (.ref n) U=some ((),U):=by
  show (Ja n >>= _) U=_
  rw [Qh (ZX hn)];rfl
 rw [Qh e,Qh (Gi hg rfl)]
 show (Ja n >>= _) U=_
 rw [Qh (ZX hn)]
 show (J8 (.int k) >>= _) U=_
 rw [show J8 (.int k)=pure (.inl k) from rfl,Eg,hd]
 rfl
def Qhp (k w:Int):Rise [(k,w)]:=List.pairwise_singleton _ _
structure Tb (kvs:List (Key×DV)) (z:Zs) (F:Es):Prop where
 d:Dz kvs z
 rise:Rise z
 fn:∀ k v,F k=some v↔(k,v)∈z
theorem kK {k:Int} {p:Int×Int}:p∈KU z k n↔(p.1≠k/\p∈z)∨p∈n:=by
 unfold KU QaE Qa4
 rw [Ai,Ai,Bm,Bm]
 simp only [decide_eq_true_eq]
 constructor
 ·rintro ((⟨a,b⟩ | a) | ⟨a,b⟩)
  ·exact .inl ⟨by lia,a⟩
  ·exact .inr a
  ·exact .inl ⟨by lia,a⟩
 ·rintro (⟨a,b⟩ | a)
  ·rcases (by lia:p.1 < k∨k < p.1) with c | c
   ·exact .inl (.inl ⟨b,c⟩)
   ·exact .inr ⟨b,c⟩
  ·exact .inl (.inr a)
theorem Gz {g g':DV->DV->M DV} {fa fb fc:DEx} {b b':Bool} (ha:fa env U=some (x,U)) (hb:fb env U=some (y,U)) (hc:fc env U=some (z,U)) (h1:g x y=pure (.bl b)) (h2:g' y z=pure (.bl b')):JK g g' fa fb fc env U=some (.bl (b&&b'),U):=by
  unfold JK
  rw [Qh ha,Qh hb,h1,Eg]
  show ((if b=true then _ else _:M DV)) U=_
  cases b with
  | false=>rfl
  | true =>
    show (fc env >>= fun w=>g' y w) U=_
    rw [Qh hc,h2];cases b'<;>rfl
def X2 {o:DEx} {x y:Str} {b:Bool} (ho:o env U=some (.str x,U)) (h1:PyData.strOk x=true) (h2:PyData.strOk y=true) (h:(x==y)=b):eB (Qj eqG o (eC (.str y))) env U=some (b,U):=QV (Ql ho rfl (eqS U h1 h2 h))
section
variable {kvs:List (Key×DV)} {z:Zs} {F:Es}
theorem Tb.put (t:Tb kvs z F) (k x:Int):Tb (YG kvs (.inl k) (.int x)) (KU z k [(k,x)]) (TR.vC F k x):=by
 refine ⟨t.d.put t.rise k x,vg t.rise k (Qhp k x) (fun p U=>by rw [Ar.mp U]),fun j v=>?_⟩
 rw [kK]
 unfold TR.vC
 by_cases e:j=k
 ·rw [C9 e]
  subst e
  simp only [Option.some.injEq,ne_eq,not_true_eq_false,false_and,false_or,Ar,Bp,true_and]
  exact eq_comm
 ·rw [C8 e,t.fn]
  simp [e]
theorem Tb.cut (t:Tb kvs z F) (k:Int):Tb (XA kvs (.inl k)) (KU z k []) (TR.xH F k):=by
 refine ⟨t.d.drop k,vg t.rise k List.Pairwise.nil (fun p U=>by cases U),fun j v=>?_⟩
 rw [kK]
 unfold TR.xH
 by_cases e:j=k
 ·rw [C9 e]
  subst e
  simp
 ·rw [C8 e,t.fn]
  simp [e]
def dF (F:Es):TR.Deed->Int->Option Int
 | .put k x=>TR.vC F k x
 | .cut k=>TR.xH F k
 | _=>F
theorem Tb.val (t:Tb kvs z F) (k:Int):J0 kvs (.inl k)=(F k).map .int:=by
  cases e:F k with
  | some v=>exact t.d.val t.rise ((t.fn k v).mp e)
  | none =>
    cases hv:J0 kvs (.inl k) with
    | none=>rfl
    | some d =>
      exfalso
      unfold J0 at hv
      obtain ⟨kv,h1,h2⟩:=Cg.mp hv
      have m:=List.mem_of_find?_eq_some h1
      have q:kv.1=(Sum.inl k:Key):=by
        have:=List.find?_some h1
        exact Ee this
      have m':=(List.Perm.mem_iff t.d).mp m
      obtain ⟨p,U,rfl⟩:=C6.mp m'
      have q:(Sum.inl p.1:Key)=Sum.inl k:=q
      injection q with q
      subst q
      have:=(t.fn p.1 p.2).mpr U
      rw [e] at this;cases this
def Qeb (kvs:List (Key×DV)) (k:Key) (d:DV):(YG kvs k d).length<=kvs.length+1:=vb kvs k d
def Qbw (kvs:List (Key×DV)) (k:Key):(XA kvs k).length<=kvs.length:=Cb _ _
theorem Qfk {w:Hs} {k:Int} {b:Nat} (h:w[b]?=some (.dic kvs)):inG (.int k) (.ref b) w=some (.bl (J0 kvs (.inl k)).isSome,w):=by
 have e:QdK (.int k) (.ref b) w=some ((J0 kvs (.inl k)).isSome,w):=by
  show (Ja b >>= _) w=_
  rw [Qh (ZX h)];rfl
 unfold inG
 rw [Qh e];rfl
theorem Qcp {w:Hs} (t:Tb kvs z F) (h:w[0]?=some (.dic kvs)) (hl:kvs.length < 90000) (d:TR.Deed):∃ kvs' z',qv [Zy d,.ref 0] w=some (.non,w.set 0 (.dic kvs'))/\Tb kvs' z' (dF F d)/\kvs'.length<=kvs.length+1:=by
  let e:En:=[.val (Zy d),.val (.ref 0)]
  have same:w.set 0 (.dic kvs)=w:=Qeo h
  cases d with
  | find k=>exact ⟨kvs,z,by
      rw [same]
      refine qZ (env:=e) ((Qk ((QN (X2 (Jw (i:=0) (Qf rfl) rfl rfl) X9 Xd (by decide))).trans QP)).trans ((QN (yR (X2 (Jw (i:=0) (Qf rfl) rfl rfl) X9 Xc (by decide)))).trans QP)),t,by lia⟩
  | stretch l r=>exact ⟨kvs,z,by
      rw [same]
      refine qZ (env:=e) ((Qk ((QN (X2 (Jw (i:=0) (Qf rfl) rfl rfl) Y7 Xd (by decide))).trans QP)).trans ((QN (yR (X2 (Jw (i:=0) (Qf rfl) rfl rfl) Y7 Xc (by decide)))).trans QP)),t,by lia⟩
  | put k x =>
    refine ⟨_,_,?_,t.put k x,Qeb ..⟩
    have s1:Xe (Qj ixG (Qc 0) (eC (.int 2))) (gSb (Qc 1) (Qj ixG (Qc 0) (eC (.int 1)))) e w=some ((.nx,e),w.set 0 (.dic (YG kvs (.inl k) (.int x)))):=by
      refine yw (d:=.int x) (Jw (i:=2) (Qf rfl) rfl rfl) ?_
      unfold gSb
      have i1:Qj ixG (Qc 0) (eC (.int 1)) e w=some (.int k,w):=Jw (i:=1) (Qf rfl) rfl rfl
      rw [Qh (Qf rfl),Qh i1,Qh (jJ (d:=.int x) h (show YE (.int k)=some (.inl k) from rfl) (by lia))];rfl
    exact qZ (env:=e) ((Qk ((Zo (X2 (Jw (i:=0) (Qf rfl) rfl rfl) Xd Xd (by decide))).trans s1)).trans ((QN (yR (X2 (Jw (i:=0) (Qf rfl) rfl rfl) Xd Xc (by decide)))).trans QP))
  | cut k =>
    have i1:Qj ixG (Qc 0) (eC (.int 1)) e w=some (.int k,w):=Jw (i:=1) (Qf rfl) rfl rfl
    have c0:∀ b,(F k).isSome=b->Xm (eB (Qj eqG (Qj ixG (Qc 0) (eC (.int 0))) (eC (.str "cut")))) (eB (Qj inG (Qj ixG (Qc 0) (eC (.int 1))) (Qc 1))) e w=some (b,w):=fun b hb=>by
      rw [ub (X2 (Jw (i:=0) (Qf rfl) rfl rfl) Xc Xc (by decide))]
      refine QV (Ql i1 (Qf rfl) ?_)
      rw [Qfk h,t.val,Option.isSome_map,hb]
    have go:sIf (eB (Qj eqG (Qj ixG (Qc 0) (eC (.int 0))) (eC (.str "put")))) (Xe (Qj ixG (Qc 0) (eC (.int 2))) (gSb (Qc 1) (Qj ixG (Qc 0) (eC (.int 1))))) Zc e w=some ((.nx,e),w):=(QN (X2 (Jw (i:=0) (Qf rfl) rfl rfl) Xc Xd (by decide))).trans QP
    cases hF:F k with
    | none =>
      have tc:TR.xH F k=F:=by
        funext j
        unfold TR.xH
        by_cases q:j=k
        . rw [C9 q,q,hF]
        . rw [C8 q]
      refine ⟨kvs,z,?_,by show Tb kvs z (TR.xH F k);rw [tc];exact t,by lia⟩
      rw [same]
      exact qZ (env:=e) ((Qk go).trans ((QN (c0 false (by rw [hF];rfl))).trans QP))
    | some v =>
      refine ⟨_,_,?_,t.cut k,Nat.le_succ_of_le (Qbw ..)⟩
      exact qZ (env:=e) ((Qk go).trans ((Zo (c0 true (by rw [hF];rfl))).trans (JV (Qf7 h (Qf rfl) i1 (d:=.int v) (by rw [t.val,hF];rfl)))))
end
theorem QaF (ps:Em) (w:Hs):Yc [.tup (prD ps)] w=some (.bl true,w):=by
 let E:Sl->En:=fun z=>[.val (.tup (prD ps)),z]
 obtain ⟨env',hp',e',z,rfl,rfl⟩:=QbG (b:=fun d env=>do let env' <- gN 1 d env;Yw env') (fun _ env U=>∃ z,env=E z/\U=w) (prD ps) 0 (E .un) w ⟨_,rfl,rfl⟩ (fun i d hd env U ⟨z,e1,e2⟩=>by
  subst e1 e2
  obtain ⟨p,_,rfl⟩:=C6.mp (Aw hd)
  let e:En:=E (.val (.tup [.int p.1,.int p.2]))
  refine ⟨e,U,?_,_,rfl,rfl⟩
  show Yw e U=_
  have c:Yr e U=some (.lst [],U):=by
   unfold Yr J7
   have x:xOf (iTp (Qc 1)) e U=some (nxD [.int p.1,.int p.2],U):=by
    unfold xOf
    rw [Qh (ga (ds:=[.int p.1,.int p.2]) (Qf rfl))];rfl
   rw [Qh x]
   have q:=vZ (t:=fun d=>eOr (Jo (eB (yi "int" (Qc 0)))) (eB (yi "bool" (Qc 0))) (cE [] e d)) (f:=fun d=>Qc 0 (cE [] e d)) (U:=U) [.int p.1,.int p.2] (fun d hd=>by
    simp only [Bk,Cf,or_false] at hd
    rcases hd with rfl | rfl<;>rfl) (by simp)
   exact (Qh q).trans rfl
  refine (Qk ((QN ?_).trans QP)).trans ((QN (QV (Ql c rfl (Vj (x:=.lst []) (n:=1) (fun d hd=>by cases hd) (by decide) U)))).trans QP)
  rw [Ye (JH (b:=true) (QV (rfl:yi "tuple" (Qc 1) e U=some (.bl true,U))))]
  exact QV ((Ql (x:=.int 2) (y:=.int 2) (qA (JN (Qf rfl)) rfl) rfl (neI 2 2 U)).trans rfl))
 refine QI (env:=E z) ((Qk ((QN (JH (b:=true) (QV (rfl:yi "tuple" (Qc 0) (E .un) hp'=some (.bl true,hp'))))).trans QP)).trans ((Qk (q8 (ga (ds:=prD ps) (Qf rfl)) e')).trans (QM rfl)))
theorem Qbs {t:DV->M Bool} {f:DV->M DV} (z:Zs) (p:Int×Int->Bool) (ht:∀ q∈z,t (.int q.1) U=some (p q,U)) (hf:∀ q∈z,f (.int q.1) U=some (.tup [.int q.1,.int q.2],U)) (hl:z.length < 100000):JP (nxD ((zK z).map .int)) t f 100000 0 U=some (prD (z.filter p),U):=by
  have zl:((zK z).map DV.int).length=z.length:=by simp [zK]
  have zg:∀ i,((zK z).map DV.int)[i]?=(z[i]?).map fun q:Int×Int=>DV.int q.1:=fun i=>by unfold zK;rw [List.map_map,Bu];rfl
  suffices h:∀ (m i n:Nat),m+i=z.length->m < n->JP (nxD ((zK z).map .int)) t f n i U=some (prD ((z.drop i).filter p),U) by simpa using h z.length 0 100000 rfl hl
  intro m
  induction m with
  | zero =>
    intro i n e hn'
    obtain ⟨n,rfl⟩:∃ k,n=k+1:=⟨n - 1,by lia⟩
    have:i=z.length:=by lia
    subst this
    have e1:=qN ((zK z).map .int) z.length (by lia) U
    rw [zg,show z[z.length]?=none by simp] at e1
    rw [JP,Qh e1,List.drop_length]
    rfl
  | succ m ih =>
    intro i n e hn'
    obtain ⟨n,rfl⟩:∃ k,n=k+1:=⟨n - 1,by lia⟩
    have hlt:i < z.length:=by lia
    have e1:=qN ((zK z).map .int) i (by lia) U
    rw [zg,Ab hlt] at e1
    have r:=ih (i+1) n (by lia) (by lia)
    rw [JP,Qh e1]
    show (t (.int z[i].1) >>= _) U=_
    rw [Qh (ht _ (B9 hlt)),Bi hlt,As]
    cases hp':p z[i] with
    | false =>
      rw [C8 (by simp)]
      exact r
    | true =>
      rw [C9 rfl,C9 rfl]
      show (f (.int z[i].1) >>= _) U=_
      rw [Qh (hf _ (B9 hlt)),Qh r];rfl
def stD (f h:Int) (ps:Em):List (Key×DV):=[(.inr "from", .int f),(.inr "high", .int h),(.inr "pairs", .lst (prD ps))]
theorem QcS (f h x:Int) (ps:Em):YG (stD f h ps) (.inr "from") (.int x)=stD x h ps:=by rfl
theorem QcT (f h:Int) (ps qs:Em):YG (stD f h ps) (.inr "pairs") (.lst (prD qs))=stD f h qs:=by rfl
theorem QeW (f h:Int) (ps:Em):J0 (stD f h ps) (.inr "from")=some (.int f):=by rfl
theorem Qht (f h:Int) (ps:Em):J0 (stD f h ps) (.inr "high")=some (.int h):=by rfl
theorem QeX (f h:Int) (ps:Em):J0 (stD f h ps) (.inr "pairs")=some (.lst (prD ps)):=by rfl
theorem yY {o:DEx} {U:Hs} {b:Nat} {x:Str} (ho:o env U=some (.ref b,U)) (h:U[b]?=some (.dic kvs)) (hd:J0 kvs (.inr x)=some d):Qj ixG o (eC (.str x)) env U=some (d,U):=by
 refine Ql ho (y:=.str x) rfl ?_
 show (Ja b >>= _) U=_
 rw [Qh (ZX h)]
 show (J8 (.str x) >>= fun k=>Y2 (J0 kvs k)) U=_
 rw [show J8 (.str x)=pure (.inr x) from rfl,Eg,hd];rfl
theorem kF {e o:DEx} {U:Hs} {b:Nat} {kvs:List (Key×DV)} {x:Str} (he:e env U=some (d,U)) (ho:o env U=some (.ref b,U)) (h:U[b]?=some (.dic kvs)) (hl:kvs.length < 100000):Xe e (gSb o (eC (.str x))) env U=some ((.nx,env),U.set b (.dic (YG kvs (.inr x) d))):=by
 refine yw he ?_
 unfold gSb
 rw [Qh ho,Qh (rfl:eC (.str x) env U=some (.str x,U)),Qh (jJ (d:=d) h (show YE (.str x)=some (.inr x) from rfl) hl)];rfl
theorem uI (rows:Em):∀ d∈prD rows,Pl 1 d:=fun d hd=>by
 obtain ⟨p,_,rfl⟩:=C6.mp hd
 exact fun x hx=>by simp only [Bk,Cf,or_false] at hx;rcases hx with rfl | rfl<;>exact Qf5 _ _
theorem Qfg {z:Zs} {F:Es} (t:Tb kvs z F) {a e:Int} {ps:Em} (R:TR.Rds F a e ps):z.filter (fun q=>decide (a<=q.1)&&decide (q.1 < e))=ps:=by
 refine TR.jT (List.Pairwise.filter _ t.rise) R.1 fun x=>?_
 rw [Bm]
 have:=R.2 x.1 x.2
 rw [show (x.1,x.2)=x from rfl] at this
 rw [this,t.fn]
 simp
theorem QbV {w:Hs} {b n:Nat} {z:Zs} {F:Es} (t:Tb kvs z F) (h0:w[0]?=some (.dic kvs)) {a h:Int} {qs ps:Em} (hb:w[b]?=some (.dic (stD a h qs))) {x:Option (Nat×Int)} {e:Int} (hx:(x=none/\e=h)∨∃ s,x=some (s,e)/\a < e/\e < h) (R:TR.Rds F a e ps) (hl:z.length < 90000) (hq:qs.length+ps.length<=90000):
  YT [Vr (.read n ps x),.ref b,.ref 0] w=some (.bl true,w.set b (.dic (stD e h (qs++ps)))):=by
 let c:DV:=match x with | none=>.non | some (s,_)=>.int s
 let u:DV:=match x with | none=>.non | some (_,y)=>.int y
 have rw0:Vr (.read n ps x)=.tup [.str "read", .int n,.tup (prD ps),c,u]:=by
  cases x with
  | none=>rfl
  | some p=>rfl
 let E:Sl->Sl->En:=fun y3 y4=>[.val (.tup [.str "read", .int n,.tup (prD ps),c,u]),.val (.ref b),.val (.ref 0),y3,y4]
 rw [rw0]
 have g2:∀ (y3 y4:Sl),Qj ixG (Qc 0) (eC (.int 2)) (E y3 y4) w=some (.tup (prD ps),w):=fun _ _=>Jw (i:=2) (ds:=[.str "read", .int n,.tup (prD ps),c,u]) (Qf rfl) rfl rfl
 have g3:∀ (y3 y4:Sl),Qj ixG (Qc 0) (eC (.int 3)) (E y3 y4) w=some (c,w):=fun _ _=>Jw (i:=3) (ds:=[.str "read", .int n,.tup (prD ps),c,u]) (Qf rfl) rfl rfl
 have g4:∀ (y3 y4:Sl),Qj ixG (Qc 0) (eC (.int 4)) (E y3 y4) w=some (u,w):=fun _ _=>Jw (i:=4) (ds:=[.str "read", .int n,.tup (prD ps),c,u]) (Qf rfl) rfl rfl
 have fr:∀ (y3 y4:Sl),Qj ixG (Qc 1) (eC (.str "from")) (E y3 y4) w=some (.int a,w):=fun _ _=>yY (Qf rfl) hb (QeW ..)
 have hh:∀ (y3 y4:Sl),Qj ixG (Qc 1) (eC (.str "high")) (E y3 y4) w=some (.int h,w):=fun _ _=>yY (Qf rfl) hb (Qht ..)
 have s1:QJ 3 (Qj ixG (Qc 1) (eC (.str "high"))) (E .un .un) w=some ((.nx,E (.val (.int h)) .un),w):=Q0 (hh _ _)
 have s2:sIf (eB (Qj Ud (Qj ixG (Qc 0) (eC (.int 4))) (eC .non))) (Qr (QJ 3 (Qj ixG (Qc 0) (eC (.int 4)))) (sIf (eOr (Jo (eB (JK ltD ltD (Qj ixG (Qc 1) (eC (.str "from"))) (Qc 3) (Qj ixG (Qc 1) (eC (.str "high")))))) (eB (Qj isD (Qj ixG (Qc 0) (eC (.int 3))) (eC .non)))) (QG (eC (.bl false))) Zc)) Zc (E (.val (.int h)) .un) w=some ((.nx,E (.val (.int e)) .un),w):=by
  rcases hx with ⟨rfl,rfl⟩ | ⟨s,rfl,ae,eh⟩
  ·exact (QN (QV (Ql (g4 _ _) rfl rfl))).trans QP
  ·refine (Zo (QV (Ql (g4 _ _) rfl rfl))).trans ((Qk (Q0 (g4 _ _))).trans ((QN ?_).trans QP))
   have ch:JK ltD ltD (Qj ixG (Qc 1) (eC (.str "from"))) (Qc 3) (Qj ixG (Qc 1) (eC (.str "high"))) (E (.val (.int e)) .un) w=some (.bl true,w):=by
    rw [Gz (x:=.int a) (y:=.int e) (z:=.int h) (fr _ _) (Qf rfl) (hh _ _) (Zw ..) (Zw ..),Ed ae,Ed eh];rfl
   exact (Ye (JH (b:=true) (QV ch))).trans (QV (Ql (g3 _ _) rfl rfl))
 have s3:QJ 4 YS (E (.val (.int e)) .un) w=some ((.nx,E (.val (.int e)) (.val (.lst (prD ps)))),w):=by
  refine Q0 ?_
  unfold YS J7
  have x:xLs (ZT kO (Qd (Qc 2) Qo)) (E (.val (.int e)) .un) w=some (nxD ((zK z).map .int),w):=vM (Qes t.d t.rise (n:=0) (Qf rfl) h0)
  rw [Qh x]
  have q:=Qbs (t:=fun d=>eB (JK leD ltD (Qj ixG (Qc 3) (eC (.str "from"))) (Qc 0) (Qc 1)) (cE [3,2,1] (E (.val (.int e)) .un) d)) (f:=fun d=>Zz (Qd (Qc 0) (Qd (Qj ixG (Qc 2) (Qc 0)) Qo)) (cE [3,2,1] (E (.val (.int e)) .un) d)) (U:=w) z (fun q=>decide (a<=q.1)&&decide (q.1 < e)) (fun q hq=>by
    refine QV ?_
    rw [Gz (x:=.int a) (y:=.int q.1) (z:=.int e) (yY (Qf rfl) hb (QeW ..)) (Qf rfl) (Qf rfl) (ZZ ..) (Zw ..)]) (fun q hq=>JL (Z2 (Qf rfl) (Ql (Qf rfl) (Qf rfl) (QdE h0 (t.d.val t.rise hq)))) (by simp)) (by lia)
  rw [Qfg t R] at q
  exact (Qh q).trans rfl
 have s4:sIf (eOr (Jo (eB (Qt 1 Yc (Qd (Qj ixG (Qc 0) (eC (.int 2))) Qo)))) (eOr (eB (Qj neG (ZT QdH (Qd (Qj ixG (Qc 0) (eC (.int 2))) Qo)) (Qc 4))) (Xm (eB (Qj isD (Qj ixG (Qc 0) (eC (.int 4))) (eC .non))) (eB (Qj Ud (Qj ixG (Qc 0) (eC (.int 3))) (eC .non)))))) (QG (eC (.bl false))) Zc (E (.val (.int e)) (.val (.lst (prD ps)))) w=some ((.nx,E (.val (.int e)) (.val (.lst (prD ps)))),w):=by
  refine (QN ?_).trans QP
  refine (Ye (JH (b:=true) (QV (Q4 (JN (g2 _ _)) rfl (QaF ps w))))).trans ((Ye (QV (Ql (qA (JN (g2 _ _)) (QbW _ _)) (Qf rfl) (Vj (Qf6 (uI ps)) (by decide) w)))).trans ?_)
  rcases hx with ⟨rfl,rfl⟩ | ⟨s,rfl,ae,eh⟩
  ·exact (ub (QV (Ql (g4 _ _) rfl rfl))).trans (QV (Ql (g3 _ _) rfl rfl))
  ·exact yR (QV (Ql (g4 _ _) rfl rfl))
 let w1:=w.set b (.dic (stD e h qs))
 have b1:w1[b]?=some (.dic (stD e h qs)):=Zb _ _ _ (by rw [hb];rfl)
 let e5:En:=E (.val (.int e)) (.val (.lst (prD ps)))
 have s5:Xe (Qc 3) (gSb (Qc 1) (eC (.str "from"))) e5 w=some ((.nx,e5),w1):=by
  rw [kF (d:=.int e) (Qf rfl) (Qf rfl) hb (by show 3 < 100000;decide),QcS]
 have s6:Xe (Qj ZL (Qj ixG (Qc 1) (eC (.str "pairs"))) (Qc 4)) (gSb (Qc 1) (eC (.str "pairs"))) e5 w1=some ((.nx,e5),w.set b (.dic (stD e h (qs++ps)))):=by
  have ad:Qj ZL (Qj ixG (Qc 1) (eC (.str "pairs"))) (Qc 4) e5 w1=some (.lst (prD (qs++ps)),w1):=by
   refine Ql (x:=.lst (prD qs)) (y:=.lst (prD ps)) (yY (Qf rfl) b1 (QeX ..)) (Qf rfl) ?_
   show (Qz (Yo (prD qs++prD ps)) >>= fun _=>pure (DV.lst (prD qs++prD ps))) w1=_
   have s:Yo (prD qs++prD ps)=true:=Ed (by rw [An,jI,jI];show _<=100000;lia)
   rw [s,kD];rfl
  rw [kF ad (Qf rfl) b1 (by show 3 < 100000;decide),QcT]
  show some _=some _
  rw [List.set_set]
 exact QI (env:=e5) ((Qk s1).trans ((Qk s2).trans ((Qk s3).trans ((Qk s4).trans ((Qk s5).trans ((Qk s6).trans (QM rfl)))))))
theorem Qdw {b:DV->DSx} {d:DV} (h:b d env U=some ((.rt x,env1),hp1)):qD b (d::ds) env U=some ((.rt x,env1),hp1):=by
 show (b d env U).bind _=_
 rw [h];rfl
theorem QaV {n k a:Nat} {dv:DV} (D:Dif n k a (a+1) (a+2)) {m:Nat} {S:TR.Sh} {v:TR.Wk} {v':TR.Wk} (st:TR.Steps m S v S' v') (he:v'.O7=true):∀ {bg:TR.Bg} {F:Es} {w:Hs} (i:Nat) (z:Sl),TR.Al S bg F v->S.O2<=50->At w n k a (a+1) (a+2) S v->S.pg.length<=1000+i->v.O3.length<=i->v.O5.length<=50 * i->i+m < 1000 ->
    ∃ w' z',qD (fun d env=>do let env' <- gN 3 d env;jA env') ((Z3 0 1000).drop i) [.val (.ref n),.val dv,.val (.ref a),z] w=some ((.rt (.ref a),[.val (.ref n),.val dv,.val (.ref a),z']),w')/\At w' n k a (a+1) (a+2) S' v'/\Fr w w' n k a (a+1) (a+2):=by
  induction st with
  | nil S v =>
    intro bg F w i z A hr A0 h1 h2 h3 h4
    have il:i < (Z3 0 1000).length:=by rw [Y5];lia
    have ei:(Z3 0 1000)[i]=.int (i:Int):=(yu (Ab il)).2
    rw [Bi il,ei]
    have ov:=qX A0.h3
    rw [he] at ov
    refine ⟨w,.val (.int (i:Int)),Qdw ?_,A0,Fr.refl⟩
    exact Q3 ((Zo (QV (Q5 (Qf rfl) A0.h3 (zc ..) Xg rfl ov))).trans (QM (Qf rfl)))
  | @cons m S S1 S' v v1 v' r hw hs rest ih =>
    intro bg F w i z A hr A0 h1 h2 h3 h4
    have il:i < (Z3 0 1000).length:=by rw [Y5];lia
    have ei:(Z3 0 1000)[i]=.int (i:Int):=(yu (Ab il)).2
    rw [Bi il,ei]
    have ov:=qX A0.h3
    rw [hw] at ov
    obtain ⟨r',S2,v2,bg2,F2,es,A2,g2,_,_,rm2⟩:=A.step hw
    rw [hs] at es
    cases es
    obtain ⟨w2,e2,At2,Fr2⟩:=kP A.tree (A.wok hw) hr A0 D (by lia) (by lia) (by lia) hs
    have sz:=TR.VO (m:=50) (fun m p hm=>by have:=(A.tree.page m p hm).few;lia) hs
    obtain ⟨_,_,_,bgx,esx,stx⟩:=TR.K7 A.tree (A.wok hw) hw (A.unt hw)
    rw [hs] at esx
    cases esx
    have ln:=stx.len
    obtain ⟨w3,z3,e3,At3,Fr3⟩:=ih he (i+1) (.val (.int (i:Int))) A2 (by lia) At2 (by lia) (by lia) (by lia) (by lia)
    refine ⟨w3,z3,(Qdv ?_).trans e3,At3,Fr2.trans Fr3⟩
    exact (Qk ((QN (QV (Q5 (Qf rfl) A0.h3 (zc ..) Xg rfl ov))).trans QP)).trans (JV (Q5 (Qf rfl) A0.h3 (kW ..) Xg rfl e2))
theorem Qe1 {F F':Es}:∀ {d:TR.Deed},TR.Ans F F' v d->F'=dF F d
 | .find _,h=>h.1
 | .put _ _,h=>h.1
 | .cut _,h=>h.1
 | .stretch _ _,h=>h.1
theorem Qfe {U:Hs} {n k:Nat} {S:TR.Sh} {F:Es} (T:TR.Tree S bg) (Dt:∀ s,s < S.pg.length->s≠S.top->TR.Kd S s) (K:TR.Fk S) (hT:TR.TabIs S F) (hr:S.O2<=50) (h1:U[n]?=some (.ins "Shelf" (shF S.O2 k S.top S.rd S.wr))) (h2:U[k]?=some (.lst (S.pg.map pgD))) (nk:n≠k) (hl:S.pg.length<=900) (d:TR.Deed) (hd:TR.U6 d):
  ∃ x hp' S' bg',Xj [.ref n,Zy d] U=some (x,hp')/\TR.Tree S' bg'/\(∀ s,s < S'.pg.length->s≠S'.top->TR.Kd S' s)/\TR.Fk S'/\TR.TabIs S' (dF F d)/\TR.Grow S bg S' bg'/\TR.JO S' 0<=TR.JO S 0+1/\S'.O2=S.O2/\hp'[n]?=some (.ins "Shelf" (shF S'.O2 k S'.top S'.rd S'.wr))/\hp'[k]?=some (.lst (S'.pg.map pgD))/\U.length<=hp'.length/\∀ i,i < U.length->i≠n->i≠k->hp'[i]?=U[i]?:=by
 have ln:n < U.length:=(Ac.mp h1).1
 have lk:k < U.length:=(Ac.mp h2).1
 have D:Dif n k U.length (U.length+1) (U.length+2):=⟨nk,by lia,by lia,by lia,by lia,by lia,by lia,by lia,by lia,by lia⟩
 let w0:=U++[wkO n (U.length+1) (U.length+2) (TR.fresh d),.dic [],.lst []]
 have A0:At w0 n k U.length (U.length+1) (U.length+2) S (TR.fresh d):=⟨(Ah ln).trans h1,(Ah lk).trans h2,by simp [w0],by show (U++_)[_]?=_;rw [Aq (by lia)];simp;rfl,by show (U++_)[_]?=_;rw [Aq (by lia)];simp;rfl⟩
 obtain ⟨m,S',bg',F',v',g,st,ml,A',he,an,_,rm⟩:=TR.QgB T Dt K hT d hd
 have AF:TR.Al S bg F (TR.fresh d):=by
  refine ⟨T,K,hT,fun n h1 h2=>.inl (Dt n h1 h2),fun _=>?_,fun _=>TR.WOk.fresh rfl rfl rfl,fun _ h=>absurd h (by show ¬ 0 < 0;lia)⟩
  cases d with
  | find k=>rfl
  | put k x=>rfl
  | cut k=>rfl
  | stretch l h=>exact ⟨hd,.inl rfl⟩
 obtain ⟨w',z',eM,At',F'⟩:=QaV (dv:=Zy d) D st he 0 .un AF hr A0 (by lia) (by simp [TR.fresh]) (by simp [TR.fresh]) (by lia)
 have lv:=st.leaves AF
 have l1:TR.lvs S (TR.fresh d)=TR.JO S 0+1:=by unfold TR.lvs;rw [C9 ⟨rfl,rfl⟩]
 have l2:TR.lvs S' v'=TR.JO S' 0:=by unfold TR.lvs;rw [C8 (fun q=>by rw [he] at q;cases q.2)];rfl
 have tab:=A'.tab
 rw [Qe1 an] at tab
 refine ⟨.ref U.length,w',S',bg',?_,A'.tree,A'.all_told (.inr he),A'.fk,tab,g,by lia,rm,At'.h1,At'.h2,by have:=F'.1;simp [w0] at this;lia,fun i hi a1 a2=>?_⟩
 ·have mk:QJ 2 (JS "Walk" 3 Zv (Qd (Qc 0) (Qd (Qc 1) Qo))) [.val (.ref n),.val (Zy d),.un,.un] U=some ((.nx,[.val (.ref n),.val (Zy d),.val (.ref U.length),.un]),w0):=Q0 (vK (Z2 (Qf rfl) (Qf rfl)))
  rw [List.drop_zero] at eM
  have L:ja [.val (.ref n),.val (Zy d),.val (.ref U.length),.un] w0=some ((.rt (.ref U.length),[.val (.ref n),.val (Zy d),.val (.ref U.length),z']),w'):=q8 (Kx (m:=1000) (JN rfl) (by lia)) eM
  exact QI ((Qk mk).trans (Q3 L))
 ·rw [F'.2 i (by simp [w0];lia) a1 a2 (by lia) (by lia) (by lia)]
  exact Ah hi
theorem VL:PyData.strOk "read" = true:=by decide +kernel
theorem QcQ:PyData.strOk "side" = true:=by decide +kernel
theorem QcP:PyData.strOk "down" = true:=by decide +kernel
structure Inv (w:Hs) (S:TR.Sh) (bg:TR.Bg) (F:Es) (kvs:List (Key×DV)) (z:Zs) (N:Nat):Prop where
 T:TR.Tree S bg
 D:∀ s,s < S.pg.length->s≠S.top->TR.Kd S s
 K:TR.Fk S
 tab:TR.TabIs S F
 rm:S.O2<=50
 cnt:TR.JO S 0<=N+1
 h0:w[0]?=some (.dic kvs)
 h1:w[1]?=some (.ins "Shelf" (shF S.O2 2 S.top S.rd S.wr))
 h2:w[2]?=some (.lst (S.pg.map pgD))
 tb:Tb kvs z F
 zl:kvs.length<=N
structure Go (w:Hs) (S:TR.Sh) (bg:TR.Bg) (a:Nat) (v:TR.Wk) (l h:Int) (M:Nat):Prop where
 wk:w[a]?=some (wkO 1 (a+1) (a+2) v)
 fk:w[a+1]?=some (.dic (fkD v.O3))
 pr:w[a+2]?=some (.lst (prD v.O5))
 st:v.O7=false->w[a+3]?=some (.dic (stD v.aim h v.O5))
 a3:3<=a
 len:a+3 < w.length
 O0:v.O0=.stretch l h
 O4:v.O4=0
 ok:v.O7=false->TR.WOk S bg v
 aim:TR.Aim S bg v
 fl:v.O3.length<=M
 pl:v.O5.length<=50 * M
section
variable {w:Hs} {S:TR.Sh} {bg:TR.Bg} {F:Es} {kvs:List (Key×DV)} {z:Zs} {N a M:Nat} {v:TR.Wk} {l h:Int}
theorem Inv.pages (I:Inv w S bg F kvs z N):S.pg.length<=2 * (N+1):=by
 have:=TR.Qcd I.T I.K
 have:=I.cnt
 lia
theorem Qbf {f q:Nat} (h3:w[a]?=some (wkO 1 f q v)) (he:v.O7=false):Js [.ref a] w=some (.non,w) :=
 QI (env:=[.val (.ref a)]) (Q3 ((Zo (JH (b:=false) (QV ((Q8 (Qf rfl) h3 (YO ..)).trans (by rw [he]))))).trans (QM rfl)))
theorem gv {f q:Nat} {l h:Int} (h3:w[a]?=some (wkO 1 f q v)) (h5:w[q]?=some (.lst (prD v.O5))) (he:v.O7=true) (hd:v.O0=.stretch l h):Js [.ref a] w=some (.ref w.length,w++[.lst (prD v.O5)]):=by
 refine QI (env:=[.val (.ref a)]) ((Qk ((QN (JH (b:=true) (QV ((Q8 (Qf rfl) h3 (YO ..)).trans (by rw [he]))))).trans QP)).trans (Q3 ((Zo (hp1:=w) ?_).trans (QM ?_))))
 ·have d0:QF "Walk" "deed" (Qc 0) [.val (.ref a)] w=some (.tup [.str "stretch", .int l,.int h],w):=(Q8 (Qf rfl) h3 (qT ..)).trans (by rw [hd];rfl)
  exact X2 (Jw (i:=0) d0 rfl rfl) Y7 Y7 (by decide)
 ·refine qA (JN (Q8 (Qf rfl) h3 (U5 ..))) ?_
  have e:QcF (.ref q) w=some (prD v.O5,w):=by
   show (Ja q >>= _) w=_
   rw [Qh (ZX h5)];rfl
  show (QcF (.ref q) >>= fun ds=>XX (.lst ds)) w=_
  rw [Qh e];rfl
theorem VP (I:Inv w S bg F kvs z N) (G:Go w S bg a v l h M) (he:v.O7=false) (hN:N < 400) (hM:M < 900):
    ∃ w' v',Jt [.ref 1,.ref a,.ref (a+3),.ref 0] w=some (.bl true,w')/\Inv w' { S with rd:=S.rd+1 } bg F kvs z N/\Go w' { S with rd:=S.rd+1 } bg a v' l h (M+1)/\(v'.O7=true∨(v'.O7=false/\TR.muR S bg (v'.O6.getD S.top) < TR.muR S bg (v.O6.getD S.top))):=by
  have a3:=G.a3
  have al:=G.len
  have pg:=I.pages
  have fl:=G.fl
  have pl:=G.pl
  have D:Dif 1 2 a (a+1) (a+2):=⟨by decide,by lia,by lia,by lia,by lia,by lia,by lia,by lia,by lia,by lia⟩
  obtain ⟨r,S2,v2,bg2,es,st⟩:=TR.K7 I.T (G.ok he) he (fun g=>absurd g (by rw [G.O4];lia))
  obtain ⟨eS,g2,mv⟩:=TR.QcV I.T he G.O4 G.O0 es
  subst eS
  obtain ⟨F',tab',did,aim',deed'⟩:=TR.vz I.T (G.ok he) G.aim he I.tab es
  obtain ⟨w1,e1,A1,Fr1⟩:=kP I.T (G.ok he) I.rm ⟨I.h1,I.h2,G.wk,G.fk,G.pr⟩ D (by lia) (by lia) (by lia) es
  have rm:=I.rm
  have sz:=TR.VO (m:=50) (fun m p hm=>by have:=(I.T.page m p hm).few;lia) es
  have gb:TR.Grow { S with rd:=S.rd+1 } bg2 { S with rd:=S.rd+1 } bg:=⟨fun n p hn=>⟨((st.grow.old n p hn).1).symm,p,hn,rfl⟩⟩
  have k0:w1[0]?=some (.dic kvs):=(Fr1.2 0 (by lia) (by lia) (by lia) (by lia) (by lia) (by lia)).trans I.h0
  have kb:w1[a+3]?=some (.dic (stD v.aim h v.O5)):=(Fr1.2 (a+3) al (by lia) (by lia) (by lia) (by lia) (by lia)).trans (G.st he)
  have l1:=Fr1.1
  have fin:∀ w':Hs,Jt [.ref 1,.ref a,.ref (a+3),.ref 0] w=some (.bl true,w')->w1.length<=w'.length->(∀ i,i < w1.length->i≠a+3->w'[i]?=w1[i]?)->(v2.O7=false->w'[a+3]?=some (.dic (stD v2.aim h v2.O5)))->∃ w' v',Jt [.ref 1,.ref a,.ref (a+3),.ref 0] w=some (.bl true,w')/\Inv w' { S with rd:=S.rd+1 } bg F kvs z N/\Go w' { S with rd:=S.rd+1 } bg a v' l h (M+1)/\(v'.O7=true∨(v'.O7=false/\TR.muR S bg (v'.O6.getD S.top) < TR.muR S bg (v.O6.getD S.top))):=fun w' e ll k ks =>
    ⟨w',v2,e,⟨I.T.rd _ _,I.D,I.K,I.tab,I.rm,I.cnt,(k 0 (by lia) (by lia)).trans k0,(k 1 (by lia) (by lia)).trans A1.h1,(k 2 (by lia) (by lia)).trans A1.h2,I.tb,I.zl⟩,⟨(k a (by lia) (by lia)).trans A1.h3,(k (a+1) (by lia) (by lia)).trans A1.h4,(k (a+2) (by lia) (by lia)).trans A1.h5,ks,a3,by lia,deed'.trans G.O0,g2,fun q=>(st.wok q).grow gb,aim'.rd _ _,by lia,by lia⟩,mv⟩
  let E:Sl->Sl->Sl->En:=fun y4 y5 y6=>[.val (.ref 1),.val (.ref a),.val (.ref (a+3)),.val (.ref 0),y4,y5,y6]
  have ov:∀ (y4 y5 y6:Sl) (w':Hs),w'[a]?=w1[a]?->QD "Walk" "over" 1 Q6 (Qc 1) Qo (E y4 y5 y6) w'=some (.bl v2.O7,w'):=fun _ _ _ w' q=>Q5 (a:=a) (Qf rfl) (q.trans A1.h3) (zc ..) Xg rfl (qX (q.trans A1.h3))
  have pre:∀ (ds:List DV) (rest:DSx) (env':En) (w':Hs),Vr r=.tup ds->rest (E (.val (.int S.wr)) (.val (.tup ds)) .un) w1=some ((.rt (.bl true),env'),w')->Qr (QJ 4 (QD "Shelf" "writings" 1 ZB (Qc 0) Qo)) (Qr (QJ 5 (QD "Walk" "step" 1 Xx (Qc 1) Qo)) (Qr (sIf (eOr (Jo (eB (yi "tuple" (Qc 5)))) (eB (Qj neG (QD "Shelf" "writings" 1 ZB (Qc 0) Qo) (Qc 4)))) (QG (eC (.bl false))) Zc) rest)) (E .un .un .un) w=some ((.rt (.bl true),env'),w'):=fun ds rest env' w' hr hs=>by
    rw [hr] at e1
    refine (Qk (env1:=E (.val (.int S.wr)) .un .un) (hp1:=w) (Q0 (Q5 (a:=1) (Qf rfl) I.h1 (vq ..) Xg rfl (yc I.h1)))).trans ?_
    refine (Qk (env1:=E (.val (.int S.wr)) (.val (.tup ds)) .un) (hp1:=w1) (Q0 (Q5 (a:=a) (Qf rfl) G.wk (kW ..) Xg rfl e1))).trans ?_
    refine (Qk (env1:=E (.val (.int S.wr)) (.val (.tup ds)) .un) (hp1:=w1) ((QN ?_).trans QP)).trans hs
    refine (Ye (JH (b:=true) (QV (rfl:yi "tuple" (Qc 5) (E (.val (.int S.wr)) (.val (.tup ds)) .un) w1=some (.bl true,w1))))).trans ?_
    exact QV (Ql (Q5 (a:=1) (Qf rfl) A1.h1 (vq ..) Xg rfl (yc A1.h1)) (Qf rfl) (Qg0 _ _))
  have move:∀ (x:Str) (n t:Int),Vr r=.tup [.str x,.int n,.int t]->PyData.strOk x=true->(x==("read" : Str))=false->QdM (.str x) (.tup [.str "side", .str "down"]) w1=some (.bl false,w1)->v2.O7=false->v2.aim=v.aim->v2.O5=v.O5->_:=fun x n t hr ok x1 x2 ve va vp=>by
    refine fin w1 (QI (env:=E (.val (.int S.wr)) (.val (.tup [.str x,.int n,.int t])) .un) (pre _ _ _ _ hr ?_)) (Ae _) (fun _ _ _=>rfl) (fun _=>by rw [va,vp];exact kb)
    let e:En:=E (.val (.int S.wr)) (.val (.tup [.str x,.int n,.int t])) .un
    have o:=ov (.val (.int S.wr)) (.val (.tup [.str x,.int n,.int t])) .un w1 rfl
    rw [ve] at o
    have i0:Qj ixG (Qc 5) (eC (.int 0)) e w1=some (.str x,w1):=Jw (i:=0) (ds:=[.str x,.int n,.int t]) (Qf rfl) rfl rfl
    refine (Qk (env1:=e) (hp1:=w1) ((QN (X2 i0 ok VL x1)).trans ((QN ?_).trans QP))).trans ?_
    . exact (Ye (QV (Ql i0 (JL (Z2 rfl rfl) (by simp)) x2))).trans (QV o)
    refine (Qk (env1:=e) (hp1:=w1) ((QN (QV o)).trans QP)).trans (QM ?_)
    exact Ql (x:=.non) (y:=.non) (Q5 (a:=a) (Qf rfl) A1.h3 (yz ..) Xg rfl (Qbf A1.h3 ve)) rfl rfl
  have readR:∀ (n:Nat) (ps:Em) (x:Option (Nat×Int)) (e:Int),r=.read n ps x->((x=none/\e=h)∨∃ s,x=some (s,e)/\v.aim < e/\e < h)->TR.Rds F v.aim e ps->v2.O5=v.O5++ps->v2.O7=x.isNone->(v2.O7=false->v2.aim=e)->_:=fun n ps x e hr hx R vp ve va=>by
    let w2:=w1.set (a+3) (.dic (stD e h (v.O5++ps)))
    have zl:z.length < 90000:=by have:=I.tb.d.len;have:=I.zl;lia
    have pp:v2.O5.length=v.O5.length+ps.length:=by rw [vp,An]
    have rd:=QbV (w:=w1) (b:=a+3) (n:=n) I.tb k0 kb hx R zl (by lia)
    have l2:w2.length=w1.length:=by simp [w2]
    have kk:∀ i,i≠a+3->w2[i]?=w1[i]?:=fun i hi=>QZ _ _ _ _ (Ne.symm hi)
    have b2:w2[a+3]?=some (.dic (stD e h (v.O5++ps))):=Zb _ _ _ (by rw [kb];rfl)
    let c:DV:=match x with | none=>.non | some (s,_)=>.int s
    let u:DV:=match x with | none=>.non | some (_,y)=>.int y
    let ds:List DV:=[.str "read", .int n,.tup (prD ps),c,u]
    have rw0:Vr (.read n ps x)=.tup ds:=by
      cases x with
      | none=>rfl
      | some p=>rfl
    rw [rw0] at rd
    have hr':Vr r=.tup ds:=by rw [hr];exact rw0
    let e6:En:=E (.val (.int S.wr)) (.val (.tup ds)) .un
    have i0:Qj ixG (Qc 5) (eC (.int 0)) e6 w1=some (.str "read", w1):=Jw (i:=0) (ds:=ds) (Qf rfl) rfl rfl
    have iu:isD u .non=pure (.bl x.isNone):=by cases x<;>rfl
    have s4:sIf (eB (Qj eqG (Qj ixG (Qc 5) (eC (.int 0))) (eC (.str "read")))) (Qr (sIf (eOr (eB (Qj neG (ZT Yb (Qd (Qc 5) Qo)) (eC (.int 5)))) (Jo (eB (Qt 3 YT (Qd (Qc 5) (Qd (Qc 2) (Qd (Qc 3) Qo))))))) (QG (eC (.bl false))) Zc) (sIf (eB (Qj neG (QD "Walk" "over" 1 Q6 (Qc 1) Qo) (Qj isD (Qj ixG (Qc 5) (eC (.int 4))) (eC .non)))) (QG (eC (.bl false))) Zc)) (sIf (eOr (eB (Qj QdM (Qj ixG (Qc 5) (eC (.int 0))) (Zz (Qd (eC (.str "side")) (Qd (eC (.str "down")) Qo))))) (eB (QD "Walk" "over" 1 Q6 (Qc 1) Qo))) (QG (eC (.bl false))) Zc) e6 w1=some ((.nx,e6),w2):=by
      refine (Zo (X2 i0 VL VL (by decide))).trans ?_
      refine (Qk (env1:=e6) (hp1:=w2) ((QN ?_).trans QP)).trans ((QN ?_).trans QP)
      . refine (Ye (QV ((Ql (x:=.int 5) (y:=.int 5) (qA (JN (Qf rfl)) rfl) rfl (Qg0 5 _))))).trans ?_
        exact JH (b:=true) (QV (Q4 (Ji (Qf rfl) (Qf rfl) (Qf rfl)) rfl rd))
      . have o:=ov (.val (.int S.wr)) (.val (.tup ds)) .un w2 (kk a (by lia))
        rw [ve] at o
        have i4:Qj isD (Qj ixG (Qc 5) (eC (.int 4))) (eC .non) e6 w2=some (.bl x.isNone,w2):=Ql (Jw (i:=4) (ds:=ds) (Qf rfl) rfl rfl) rfl (by rw [iu];rfl)
        exact QV (Ql o i4 (Vj (Qhh 0 _) (by decide) _))
    have o:=ov (.val (.int S.wr)) (.val (.tup ds)) .un w2 (kk a (by lia))
    cases x with
    | some p =>
      have vf:v2.O7=false:=ve
      rw [vf] at o
      refine fin w2 (QI (env:=e6) (pre ds _ _ _ hr' ((Qk s4).trans ((Qk (env1:=e6) (hp1:=w2) ((QN (QV o)).trans QP)).trans (QM ?_))))) (by lia) (fun i _ hi=>kk i hi) (fun _=>by rw [va vf,vp];exact b2)
      have h3:=(kk a (by lia)).trans A1.h3
      exact Ql (x:=.non) (y:=.non) (Q5 (a:=a) (Qf rfl) h3 (yz ..) Xg rfl (Qbf h3 vf)) rfl rfl
    | none =>
      have vt:v2.O7=true:=ve
      rw [vt] at o
      have dd:=deed'.trans G.O0
      let q:=w2.length
      let w3:=w2++[.lst (prD v2.O5)]
      have old3:∀ i,i < w2.length->w3[i]?=w2[i]?:=fun i hi=>Ah hi
      let w4:=w3.set q (.lst [])
      have old4:∀ i,i < w2.length->w4[i]?=w2[i]?:=fun i hi=>(QZ _ _ _ _ (by show w2.length≠i;lia)).trans (old3 i hi)
      let w5:=w4++[.lst (prD v2.O5)]
      have l4:w4.length=w2.length+1:=by simp [w4,w3]
      have old5:∀ i,i < w2.length->w5[i]?=w2[i]?:=fun i hi=>(Ah (by lia)).trans (old4 i hi)
      have g3:w3[q]?=some (.lst (prD v2.O5)):=by simp [w3,q]
      have g5:w5[w4.length]?=some (.lst (prD v2.O5)):=by simp [w5]
      have h3a:=(kk a (by lia)).trans A1.h3
      have h5a:=(kk (a+2) (by lia)).trans A1.h5
      let e7:En:=E (.val (.int S.wr)) (.val (.tup ds)) (.val (.ref q))
      refine fin w5 (QI (env:=e7) (pre ds _ _ _ hr' ((Qk s4).trans (Q3 ((Zo (QV o)).trans ?_))))) (by simp [w5];lia) (fun i hi hne=>(old5 i (by lia)).trans (kk i hne)) (fun vf=>by rw [vt] at vf;cases vf)
      refine (Qk (env1:=e7) (hp1:=w3) (Q0 (Q5 (a:=a) (Qf rfl) h3a (yz ..) Xg rfl (gv h3a h5a vt dd)))).trans ?_
      have sp:∀ w':Hs,w'[a+3]?=w2[a+3]?->Qj ixG (Qc 2) (eC (.str "pairs")) e7 w'=some (.lst (prD v2.O5),w'):=fun w' q=>by rw [vp];exact yY (Qf rfl) (q.trans b2) (QeX ..)
      refine (Qk (env1:=e7) (hp1:=w3) ((QN ?_).trans QP)).trans ?_
      . refine (Ye (JH (b:=true) (QV (QdA (a:=q) (Qf rfl) g3)))).trans ?_
        exact QV (Ql (Qf rfl) (sp w3 (old3 _ (by lia))) (Qb5 g3 (uI _) (by decide)))
      refine (Qk (env1:=e7) (hp1:=w4) (JV (Qbp (a:=q) (Qf rfl) g3))).trans (QM ?_)
      refine Ql (x:=.ref w4.length) (Q5 (a:=a) (Qf rfl) ((old4 a (by lia)).trans h3a) (yz ..) Xg rfl (gv ((old4 a (by lia)).trans h3a) ((old4 (a+2) (by lia)).trans h5a) vt dd)) (sp w5 (old5 _ (by lia))) (QbA g5 (uI _) (by decide))
  cases r with
  | non=>exact did.elim
  | found n x=>obtain ⟨k,q,_⟩:=did;rw [G.O0] at q;cases q
  | put n x t=>obtain ⟨k,y,q,_⟩:=did;rw [G.O0] at q;cases q
  | cut n x=>obtain ⟨k,q,_⟩:=did;rw [G.O0] at q;cases q
  | told n t=>exact absurd did.1 (by rw [G.O4];lia)
  | raised n t=>exact absurd did.1 (by rw [G.O4];lia)
  | side n t=>exact move "side" n t rfl QcQ (by decide) (by rfl) did.2.2.2.1 did.2.2.2.2.2 did.2.2.1
  | down n t=>exact move "down" n t rfl QcP (by decide) (by rfl) did.2.2.2.1 did.2.2.2.2.2 did.2.2.1
  | read n ps t =>
    obtain ⟨l',h',q,f1,f2,f3,f4⟩:=did
    rw [G.O0] at q
    cases q
    cases t with
    | none=>exact readR n ps none h rfl (.inl ⟨rfl,rfl⟩) f4.1 f2 f4.2 (fun vf=>by rw [f4.2] at vf;cases vf)
    | some p=>exact readR n ps (some p) p.2 rfl (.inr ⟨p.1,rfl,f4.1,f4.2.1⟩) f4.2.2.1 f2 f4.2.2.2.2.1 (fun _=>f4.2.2.2.1)
end
section
variable {w:Hs} {S:TR.Sh} {bg:TR.Bg} {F:Es} {kvs:List (Key×DV)} {z:Zs} {N a M:Nat} {v:TR.Wk} {l h:Int}
theorem Inv.done (I:Inv w S bg F kvs z N) (hN:N < 400) (d:TR.Deed) (hd:TR.U6 d):∃ x w' S' bg',Xj [.ref 1,Zy d] w=some (x,w')/\TR.Grow S bg S' bg'/\w.length<=w'.length/\(∀ i,i < w.length->i≠1->i≠2->w'[i]?=w[i]?)/\∀ kvs' z',Tb kvs' z' (dF F d)->kvs'.length<=N+1->Inv (w'.set 0 (.dic kvs')) S' bg' (dF F d) kvs' z' (N+1):=by
 have pg:=I.pages
 have rm:=I.rm
 have cn:=I.cnt
 obtain ⟨x,w',S',bg',e,f1,f2,f3,f4,f5,f6,f7,f8,f9,fa,fb⟩:=Qfe I.T I.D I.K I.tab I.rm I.h1 I.h2 (by decide) (by lia) d hd
 have l0:0 < w.length:=(Ac.mp I.h0).1
 refine ⟨x,w',S',bg',e,f5,fa,fb,fun kvs' z' t kl=>⟨f1,f2,f3,f4,by lia,by lia,Zb _ _ _ (by rw [Ab (by lia)];rfl),(QZ _ _ _ _ (by decide)).trans f8,(QZ _ _ _ _ (by decide)).trans f9,t,kl⟩⟩
theorem Go.grow {w':Hs} (G:Go w S bg a v l h M) (g:TR.Grow S bg S' bg') (hl:w.length<=w'.length) (k:∀ i,i < w.length->3<=i->w'[i]?=w[i]?) {M':Nat} (hM:M<=M'):Go w' S' bg' a v l h M':=by
 have a3:=G.a3
 have al:=G.len
 have fl:=G.fl
 have pl:=G.pl
 exact ⟨(k a (by lia) (by lia)).trans G.wk,(k (a+1) (by lia) (by lia)).trans G.fk,(k (a+2) (by lia) (by lia)).trans G.pr,fun e=>(k (a+3) (by lia) (by lia)).trans (G.st e),a3,by lia,G.O0,G.O4,fun e=>(G.ok e).grow g,G.aim.grow g,by lia,by lia⟩
end
def QfD (a b:Int):KK [.int a,.int b]=pure (.int (if b < a then b else a)):=rfl
theorem QgT (c:Int) (U:Hs):∃ k,YA [.int c] U=some (.int k,U):=by
 have p5:=Z0 c 10007 5 (by decide) (by decide) (by decide)
 have g:=Xs c 10007 5 (by decide)
 have l:=Y4 c 10007 5 (by decide)
 generalize X5 c 10007 5=q at p5 g l
 let e:En:=[.val (.int c),.val (.int q)]
 have s1:QJ 1 (Qt 3 Qw (Qd (Qc 0) (Qd (eC (.int 10007)) (Qd (eC (.int 5)) Qo)))) [.val (.int c),.un] U=some ((.nx,e),U):=Q0 (Q4 (Ji (Qf rfl) rfl rfl) rfl (Zg p5 _))
 have t:eB (Qj eqD (Qc 1) (eC (.int 0))) e U=some (q==0,U):=QV (Ql (Qf rfl) rfl (Zg (ZH _ _) _))
 by_cases h:q=0
 ·rw [h] at t
  have a:=XE c 10000000000000000000000000000000000000000 (by decide)
  have b:=uA (c % 10000000000000000000000000000000000000000) 1000000000039 (by decide) (by decide)
  have d:=xu 2 1000000000000000000000000000000 (by decide) (by decide)
  have m:=XE (c % 10000000000000000000000000000000000000000 * 1000000000039+11) 2000000000000000000000000000001 (by decide)
  exact ⟨_,QI (env:=e) ((Qk s1).trans (Q3 ((Zo t).trans (QM (Ql (Ql (Ql (Ql (Ql (Qf rfl) (Ql rfl rfl (Zg QeT _)) (Zg a _)) rfl (Zg b _)) rfl rfl) (Ql (Ql rfl (Ql rfl rfl (Zg J3 _)) (Zg d _)) rfl rfl) (Zg m _)) (Ql rfl rfl (Zg J3 _)) rfl)))))⟩
 ·rw [show (q==0)=false by simpa using h] at t
  obtain ⟨v,hv,hpos⟩:∃ v:Int,atI [DV.int 10,.int 10,.int 41,.int 120,.int 120] q=some (.int v)/\0 < v:=by
   rcases (by lia:q=1∨q=2∨q=3∨q=4) with r | r | r | r<;>rw [r]
   ·exact ⟨10,rfl,by decide⟩
   ·exact ⟨41,rfl,by decide⟩
   ·exact ⟨120,rfl,by decide⟩
   ·exact ⟨120,rfl,by decide⟩
  refine ⟨_,QI (env:=e) ((Qk s1).trans ((Qk ((QN t).trans QP)).trans (QM (Ql (Q4 (Ji (v'':=.int v) (Qf rfl) rfl (Ql (x:=.lst [.int 10,.int 10,.int 41,.int 120,.int 120]) rfl (Qf rfl) ?_)) rfl (Zg (Z0 c 10009 v (by decide) (by decide) hpos) _)) rfl rfl))))⟩
  show Y2 (atI _ q) U=_
  rw [hv];rfl
theorem Qez (c:Int) (U:Hs):∃ k,qw [.int c] U=some (.int k,U):=by
 have p4:=Z0 c 10037 4 (by decide) (by decide) (by decide)
 have t:eB (Qj eqD (Qt 3 Qw (Qd (Qc 0) (Qd (eC (.int 10037)) (Qd (eC (.int 4)) Qo)))) (eC (.int 0))) [.val (.int c)] U=some (X5 c 10037 4==0,U):=QV (Ql (Q4 (Ji (Qf rfl) rfl rfl) rfl (Zg p4 _)) rfl (Zg (ZH _ _) _))
 by_cases h:X5 c 10037 4=0
 ·rw [h] at t
  have a:=XE c 10000000000000000000000000000000000000000 (by decide)
  have b:=uA (c % 10000000000000000000000000000000000000000) 1000000000039 (by decide) (by decide)
  have d:=xu 2 1000000000000000000000000000000 (by decide) (by decide)
  have m:=XE (c % 10000000000000000000000000000000000000000 * 1000000000039+5) 2000000000000000000000000000001 (by decide)
  exact ⟨_,QI (env:=[.val (.int c)]) (Q3 ((Zo t).trans (QM (Ql (Ql (Ql (Ql (Ql (Qf rfl) (Ql rfl rfl (Zg QeT _)) (Zg a _)) rfl (Zg b _)) rfl rfl) (Ql (Ql rfl (Ql rfl rfl (Zg J3 _)) (Zg d _)) rfl rfl) (Zg m _)) (Ql rfl rfl (Zg J3 _)) rfl))))⟩
 ·rw [show (X5 c 10037 4==0)=false by simpa using h] at t
  exact ⟨_,QI (env:=[.val (.int c)]) ((Qk ((QN t).trans QP)).trans (QM (Ql (Q4 (Ji (Qf rfl) rfl rfl) rfl (Zg (Z0 c 10039 9 (by decide) (by decide) (by decide)) _)) rfl rfl)))⟩
theorem Qfd (c:Int) (U:Hs):∃ d,zF [.int c] U=some (Zy d,U)/\TR.U6 d:=by
 have p10:=Z0 c 10061 10 (by decide) (by decide) (by decide)
 obtain ⟨k,ke⟩:=QgT c U
 obtain ⟨x,xe⟩:=Qez c U
 generalize X5 c 10061 10=kd at p10
 let E:Sl->Sl->Sl->En:=fun z3 z4 z5=>[.val (.int c),.val (.int kd),.val (.int k),z3,z4,z5]
 have s1:QJ 1 (Qt 3 Qw (Qd (Qc 0) (Qd (eC (.int 10061)) (Qd (eC (.int 10)) Qo)))) [.val (.int c),.un,.un,.un,.un,.un] U=some ((.nx,[.val (.int c),.val (.int kd),.un,.un,.un,.un]),U):=Q0 (Q4 (Ji (Qf rfl) rfl rfl) rfl (Zg p10 _))
 have s2:QJ 2 (Qt 1 YA (Qd (Qc 0) Qo)) [.val (.int c),.val (.int kd),.un,.un,.un,.un] U=some ((.nx,E .un .un .un),U):=Q0 (Q4 (JN (Qf rfl)) rfl ke)
 have t:∀ n:Int,eB (Qj ltD (Qc 1) (eC (.int n))) (E .un .un .un) U=some (decide (kd < n),U):=fun n=>QV (Ql (Qf rfl) rfl (Zg (Zw _ _) _))
 have go:∀ (g:DSx) (d:DV) (e:En),g (E .un .un .un) U=some ((.rt d,e),U)->Qr (QJ 1 (Qt 3 Qw (Qd (Qc 0) (Qd (eC (.int 10061)) (Qd (eC (.int 10)) Qo))))) (Qr (QJ 2 (Qt 1 YA (Qd (Qc 0) Qo))) g) [.val (.int c),.un,.un,.un,.un,.un] U=some ((.rt d,e),U):=fun g d e h=>(Qk s1).trans ((Qk s2).trans h)
 by_cases h1:kd < 5
 ·have t5:=t 5
  rw [Ed h1] at t5
  exact ⟨.put k x,QI (go _ _ _ (Q3 ((Zo t5).trans (QM (JL (Ji rfl (Qf rfl) (Q4 (JN (Qf rfl)) rfl xe)) (by simp)))))),trivial⟩
 have t5:=t 5
 rw [Ef h1] at t5
 by_cases h2:kd < 7
 ·have t7:=t 7
  rw [Ed h2] at t7
  exact ⟨.cut k,QI (go _ _ _ ((Qk ((QN t5).trans QP)).trans (Q3 ((Zo t7).trans (QM (JL (Z2 rfl (Qf rfl)) (by simp))))))),trivial⟩
 have t7:=t 7
 rw [Ef h2] at t7
 by_cases h3:kd < 9
 ·have t9:=t 9
  rw [Ed h3] at t9
  exact ⟨.find k,QI (go _ _ _ ((Qk ((QN t5).trans QP)).trans ((Qk ((QN t7).trans QP)).trans (Q3 ((Zo t9).trans (QM (JL (Z2 rfl (Qf rfl)) (by simp)))))))),trivial⟩
 have t9:=t 9
 rw [Ef h3] at t9
 have p50:=Z0 c 10067 50 (by decide) (by decide) (by decide)
 have p150:=Z0 c 10151 150 (by decide) (by decide) (by decide)
 have p4:=Z0 c 10069 4 (by decide) (by decide) (by decide)
 have g4:=Xs c 10069 4 (by decide)
 have l4:=Y4 c 10069 4 (by decide)
 have g50:=Xs c 10067 50 (by decide)
 have g150:=Xs c 10151 150 (by decide)
 generalize X5 c 10069 4=w4 at p4 g4 l4
 generalize X5 c 10067 50=x5 at p50 g50
 generalize X5 c 10151 150=x15 at p150 g150
 obtain ⟨lo,el,lo1⟩:∃ lo:Int,KK [.int k,.int (1000000000000000000000000000000 - 1)]=pure (.int lo)/\lo<=999999999999999999999999999999:=⟨_,QfD _ _,by split<;>lia⟩
 obtain ⟨ne,en,ne1⟩:∃ ne:Int,KK [.int 1000000000000000000000000000000,.int (lo+1+x5)]=pure (.int ne)/\lo < ne:=⟨_,QfD _ _,by split<;>lia⟩
 obtain ⟨fa,ef,fa1⟩:∃ fa:Int,KK [.int 1000000000000000000000000000000,.int (lo+51+x15)]=pure (.int fa)/\lo < fa:=⟨_,QfD _ _,by split<;>lia⟩
 obtain ⟨v,hv,lv⟩:∃ v:Int,atI [DV.int (lo+1),.int ne,.int fa,.int 1000000000000000000000000000000] w4=some (.int v)/\lo < v:=by
  rcases (by lia:w4=0∨w4=1∨w4=2∨w4=3) with q | q | q | q<;>rw [q]
  ·exact ⟨_,rfl,by lia⟩
  ·exact ⟨_,rfl,ne1⟩
  ·exact ⟨_,rfl,fa1⟩
  ·exact ⟨_,rfl,by lia⟩
 have pw:∀ e:En,Qj qq (eC (.int 10)) (eC (.int 30)) e U=some (.int 1000000000000000000000000000000,U):=fun e=>Ql rfl rfl (Zg J3 _)
 have pk:∀ (e:En) (p m r:Int),e[0]?=some (.val (.int c))->Qw [.int c,.int p,.int m]=pure (.int r)->Qt 3 Qw (Qd (Qc 0) (Qd (eC (.int p)) (Qd (eC (.int m)) Qo))) e U=some (.int r,U):=fun e p m r h h'=>Q4 (Ji (Qf h) rfl rfl) rfl (Zg h' _)
 refine ⟨.stretch lo v,QI (go _ _ (E (.val (.int lo)) (.val (.int ne)) (.val (.int fa))) ((Qk ((QN t5).trans QP)).trans ((Qk ((QN t7).trans QP)).trans ((Qk ((QN t9).trans QP)).trans ?_)))),lv⟩
 refine (Qk (env1:=E (.val (.int lo)) .un .un) (hp1:=U) (Q0 (qA (Z2 (Qf rfl) (Ql (pw _) rfl rfl)) (Zg el _)))).trans ?_
 refine (Qk (env1:=E (.val (.int lo)) (.val (.int ne)) .un) (hp1:=U) (Q0 (qA (Z2 (pw _) (Ql (Ql (Qf rfl) rfl rfl) (pk _ _ _ _ rfl p50) rfl)) (Zg en _)))).trans ?_
 refine (Qk (env1:=E (.val (.int lo)) (.val (.int ne)) (.val (.int fa))) (hp1:=U) (Q0 (qA (Z2 (pw _) (Ql (Ql (Qf rfl) rfl rfl) (pk _ _ _ _ rfl p150) rfl)) (Zg ef _)))).trans (QM ?_)
 have ls:XC (Qd (Qj ZL (Qc 3) (eC (.int 1))) (Qd (Qc 4) (Qd (Qc 5) (Qd (Qj qq (eC (.int 10)) (eC (.int 30))) Qo)))) (E (.val (.int lo)) (.val (.int ne)) (.val (.int fa))) U=some (.lst [.int (lo+1),.int ne,.int fa,.int 1000000000000000000000000000000],U):=by
  unfold XC
  rw [Qh (Gh (Ql (Qf rfl) rfl rfl) (Qf rfl) (Qf rfl) (pw _))];rfl
 refine JL (Ji rfl (Qf rfl) (Ql ls (pk _ _ _ _ rfl p4) ?_)) (by simp)
 show Y2 (atI _ w4) U=_
 rw [hv];rfl
theorem Qg3 (c:Int):∃ l h,Xk [.int c]=pure (Zy (.stretch l h))/\l < h:=by
 have p120:=Z0 c 10103 120 (by decide) (by decide) (by decide)
 have p30:=Z0 c 10111 30 (by decide) (by decide) (by decide)
 have p140:=Z0 c 10111 140 (by decide) (by decide) (by decide)
 have p2:=Z0 c 10133 2 (by decide) (by decide) (by decide)
 have p3:=Z0 c 10159 3 (by decide) (by decide) (by decide)
 have g120:=Y4 c 10103 120 (by decide)
 have g30:=Xs c 10111 30 (by decide)
 have g140:=Xs c 10111 140 (by decide)
 have g2:=Xs c 10133 2 (by decide)
 have l2:=Y4 c 10133 2 (by decide)
 generalize X5 c 10103 120=lo at p120 g120
 generalize X5 c 10111 30=x3 at p30 g30
 generalize X5 c 10111 140=x14 at p140 g140
 generalize X5 c 10133 2=x2 at p2 g2 l2
 obtain ⟨v,hv,lv⟩:∃ v:Int,atI [DV.int x3,.int (30+x14)] x2=some (.int v)/\0<=v:=by
  rcases (by lia:x2=0∨x2=1) with q | q<;>rw [q]
  ·exact ⟨_,rfl,g30⟩
  ·exact ⟨_,rfl,by lia⟩
 by_cases h3:X5 c 10159 3=0
 ·rw [h3] at p3
  exact ⟨lo - 5,1000000000000000000000000000000,by simp [Xk,jZ,Q7,Qr,QJ,QG,X7,sIf,Zc,zV,zf,zT,zU,Qj,Qc,eC,eB,asB,Xm,eOr,Jo,XB,zL,X1,eIf,zJ,Qo,Qd,Zz,XC,Qt,ZT,Qz,gN,ZE,ZW,ZY,Zw,ZZ,Z5,ZV,J3,X6,zR,ZH,Jm,p120,p30,p140,p2,p3,hv,ixD,asI,Yo,lim,Zy],by lia⟩
 ·have h3':(X5 c 10159 3==0)=false:=by simpa using h3
  exact ⟨lo - 5,lo - 5+1+v,by simp [Xk,jZ,Q7,Qr,QJ,QG,X7,sIf,Zc,zV,zf,zT,zU,Qj,Qc,eC,eB,asB,Xm,eOr,Jo,XB,zL,X1,eIf,zJ,Qo,Qd,Zz,XC,Qt,ZT,Qz,gN,ZE,ZW,ZY,Zw,ZZ,Z5,ZV,J3,X6,zR,ZH,Jm,p120,p30,p140,p2,p3,h3',hv,ixD,asI,Yo,lim,Zy],by lia⟩
theorem Qdf (ns:List Int) (k:Nat) (hl:ns.length<=63):∃ x,JM [.lst (ns.map .int),.int k]=pure (.int x):=by
 by_cases h:k < ns.length
 ·have a:=jc (xs:=ns.map DV.int) (j:=k) (v:=.int ns[k]) (by simp [h])
  refine ⟨ns[k],?_⟩
  have h':(k:Int) < (ns.length:Int):=by lia
  simp [JM,Yt,Q7,Qr,QJ,QG,X7,sIf,Zc,zV,zf,zT,zU,Qj,Qc,eC,eB,asB,Xm,eOr,Jo,XB,zL,X1,eIf,zJ,Qo,Qd,Zz,XC,Qt,ZT,Qz,gN,ZE,ZW,ZY,Zw,ZZ,Z5,ZV,J3,X6,zR,ZH,Jm,qp,ixD,asI,a,h']
 ·have h':¬ (k:Int) < (ns.length:Int):=by lia
  exact ⟨0,by simp [JM,Yt,Q7,Qr,QJ,QG,X7,sIf,Zc,zV,zf,zT,zU,Qj,Qc,eC,eB,asB,Xm,eOr,Jo,XB,zL,X1,eIf,zJ,Qo,Qd,Zz,XC,Qt,ZT,Qz,gN,ZE,ZW,ZY,Zw,ZZ,Z5,ZV,J3,X6,zR,ZH,Jm,qp,h']⟩
theorem QhL (r:Nat) (h:2<=r) (h':r<=50):Inv [.dic [],.ins "Shelf" (shF r 2 0 0 0),.lst [emp]] ⟨r,[⟨0,[],[],none,none⟩],0,0,0⟩ (fun _=>none) (fun _=>none) [] [] 0:=by
 have one:∀ (n:Nat) (p:TR.Pg),([⟨0,[],[],none,none⟩]:List TR.Pg)[n]?=some p->n=0/\p=⟨0,[],[],none,none⟩:=fun n p U=>by
  match n,U with
  | 0,U=>cases U;exact ⟨rfl,rfl⟩
  | n+1,U=>simp at U
 refine ⟨QcZ r h,fun s h1 h2=>?_,fun n p U h0=>?_,fun k v=>⟨fun q=>(by cases q),fun ⟨n,p,U,_,m⟩=>?_⟩,h',?_,rfl,rfl,rfl,⟨List.Perm.refl _,List.Pairwise.nil,fun k v=>⟨fun q=>(by cases q),fun q=>(by cases q)⟩⟩,Ae _⟩
 ·have h1:s < 1:=h1
  have h2:s≠0:=h2
  lia
 ·rw [(one n p U).2] at h0;exact absurd h0 (by decide)
 ·rw [(one n p U).2] at m;cases m
 ·exact Bj (Cb _ _) (by simp)
theorem Qdc (c:Int):∃ S bg F kvs z hp',qu [.int c,.ref 0] [.dic []]=some (.ref 1,hp')/\Inv hp' S bg F kvs z 60:=by
 have p7:=Zg (Z0 c 10079 7 (by decide) (by decide) (by decide))
 have p2:=Zg (Z0 c 10091 2 (by decide) (by decide) (by decide))
 have p25:=Zg (Z0 c 10093 25 (by decide) (by decide) (by decide))
 have p8:=Zg (Z0 c 10141 8 (by decide) (by decide) (by decide))
 have a1:=Xs c 10079 7 (by decide)
 have a2:=Y4 c 10079 7 (by decide)
 have b1:=Xs c 10091 2 (by decide)
 have b2:=Y4 c 10091 2 (by decide)
 have c1:=Xs c 10093 25 (by decide)
 have c2:=Y4 c 10093 25 (by decide)
 generalize X5 c 10079 7=x at p7 a1 a2
 generalize X5 c 10091 2=y at p2 b1 b2
 generalize X5 c 10093 25=z at p25 c1 c2
 generalize X5 c 10141 8=u at p8
 have xy0:0<=x * y:=Int.mul_nonneg a1 b1
 have xy1:x * y<=6 * 1:=Int.mul_le_mul (by lia) (by lia) b1 (by decide)
 obtain ⟨r,hr⟩:=Qb4 (show 0<=2+x * y by lia)
 have mm:=Zg (xu x y (by lia) (by lia))
 have i0:ZR [.ref 1,.int r] [.dic [],.ins "Shelf" []]=some (.non,[.dic [],.ins "Shelf" (shF r 2 0 0 0),.lst [emp]]):=Qdz r [.dic []]
 have s1:QJ 2 (JS "Shelf" 2 ZR (Qd (Qj ZL (eC (.int 2)) (Qj qM (Qt 3 Qw (Qd (Qc 0) (Qd (eC (.int 10079)) (Qd (eC (.int 7)) Qo)))) (Qt 3 Qw (Qd (Qc 0) (Qd (eC (.int 10091)) (Qd (eC (.int 2)) Qo)))))) Qo)) [.val (.int c),.val (.ref 0),.un,.un,.un,.un] [.dic []]=some ((.nx,[.val (.int c),.val (.ref 0),.val (.ref 1),.un,.un,.un]),[.dic [],.ins "Shelf" (shF r 2 0 0 0),.lst [emp]]):=by
  refine Q0 ?_
  have ar:Qd (Qj ZL (eC (.int 2)) (Qj qM (Qt 3 Qw (Qd (Qc 0) (Qd (eC (.int 10079)) (Qd (eC (.int 7)) Qo)))) (Qt 3 Qw (Qd (Qc 0) (Qd (eC (.int 10091)) (Qd (eC (.int 2)) Qo)))))) Qo [.val (.int c),.val (.ref 0),.un,.un,.un,.un] [.dic []]=some ([.int r],[.dic []]):=JN (Ql rfl (Ql (Q4 (Ji (Qf rfl) rfl rfl) rfl (p7 _)) (Q4 (Ji (Qf rfl) rfl rfl) rfl (p2 _)) (mm _)) (by rw [<- hr];rfl))
  unfold JS
  have al:XX (.ins "Shelf" []) [.dic []]=some (.ref 1,[.dic [],.ins "Shelf" []]):=rfl
  have gd:Qz (decide ([DV.int r].length+1=2)) [.dic []]=some ((),[.dic []]):=rfl
  rw [Qh ar,Qh gd,Qh al,Qh i0];rfl
 obtain ⟨m,hm1,hm2⟩:∃ m:Nat,(Qr (QJ 3 (Qt 3 Qw (Qd (Qc 0) (Qd (eC (.int 10093)) (Qd (eC (.int 25)) Qo))))) (sIf (eB (Qj eqG (Qt 3 Qw (Qd (Qc 0) (Qd (eC (.int 10141)) (Qd (eC (.int 8)) Qo)))) (eC (.int 3)))) (QJ 3 (eC (.int 60))) Zc) [.val (.int c),.val (.ref 0),.val (.ref 1),.un,.un,.un] [.dic [],.ins "Shelf" (shF r 2 0 0 0),.lst [emp]]=some ((.nx,[.val (.int c),.val (.ref 0),.val (.ref 1),.val (.int m),.un,.un]),[.dic [],.ins "Shelf" (shF r 2 0 0 0),.lst [emp]]))/\m<=60:=by
  obtain ⟨zn,hz⟩:=Qb4 c1
  have s3:QJ 3 (Qt 3 Qw (Qd (Qc 0) (Qd (eC (.int 10093)) (Qd (eC (.int 25)) Qo)))) [.val (.int c),.val (.ref 0),.val (.ref 1),.un,.un,.un] [.dic [],.ins "Shelf" (shF r 2 0 0 0),.lst [emp]]=some ((.nx,[.val (.int c),.val (.ref 0),.val (.ref 1),.val (.int zn),.un,.un]),[.dic [],.ins "Shelf" (shF r 2 0 0 0),.lst [emp]]):=Q0 (Q4 (Ji (Qf rfl) rfl rfl) rfl ((p25 _).trans (by rw [hz])))
  have t:eB (Qj eqG (Qt 3 Qw (Qd (Qc 0) (Qd (eC (.int 10141)) (Qd (eC (.int 8)) Qo)))) (eC (.int 3))) [.val (.int c),.val (.ref 0),.val (.ref 1),.val (.int zn),.un,.un] [.dic [],.ins "Shelf" (shF r 2 0 0 0),.lst [emp]]=some (u==3,[.dic [],.ins "Shelf" (shF r 2 0 0 0),.lst [emp]]):=QV (Ql (Q4 (Ji (Qf rfl) rfl rfl) rfl (p8 _)) rfl (eqI _ _ _))
  cases h:(u==3) with
  | true=>rw [h] at t;exact ⟨60,(Qk s3).trans ((Zo t).trans (Q0 (d:=.int 60) rfl)),by lia⟩
  | false=>rw [h] at t;exact ⟨zn,(Qk s3).trans ((QN t).trans QP),by lia⟩
 have M:WP (qD (fun d env=>do let env' <- gN 4 d env;zq env') (Z3 0 m) [.val (.int c),.val (.ref 0),.val (.ref 1),.val (.int m),.un,.un]) [.dic [],.ins "Shelf" (shF r 2 0 0 0),.lst [emp]] fun q w=>∃ z4 z5 S bg F kvs z,q=(.nx,[.val (.int c),.val (.ref 0),.val (.ref 1),.val (.int m),z4,z5])/\Inv w S bg F kvs z m:=by
  refine gu (fun i env w=>∃ z4 z5 S bg F kvs z,env=[.val (.int c),.val (.ref 0),.val (.ref 1),.val (.int m),z4,z5]/\Inv w S bg F kvs z i) _ ⟨_,_,⟨r,[⟨0,[],[],none,none⟩],0,0,0⟩,_,fun _=>none,[],[],rfl,QhL r (by lia) (by lia)⟩ (fun i d0 hd0 env w zz=>?_) (fun env w zz=>by obtain ⟨z4,z5,S,bg,F,kvs,z,e,I⟩:=zz;exact ⟨z4,z5,S,bg,F,kvs,z,by rw [e],by rw [Y5] at I;exact I⟩)
  obtain ⟨z4,z5,S,bg,F,kvs,z,e,I⟩:=zz
  subst e
  obtain ⟨hi,hd'⟩:=yu hd0
  subst hd'
  have pk:=Zg (Z0 (c+7 * (i:Int)) 10099 120 (by decide) (by decide) (by decide))
  generalize X5 (c+7 * (i:Int)) 10099 120=v at pk
  have m7:=Zg (xu 7 (i:Int) (by decide) (by decide))
  obtain ⟨x0,w',S',bg',f1,f2,f3,f4,f5⟩:=I.done (by lia) (.put (v - 5) i) trivial
  have l0:0 < w.length:=(Ac.mp I.h0).1
  have g0:w'[0]?=some (.dic kvs):=(f4 0 l0 (by decide) (by decide)).trans I.h0
  let e5:En:=[.val (.int c),.val (.ref 0),.val (.ref 1),.val (.int m),.val (.int (i:Int)),.val (.int (v - 5))]
  have t1:QJ 5 (Qj VQ (Qt 3 Qw (Qd (Qj ZL (Qc 0) (Qj qM (eC (.int 7)) (Qc 4))) (Qd (eC (.int 10099)) (Qd (eC (.int 120)) Qo)))) (eC (.int 5))) [.val (.int c),.val (.ref 0),.val (.ref 1),.val (.int m),.val (.int (i:Int)),z5] w=some ((.nx,e5),w):=Q0 (Ql (Q4 (Ji (Ql (Qf rfl) (Ql rfl (Qf rfl) (m7 _)) rfl) rfl rfl) rfl (pk _)) rfl rfl)
  have t2:Z7 (Qt 2 Xj (Qd (Qc 2) (Qd (Zz (Qd (eC (.str "put")) (Qd (Qc 5) (Qd (Qc 4) Qo)))) Qo))) e5 w=some ((.nx,e5),w'):=JV (Q4 (Z2 (Qf rfl) (JL (Ji rfl (Qf rfl) (Qf rfl)) (by simp))) rfl f1)
  have zl:=I.zl
  have t3:Xe (Qc 4) (gSb (Qc 1) (Qc 5)) e5 w'=some ((.nx,e5),w'.set 0 (.dic (YG kvs (.inl (v - 5)) (.int (i:Int))))):=by
   refine yw (Qf rfl) ?_
   unfold gSb
   rw [Qh (Qf rfl),Qh (Qf rfl),Qh (jJ (d:=.int (i:Int)) g0 (show YE (.int (v - 5))=some (.inl (v - 5)) from rfl) (by lia))];rfl
  have pl:=vb kvs (.inl (v - 5)) (.int (i:Int))
  exact ⟨_,_,(Qk t1).trans ((Qk t2).trans t3),⟨_,_,S',bg',_,_,_,rfl,f5 _ _ (I.tb.put (v - 5) i) (by lia)⟩⟩
 obtain ⟨q,w,eM,z4,z5,S,bg,F,kvs,z,rfl,I⟩:=M
 have L:zj [.val (.int c),.val (.ref 0),.val (.ref 1),.val (.int m),.un,.un] [.dic [],.ins "Shelf" (shF r 2 0 0 0),.lst [emp]]=some ((.nx,[.val (.int c),.val (.ref 0),.val (.ref 1),.val (.int m),z4,z5]),w):=q8 (Kx (m:=m) (JN (Qf rfl)) (by lia)) eM
 refine ⟨S,bg,F,kvs,z,w,?_,I.T,I.D,I.K,I.tab,I.rm,by have:=I.cnt;lia,I.h0,I.h1,I.h2,I.tb,by have:=I.zl;lia⟩
 refine QI (env:=[.val (.int c),.val (.ref 0),.val (.ref 1),.val (.int m),z4,z5]) ((Qk s1).trans ?_)
 have as:∀ (f g h:DSx) (env:En) (U:Hs),Qr f (Qr g h) env U=Qr (Qr f g) h env U:=fun f g h env U=>QaZ f g h env U
 rw [as]
 exact (Qk hm1).trans ((Qk L).trans (QM (Qf rfl)))
section
variable {w:Hs} {S:TR.Sh} {bg:TR.Bg} {F:Es} {kvs:List (Key×DV)} {z:Zs} {N M:Nat}
def Cur (w:Hs) (S:TR.Sh) (bg:TR.Bg) (M:Nat) (z3 z4:Sl):Prop:=(z3=.val .non/\∃ d,z4=.val d)∨∃ a v l h,z3=.val (.ref a)/\z4=.val (.ref (a+3))/\Go w S bg a v l h M
theorem QdJ (I:Inv w S bg F kvs z N) (C:Cur w S bg M z3 z4) (X:DV) (c:Int) (y6 y7 y8:Sl):
    ∃ a v l h w' u8,sIf (eOr (eB (Qj isD (Qc 3) (eC .non))) (eB (QD "Walk" "over" 1 Q6 (Qc 3) Qo))) (Qr (QJ 8 (Qt 1 Xk (Qd (Qc 5) Qo))) (Qr (QJ 3 (JS "Walk" 3 Zv (Qd (Qc 2) (Qd (Qc 8) Qo)))) (QJ 4 (X0 [(eC (.str "from"),Qj ixG (Qc 8) (eC (.int 1))),(eC (.str "high"),Qj ixG (Qc 8) (eC (.int 2))),(eC (.str "pairs"),XC Qo)])))) Zc [.val X,.val (.ref 0),.val (.ref 1),z3,z4,.val (.int c),y6,y7,y8] w=some ((.nx,[.val X,.val (.ref 0),.val (.ref 1),.val (.ref a),.val (.ref (a+3)),.val (.int c),y6,y7,u8]),w')/\Inv w' S bg F kvs z N/\Go w' S bg a v l h M/\v.O7=false:=by
  have w3:2 < w.length:=(Ac.mp I.h2).1
  obtain ⟨l,h,en,lh⟩:=Qg3 c
  have make:∀ (z3 z4:Sl),Qr (QJ 8 (Qt 1 Xk (Qd (Qc 5) Qo))) (Qr (QJ 3 (JS "Walk" 3 Zv (Qd (Qc 2) (Qd (Qc 8) Qo)))) (QJ 4 (X0 [(eC (.str "from"),Qj ixG (Qc 8) (eC (.int 1))),(eC (.str "high"),Qj ixG (Qc 8) (eC (.int 2))),(eC (.str "pairs"),XC Qo)]))) [.val X,.val (.ref 0),.val (.ref 1),z3,z4,.val (.int c),y6,y7,y8] w=some ((.nx,[.val X,.val (.ref 0),.val (.ref 1),.val (.ref w.length),.val (.ref (w.length+3)),.val (.int c),y6,y7,.val (Zy (.stretch l h))]),w++[wkO 1 (w.length+1) (w.length+2) (TR.fresh (.stretch l h)),.dic [],.lst []]++[.dic (stD l h [])]):=fun z3 z4=>by
    refine (Qk (env1:=[.val X,.val (.ref 0),.val (.ref 1),z3,z4,.val (.int c),y6,y7,.val (Zy (.stretch l h))]) (hp1:=w) (Q0 (Q4 (JN (Qf rfl)) rfl (Zg en _)))).trans ?_
    let w1:=w++[wkO 1 (w.length+1) (w.length+2) (TR.fresh (.stretch l h)),.dic [],.lst []]
    let e2:En:=[.val X,.val (.ref 0),.val (.ref 1),.val (.ref w.length),z4,.val (.int c),y6,y7,.val (Zy (.stretch l h))]
    refine (Qk (env1:=e2) (hp1:=w1) (Q0 (vK (Z2 (Qf rfl) (Qf rfl))))).trans ?_
    have nd:X0 [(eC (.str "from"),Qj ixG (Qc 8) (eC (.int 1))),(eC (.str "high"),Qj ixG (Qc 8) (eC (.int 2))),(eC (.str "pairs"),XC Qo)] e2 w1=some (.ref w1.length,w1++[.dic (stD l h [])]):=by rfl
    have l1:w1.length=w.length+3:=by simp [w1]
    rw [l1] at nd
    exact Q0 nd
  have fresh:∀ M,Inv (w++[wkO 1 (w.length+1) (w.length+2) (TR.fresh (.stretch l h)),.dic [],.lst []]++[.dic (stD l h [])]) S bg F kvs z N/\Go (w++[wkO 1 (w.length+1) (w.length+2) (TR.fresh (.stretch l h)),.dic [],.lst []]++[.dic (stD l h [])]) S bg w.length (TR.fresh (.stretch l h)) l h M:=fun M=>by
    have old:∀ i x,w[i]?=some x->(w++[wkO 1 (w.length+1) (w.length+2) (TR.fresh (.stretch l h)),.dic [],.lst []]++[.dic (stD l h [])])[i]?=some x:=fun i x hx=>by
      have hi:=(Ac.mp hx).1
      rw [A8,Ah hi];exact hx
    have nw:∀ j,(w++[wkO 1 (w.length+1) (w.length+2) (TR.fresh (.stretch l h)),.dic [],.lst []]++[.dic (stD l h [])])[w.length+j]?=([wkO 1 (w.length+1) (w.length+2) (TR.fresh (.stretch l h)),.dic [],.lst []]++[OV.dic (stD l h [])])[j]?:=fun j=>by
      rw [A8,Aq (by lia),Nat.add_sub_cancel_left]
    exact ⟨⟨I.T,I.D,I.K,I.tab,I.rm,I.cnt,old _ _ I.h0,old _ _ I.h1,old _ _ I.h2,I.tb,I.zl⟩,⟨nw 0,nw 1,nw 2,fun _=>nw 3,by lia,by simp,rfl,rfl,fun _=>TR.WOk.fresh rfl rfl rfl,fun _=>⟨lh,.inl rfl⟩,Be _,Be _⟩⟩
  rcases C with ⟨rfl,d,rfl⟩ | ⟨a,v,l',h',rfl,rfl,G⟩
  . refine ⟨w.length,_,l,h,_,_,(Zo (hp1:=w) ?_).trans (make _ _),(fresh M).1,(fresh M).2,rfl⟩
    exact Qbz (QV (Ql (x:=.non) (y:=.non) (Qf rfl) rfl rfl))
  . have c1:eB (Qj isD (Qc 3) (eC .non)) [.val X,.val (.ref 0),.val (.ref 1),.val (.ref a),.val (.ref (a+3)),.val (.int c),y6,y7,y8] w=some (false,w):=QV (Ql (x:=.ref a) (y:=.non) (Qf rfl) rfl rfl)
    have o:eB (QD "Walk" "over" 1 Q6 (Qc 3) Qo) [.val X,.val (.ref 0),.val (.ref 1),.val (.ref a),.val (.ref (a+3)),.val (.int c),y6,y7,y8] w=some (v.O7,w):=QV (Q5 (a:=a) (Qf rfl) G.wk (zc ..) Xg rfl (qX G.wk))
    cases he:v.O7 with
    | true =>
      rw [he] at o
      exact ⟨w.length,_,l,h,_,_,(Zo ((Ye c1).trans o)).trans (make _ _),(fresh M).1,(fresh M).2,rfl⟩
    | false =>
      rw [he] at o
      exact ⟨a,v,l',h',w,y8,(QN ((Ye c1).trans o)).trans QP,I,G,he⟩
theorem Qex (I:Inv w S bg F kvs z N) (C:Cur w S bg M z3 z4) (hN:N+1 < 400) (hM:M < 900) (X:DV) (c:Int) (y6 y7 y8:Sl):
  ∃ a v l h w' S' bg' F' kvs' z' u7 u8,KE [.val X,.val (.ref 0),.val (.ref 1),z3,z4,.val (.int c),y6,y7,y8] w=some ((.nx,[.val X,.val (.ref 0),.val (.ref 1),.val (.ref a),.val (.ref (a+3)),.val (.int c),y6,u7,u8]),w')/\Inv w' S' bg' F' kvs' z' (N+1)/\Go w' S' bg' a v l h (M+1):=by
 obtain ⟨a,v,l,h,w1,u8,e1,I1,G1,he⟩:=QdJ I C X c y6 y7 y8
 obtain ⟨d,ed,dok⟩:=Qfd c w1
 obtain ⟨x,w2,S2,bg2,e2,g2,l2,k2,I2⟩:=I1.done (by lia) d dok
 have l0:0 < w1.length:=(Ac.mp I1.h0).1
 have a3:=G1.a3
 have g0:w2[0]?=some (.dic kvs):=(k2 0 l0 (by decide) (by decide)).trans I1.h0
 obtain ⟨kvs',z',e3,t3,kl⟩:=Qcp I1.tb g0 (by have:=I1.zl;lia) d
 have I3:=I2 kvs' z' t3 (by have:=I1.zl;lia)
 have G3:Go (w2.set 0 (.dic kvs')) S2 bg2 a v l h M:=G1.grow g2 (by rw [List.length_set];exact l2) (fun i hi h3=>(QZ _ _ _ _ (by lia)).trans (k2 i hi (by lia) (by lia))) (Ae _)
 obtain ⟨w4,v4,e4,I4,G4,_⟩:=VP I3 G3 he (by lia) hM
 let E:Sl->En:=fun u7=>[.val X,.val (.ref 0),.val (.ref 1),.val (.ref a),.val (.ref (a+3)),.val (.int c),y6,u7,u8]
 refine ⟨a,v4,l,h,w4,_,_,_,_,_,.val (Zy d),u8,?_,I4,G4⟩
 refine (Qk e1).trans ((Qk (env1:=E (.val (Zy d))) (hp1:=w1) (Q0 (Q4 (JN (Qf rfl)) rfl ed))).trans ?_)
 refine (Qk (env1:=E (.val (Zy d))) (hp1:=w2) (JV (Q4 (Z2 (Qf rfl) (Qf rfl)) rfl e2))).trans ?_
 refine (Qk (env1:=E (.val (Zy d))) (hp1:=w2.set 0 (.dic kvs')) (JV (Q4 (Z2 (Qf rfl) (Qf rfl)) rfl e3))).trans ?_
 exact (QN (JH (b:=true) (QV (Q4 (Gh (Qf rfl) (Qf rfl) (Qf rfl) (Qf rfl)) rfl e4)))).trans QP
end
theorem QbR (ns:List Int) (h:ns.length<=63):∃ U,Gg [.lst (ns.map .int)] []=some (.bl true,U):=by
  let X:DV:=.lst (ns.map .int)
  obtain ⟨x0,c0⟩:=Qdf ns 0 h
  have c0':=Zg c0
  simp only [Int.natCast_zero] at c0'
  obtain ⟨S,bg,F,kvs,z,w1,b1,I⟩:=Qdc x0
  let w2:=w1++[.dic []]
  have I2:Inv w2 S bg F kvs z 60:=by
    have old:∀ i x,w1[i]?=some x->w2[i]?=some x:=fun i x hx=>(Ah (Ac.mp hx).1).trans hx
    exact ⟨I.T,I.D,I.K,I.tab,I.rm,I.cnt,old _ _ I.h0,old _ _ I.h1,old _ _ I.h2,I.tb,I.zl⟩
  let E:Sl->Sl->Sl->Sl->Sl->Sl->En:=fun z3 z4 z5 z6 z7 z8=>[.val X,.val (.ref 0),.val (.ref 1),z3,z4,z5,z6,z7,z8]
  have hc:D.yg (ns.map DV.int) none (some 120)=ns.map .int:=by
    have q:D.yg (ns.map DV.int) none (some 120)=(ns.map DV.int).take 120:=GD (ns.map DV.int) 120
    rw [q,Ci (by simp;lia)]
  have sl:eSl (Qc 0) ZP (ZQ (eC (.int 120))) (E (.val .non) (.val (.ref w1.length)) .un .un .un .un)=pure (.lst (ns.map .int)):=by
    simp [E,X,eSl,ZP,ZQ,slD,hc,Q7,Qr,QJ,QG,X7,sIf,Zc,zV,zf,zT,zU,Qj,Qc,eC,eB,asB,Xm,eOr,Jo,XB,zL,X1,eIf,zJ,Qo,Qd,Zz,XC,Qt,ZT,Qz,gN,ZE,ZW,ZY,Zw,ZZ,Z5,ZV,J3,X6,zR,ZH,Jm,asI]
  have M2:WP (yk (nxD (ns.map .int)) (fun d env=>gN 5 d env >>= fun env'=>KE env') 100000 0 (E (.val .non) (.val (.ref w1.length)) .un .un .un .un)) w2 fun q w=>∃ S bg F kvs z z3 z4 z5 z7 z8,q=(.nx,E z3 z4 z5 .un z7 z8)/\Inv w S bg F kvs z (60+ns.length)/\Cur w S bg ns.length z3 z4:=by
    refine Qbe _ (fun i env w=>∃ S bg F kvs z z3 z4 z5 z7 z8,env=E z3 z4 z5 .un z7 z8/\Inv w S bg F kvs z (60+i)/\Cur w S bg i z3 z4) (by simp;lia) ⟨_,_,_,_,_,_,_,_,_,_,rfl,I2,.inl ⟨rfl,_,rfl⟩⟩ (fun i d hd env w zz=>?_) (fun env w zz=>by obtain ⟨S,bg,F,kvs,z,z3,z4,z5,z7,z8,e,I,C⟩:=zz;rw [Br] at I C;exact ⟨S,bg,F,kvs,z,z3,z4,z5,z7,z8,by rw [e],I,C⟩)
    obtain ⟨S,bg,F,kvs,z,z3,z4,z5,z7,z8,e,I,C⟩:=zz
    subst e
    have hi:i < 63:=by have:=(Ac.mp hd).1;simp at this;lia
    obtain ⟨c,_,rfl⟩:=C6.mp (Aw hd)
    obtain ⟨a,v,l,hh,w',S',bg',F',kvs',z',u7,u8,et,I',G'⟩:=Qex I C (by lia) (by lia) X c .un z7 z8
    exact ⟨_,_,et,S',bg',F',kvs',z',_,_,_,u7,u8,rfl,I',.inr ⟨a,v,l,hh,rfl,rfl,G'⟩⟩
  obtain ⟨q,w3,eM,S3,bg3,F3,kvs3,zz3,z3,z4,z5,z7,z8,rfl,I3,C3⟩:=M2
  have pg3:=I3.pages
  have M1:WP (qD (fun d env=>do let env' <- gN 6 d env;KD env') (Z3 0 (2 * S3.pg.length+8)) (E z3 z4 z5 .un z7 z8)) w3 fun q w=>∃ z6,q.2=E z3 z4 z5 z6 z7 z8/\(q.1=.rt (.bl true)∨(q.1=.nx/\QD "Walk" "over" 1 Q6 (Qc 3) Qo (E z3 z4 z5 z6 z7 z8) w=some (.bl true,w))):=by
    refine gu (fun i env w=>∃ S bg F kvs z z6,env=E z3 z4 z5 z6 z7 z8/\S.pg.length=S3.pg.length/\Inv w S bg F kvs z (60+ns.length)/\((z3=.val .non/\i=0)∨∃ a v l h,z3=.val (.ref a)/\z4=.val (.ref (a+3))/\Go w S bg a v l h (ns.length+i)/\(v.O7=true∨(v.O7=false/\TR.muR S bg (v.O6.getD S.top)+i < S.pg.length)))) _ ⟨S3,bg3,F3,kvs3,zz3,.un,rfl,rfl,I3,?_⟩ (fun i d hd env w zz=>?_) (fun env w zz=>?_)
    . rcases C3 with ⟨rfl,_⟩ | ⟨a,v,l,h,rfl,rfl,G⟩
      . exact .inl ⟨rfl,rfl⟩
      . refine .inr ⟨a,v,l,h,rfl,rfl,G,?_⟩
        cases he:v.O7 with
        | true=>exact .inl rfl
        | false =>
          refine .inr ⟨rfl,TR.QfE ?_⟩
          cases U:v.O6 with
          | none=>obtain ⟨p,hp1,_⟩:=I3.T.root;exact (Ac.mp hp1).1
          | some n=>obtain ⟨p,hp1,_⟩:=(G.ok he).at_ n U;exact (Ac.mp hp1).1
    . obtain ⟨S,bg,F,kvs,z,z6,e,sl,I,C⟩:=zz
      subst e
      obtain ⟨hi,hd'⟩:=yu hd
      subst hd'
      have pg:=I.pages
      rcases C with ⟨rfl,_⟩ | ⟨a,v,l,h,rfl,rfl,G,mu⟩
      . refine ⟨(.rt (.bl true),E (.val .non) z4 z5 (.val (.int (i:Int))) z7 z8),w,?_,_,rfl,.inl rfl⟩
        show KD (E (.val .non) z4 z5 (.val (.int (i:Int))) z7 z8) w=_
        refine Q3 ((Zo (hp1:=w) ?_).trans (QM rfl))
        exact Qbz (QV (Ql (x:=.non) (y:=.non) (Qf rfl) rfl rfl))
      . let e:En:=E (.val (.ref a)) (.val (.ref (a+3))) z5 (.val (.int (i:Int))) z7 z8
        have c1:eB (Qj isD (Qc 3) (eC .non)) e w=some (false,w):=QV (Ql (x:=.ref a) (y:=.non) (Qf rfl) rfl rfl)
        have o:eB (QD "Walk" "over" 1 Q6 (Qc 3) Qo) e w=some (v.O7,w):=QV (Q5 (a:=a) (Qf rfl) G.wk (zc ..) Xg rfl (qX G.wk))
        rcases mu with he | ⟨he,mu⟩
        . rw [he] at o
          exact ⟨(.rt (.bl true),e),w,Q3 ((Zo ((Ye c1).trans o)).trans (QM rfl)),_,rfl,.inl rfl⟩
        . rw [he] at o
          obtain ⟨w',v',e4,I4,G4,m4⟩:=VP I G he (by lia) (by lia)
          refine ⟨(.nx,e),w',(Qk ((QN ((Ye c1).trans o)).trans QP)).trans ((QN (JH (b:=true) (QV (Q4 (Gh (Qf rfl) (Qf rfl) (Qf rfl) (Qf rfl)) rfl e4)))).trans QP),{ S with rd:=S.rd+1 },bg,F,kvs,z,_,rfl,sl,I4,.inr ⟨a,v',l,h,rfl,rfl,G4,m4.imp id fun ⟨q1,q2⟩=>⟨q1,?_⟩⟩⟩
          show TR.muR S bg (v'.O6.getD S.top)+(i+1) < S.pg.length
          lia
    . obtain ⟨S,bg,F,kvs,z,z6,e,sl,I,C⟩:=zz
      subst e
      rw [Y5] at C
      rcases C with ⟨_,q⟩ | ⟨a,v,l,h,rfl,rfl,G,mu⟩
      . lia
      . rcases mu with he | ⟨he,mu⟩
        . refine ⟨z6,rfl,.inr ⟨rfl,?_⟩⟩
          have o:=qX G.wk
          rw [he] at o
          exact Q5 (a:=a) (Qf rfl) G.wk (zc ..) Xg rfl o
        . lia
  obtain ⟨⟨fl,env⟩,w4,eF,z6,he,hf⟩:=M1
  have he:env=E z3 z4 z5 z6 z7 z8:=he
  have hf:fl=.rt (.bl true)∨(fl=.nx/\QD "Walk" "over" 1 Q6 (Qc 3) Qo (E z3 z4 z5 z6 z7 z8) w4=some (.bl true,w4)):=hf
  subst he
  refine ⟨w4,QI (env:=E z3 z4 z5 z6 z7 z8) ?_⟩
  refine (Qk (env1:=[.val X,.val (.ref 0),.un,.un,.un,.un,.un,.un,.un]) (hp1:=[.dic []]) (Q0 rfl)).trans ?_
  refine (Qk (env1:=[.val X,.val (.ref 0),.val (.ref 1),.un,.un,.un,.un,.un,.un]) (hp1:=w1) (Q0 (Q4 (Z2 (Q4 (Z2 (Qf rfl) rfl) rfl (c0' _)) (Qf rfl)) rfl b1))).trans ?_
  refine (Qk (env1:=E (.val .non) .un .un .un .un .un) (hp1:=w1) (Q0 rfl)).trans ?_
  refine (Qk (env1:=E (.val .non) (.val (.ref w1.length)) .un .un .un .un) (hp1:=w2) (Q0 rfl)).trans ?_
  refine (Qk (env1:=E z3 z4 z5 .un z7 z8) (hp1:=w3) (uP (ds:=ns.map .int) (vM (Zg sl _)) eM)).trans ?_
  have pgs:QD "Shelf" "pages" 1 Jq (Qc 2) Qo (E z3 z4 z5 .un z7 z8) w3=some (.int (S3.pg.length:Int),w3):=Q5 (a:=1) (Qf rfl) I3.h1 (x8 ..) Xg rfl (by rw [G8 I3.h1 I3.h2,Br])
  have L:gk (E z3 z4 z5 .un z7 z8) w3=some ((fl,E z3 z4 z5 z6 z7 z8),w4):=by
    refine q8 (Kx (m:=2 * S3.pg.length+8) (JN (Ql (x:=.int (2 * (S3.pg.length:Int))) (y:=.int 8) (Ql (x:=.int 2) rfl pgs (Zg (xu 2 _ (by decide) (by decide)) _)) rfl ?_)) (by lia)) eF
    show some (DV.int (2 * (S3.pg.length:Int)+8),w3)=_
    rw [show (2 * (S3.pg.length:Int)+8)=((2 * S3.pg.length+8:Nat):Int) by lia]
  rcases hf with rfl | ⟨rfl,o⟩
  . exact Q3 L
  . exact (Qk L).trans (QM o)
def Uq {K:Aa} {a0 a1 a2:Addr} {d0 d1 d2:Option Addr} {n0 n1 n2:Nat} {s0 s1 s2:Array (Option Value)} {t1:Tok} (l0:K.lookup a0=some ⟨.type "tuple", d0,.seq #[.int 0 t1,.ref a1,.ref a2,.none,.none] n0,s0⟩) (l2:K.lookup a2=some ⟨.type "tuple", d2,.seq #[] n2,s2⟩) (l1:K.lookup a1=some ⟨.type "tuple", d1,.seq #[] n1,s1⟩):KRep K (.tup [.int 0,.tup [],.tup [],.non,.non]) (.ref a0):=(uu (xs:=[.int 0,.ref a1,.ref a2,.non,.non]) l0 (Nat.le_of_ble_eq_true rfl) (.cons ⟨_,rfl⟩ (.cons rfl (.cons rfl (.cons rfl (.cons rfl .nil))))) (qI Qfu (qI (uu (xs:=[]) l1 (Nat.le_of_ble_eq_true rfl) .nil KB) (qI (uu (xs:=[]) l2 (Nat.le_of_ble_eq_true rfl) .nil KB) (qI QbP (qI QbP KB))))))
theorem Qfv {P:Program} {w:World} {K:Aa} {h:Heap} {mg:Ej} {fa f:Addr} {oc kV dc pm cd ct:Value} {od an:Option Addr} {sl:Array (Option Value)} (X:K.In h) (G:h.Ns mainGlobals mg) (hfa:mg "law" = some (.ref fa)) (Z:Al K mg) (n:PySem.W.nsIn K mainGlobals "law" = some (some (.ref f))) (l:K.lookup f=some ⟨oc,od,.func (PySem.W.fnOf "law" "law" (JE xV) (ZG xV) (Qp xV) .none kV dc pm an cd ct),sl⟩) (c:PySem.W.codeIn K cd "law" = true) (k:PySem.W.keepIn K (.ref f)=true):∃ fd:FuncData,(∀ (s:Shared) (v:Value),BindsTo s fd ⟨[v],[]⟩ [("script", v)])/\∀ O8:Heap,K.In O8->O8.Ns mainGlobals mg->qy P w K mg O8 CX0 9 fa fd ["script"] (spD K 1 Gg):=by
 cases hfa.symm.trans (PySem.W.mg_of X G n)
 exact ⟨PySem.W.fnOf "law" "law" (JE xV) (ZG xV) (Qp xV) .none kV dc pm an cd ct,fun s v=>.of_eq rfl,fun O8 _ _=>law_fn Z (Ks l c k)⟩
theorem walk {l:PySem.W.OpenLaw} {q:Program} {loose:List Str} {XP:(Ej)->Heap->Prop} {YP:World->Heap->Prop} {d:DefRec} {K:Params->Aa} (hn:l.most=some 63) (hdf:d.params.defaults=[])
  (hY:∀ (w:World) (h:Heap),YP w h->(K w.params).In h)
  (F:∀ (w:World) (mg:Ej) (fa:Addr) (h:Heap),(K w.params).In h->h.Ns mainGlobals mg->mg d.name=some (.ref fa) ->
   ∃ fd:FuncData,(∀ (s:Shared) (u:Value),BindsTo s fd ⟨[u],[]⟩ [("script", u)])/\∀ O8:Heap,(K w.params).In O8->O8.Ns mainGlobals mg->qy l.prog w (K w.params) mg O8 CX0 9 fa fd ["script"] (spD (K w.params) 1 Gg)) :
  PySem.W.WalkO q loose XP YP l.row.toRowW d [] (fun f vs=>PySem.call f vs) :=
 L2.kU (n:=63) (k:=9) (x := "script") (CX:=fun _=>CX0) (sp:=fun w=>spD (K w.params) 1 Gg) hn (by decide) hdf ⟨rfl,by decide,by decide⟩ hY F (fun w _ a ns hl _ hS=>Qfw (QbR ns hl) hS) fun _ _ _ _ _ z=>z
end K23
namespace PySem.W.Fast
def tw10441952449075818955:=0
def tw6993560664876187665:=0
def tw15486670606624757535:=0
def tw16926013421654284494:=0
def tw17896347841712948076:=0
def tw16394573827576507972:=0
def tw17747726782775593695:=0
def tw13906160435913259791:=0
def tw1226708745807788077:=0
def tw13891957387185365499:=0
def tw2343729167505764213:=0
def tw13099108928383524009:=0
def tw3480523165550897954:=0
def tw1231974818344152052:=0
def tw13392287503902666536:=0
def tw11266039206708298210:=0
def tw2532282582799378009:=0
def tw14079696252246568585:=0
def tw1433085612960386104:=0
def tw11710241177897442181:=0
def tw11013456208224242851:=0
def tw17803465880544142768:=0
def tw1667460514508146632:=0
def tw9529641761419420381:=0
def tw12133950981988232187:=0
def tw16544817120492309432:=0
def tw16422377414463914901:=0
def tw3224010636378215516:=0
def tw16278532414451241929:=0
def tw16449867282735848630:=0
def tw12304525716461341830:=0
def tw6028585878279455879:=0
def tw17877370499582517554:=0
def tw571325441173673192:=0
def tw7751655039167253581:=0
def tw18063850743338452584:=0
def tw14012157628744876603:=0
def tw14999568148181903668:=0
def tw17727577385598742392:=0
def tw978635765061718903:=0
def tw16770968173810875428:=0
def tw17784838832418528883:=0
def tw14089027641894274390:=0
def tw15286914344989232283:=0
def tw4136003147561411041:=0
def tw951825825637316135:=0
def tw5979422316882631243:=0
def tw7221318019409817485:=0
def tw3922131743049041377:=0
def tw1068212623256770686:=0
def tw13235506119081907075:=0
def tw16930955560737466384:=0
def tw1214862988338291777:=0
def tw17740564268135115868:=0
def tw10004980263990469030:=0
def tw17740169210851017529:=0
def tw10692167280439870052:=0
def tw749169731030277557:=0
def tw12885124809783498106:=0
def tw5185425806113744139:=0
def tw266524206375448784:=0
def tw17459483777870515889:=0
def tw12392087235303816212:=0
def tw1157459048855868670:=0
def tw4995166743968196188:=0
def tw5463584575135205554:=0
def tw8535879885673629031:=0
def tw4785258953290447603:=0
def tw12215236369978098317:=0
def tw11690800971258312570:=0
def tw4753025185533644284:=0
def tw11917709691381466288:=0
def tw5285466629566255673:=0
def tw16244323632447693704:=0
def tw8198265102044581934:=0
def tw1429482840353172807:=0
def tw3449425721017122196:=0
def tw16282454583248472008:=0
def tw3342418797475652149:=0
def tw2117060330546900429:=0
def tw1486615896898038324:=0
def tw12190623709409316753:=0
def tw15852073180419658379:=0
def tw15800860409450561411:=0
def tw12731097519792316524:=0
def tw8859792997585124665:=0
def tw14705811595128409814:=0
def tw2594665405825487640:=0
def tw8887011789366360449:=0
def tw10465928583711042078:=0
def tw16130557040823676444:=0
def tw16086015839182647781:=0
def tw421019708928809592:=0
def tw3105908145517618556:=0
def tw7942233406776087979:=0
def tw10415502318476335814:=0
def tw6409718093269214509:=0
def tw601334683610363414:=0
def tw10778534735510331854:=0
def tw10253318972850993781:=0
def tw6837990644254041714:=0
def tw11139751839065948814:=0
def tw6674881271182669452:=0
def tw11148729597033600063:=0
def tw5551461541004856833:=0
def tw4187456798454269614:=0
def tw11909315913693963708:=0
def tw400994413964489233:=0
def tw18031107803876933457:=0
def tw3545891149499979709:=0
def tw7697163773606720562:=0
def tw7267918200414683297:=0
def tw10710394081336283627:=0
def tw4179965762401451433:=0
def tw5353568046674718954:=0
def tw12203963122080510001:=0
def tw17244321643260188602:=0
def tw8481533042410871320:=0
def tw11627872729325446952:=0
def tw13739596414642055501:=0
def tw9807903665648468392:=0
def tw8573017376075282541:=0
def tw8149017519832953560:=0
def tw8762734365328764284:=0
def tw14509423582925435676:=0
def tw8944886852246136398:=0
def tw13790650740327764782:=0
def tw12057460787240881326:=0
def tw3628008811184469847:=0
def tw2493541039004971136:=0
def tw4645331627574994905:=0
def tw2563586117706377813:=0
def tw8316825153377105671:=0
def tw487062300815165567:=0
def tw16642217103086440066:=0
def tw17942753337311922040:=0
def tw638192013464553625:=0
def tw17710591357029497470:=0
def tw8899147262577769058:=0
def tw10843782556718892641:=0
def tw11308096291758343631:=0
def tw6461066898670048582:=0
def tw6159285839133579614:=0
def tw9979756923431874479:=0
def tw15017023051253127319:=0
def tw318273643147177799:=0
def tw3752796334891021204:=0
def tw16915243909758333988:=0
def tw8753962901244075635:=0
def tw1460204628481060860:=0
def tw13378861974533195521:=0
def tw17060421574864768210:=0
def tw13688961940966303906:=0
def tw14884576355532756956:=0
def tw3428191439204728453:=0
def tw11750563124175359354:=0
def tw1756935844247266481:=0
def tw5747336952165884596:=0
def tw1386389161594498673:=0
def tw16959372840429809679:=0
def tw1634027277288156178:=0
def tw8926337980544388697:=0
def tw12082287888174818441:=0
def tw15761851069064632837:=0
def tw12037477082699036821:=0
def tw7518296392734281105:=0
def tw7098601699932976113:=0
def tw4650347383587541096:=0
def tw2053023876276234084:=0
def tw14277380029413365654:=0
def tw17079294336612396386:=0
def tw3003547744689969279:=0
def tw17992497048068022002:=0
def tw18164223071364657636:=0
def tw553840074476139829:=0
def tw6212413217368437459:=0
def tw11120967813403998898:=0
def tw16067040201631591537:=0
def tw2188517219022520661:=0
def tw4086655062516812962:=0
def tw3774797262622803213:=0
def tw2422685361806321039:=0
def tw17162877709839876974:=0
def tw15912832091740965984:=0
def tw4783120828652588430:=0
def tw1786522517545182791:=0
def tw10173716710345059484:=0
def tw2989073491011492526:=0
def tw4376570370656327919:=0
def tw17683578063546946562:=0
def tw7102084844470896587:=0
def tw1985662870817563017:=0
def tw918786644189820818:=0
def tw14508075078359006839:=0
def tw5829913738782212791:=0
def tw15300993020452618289:=0
def tw18145484811009267172:=0
def tw2054627746274487879:=0
def tw15847821643051867297:=0
def tw13221256785534904377:=0
def tw4800946258730895854:=0
def tw2977119799848950131:=0
def tw17933191266713361784:=0
def tw11323555361907662865:=0
def tw5301842096941712499:=0
def tw16167223672946459145:=0
def tw11088306631271207147:=0
def tw10179111377760044018:=0
def tw11872728338540252573:=0
def tw3638241117017998283:=0
def tw10922095202914736169:=0
def tw2775165173956243819:=0
def tw11963170319032575403:=0
def tw908882712169569147:=0
def tw10638629571531432144:=0
def tw2265707447671120877:=0
def tw16077134631227862068:=0
def tw4743099877986254387:=0
def tw18288068864525235667:=0
def tw14043103640406700136:=0
def tw9700055318534177800:=0
def tw9283326888010917456:=0
def tw8788734132029119668:=0
def tw4111123587910009969:=0
def tw13936092459218119740:=0
def tw13913844392021520492:=0
def tw14914000818124516350:=0
def tw12081764683983297315:=0
def tw5411255464330095381:=0
def tw13462161047578005362:=0
def tw9213181175313172181:=0
def tw8928515541875774051:=0
def tw5881471783137708037:=0
def tw11020469557644968956:=0
def tw635016009061478534:=0
def tw16870703016374273794:=0
def tw15047394205619936642:=0
def tw14824218641256345733:=0
def tw2470941772518713760:=0
def tw17430545806740361837:=0
def tw17380002494881841283:=0
def tw1629122455162497148:=0
def tw1479504126129637228:=0
def tw14064569836193447123:=0
def tw11248487193525493479:=0
def tw16212841530078101596:=0
def tw12811815319809906100:=0
def tw9576929197141134647:=0
def tw15917415614824433664:=0
def tw42182694213615492:=0
def tw12867948319981084538:=0
def tw13042419570825848780:=0
def tw12025108120394886551:=0
def tw3193167591777282861:=0
def tw16991500957842036178:=0
end PySem.W.Fast
open PySem PySem.W PyProof.Rows
open D in
set_option maxRecDepth 100000 in
set_option maxHeartbeats 0 in
theorem PySem.Challenge.cw_sidelink_k23_stretches_holds : PySem.Challenge.rw_sidelink_k23_stretches.Holds := by
 w_on;o_law;k_head;(case hw=>w_witness2)
 k_fill
 refine K23.walk (l:=PySem.Challenge.rw_sidelink_k23_stretches) rfl rfl (fun w h Y=>PySem.W.kIn_of Y) ?F
 case F =>
  intro w mg fa h KX G hmg
  have c0:UC _ "Walk" := uc KX (by k_is) (by k_is) (by k_is) (by k_is) (by k_is)
  have c1:UC _ "Shelf" := uc KX (by k_is) (by k_is) (by k_is) (by k_is) (by k_is)
  exact K23.Qfv KX G hmg (by constructor<;>first | exact PySem.W.mg_none_of KX G (by k_is) | exact uf KX G (by k_is) (by k_is) (by k_is) (by k_is) | exact ug KX G (by k_is) | exact ut KX G (by k_is) (K23.Uq (by k_is) (by k_is) (by k_is)) | exact uk KX c0 (by k_is) (by k_is) | exact um KX c0 (by k_is) (by k_is) (by k_is) (by k_is) (by k_is) (by k_is) | exact uk KX c1 (by k_is) (by k_is) | exact um KX c1 (by k_is) (by k_is) (by k_is) (by k_is) (by k_is) (by k_is) | exact ui KX G (by k_is) (by k_is) (by k_is) (by k_is) (by k_is) (by k_is) (by k_is) (by k_is)) (by k_is) (by k_is) (by k_is) (by k_is)

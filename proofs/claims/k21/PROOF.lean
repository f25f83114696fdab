import PyProof.Rows.All
import Wide.All
import OpenK.AllK
import Wide.FinOn
import Lean
import PyProof.EqAt
import PyProof.EqKinds
import PyProof.TupleCall
import PySem.Challenge.RW_sidelink_k21_one_walk_alone
section
open PySem PySem.Spec PyProof.Rows
abbrev Aa:=PySem.W.Frag
def Ab:=@List.getElem?_eq_getElem
def Ac:=@List.getElem?_eq_some_iff
def Ad:=@Heap.get?_push_of_some
def Ae:=@Nat.le_refl
def Ag:=@Array.toList_append
def Ah:=@List.getElem?_append_left
def Ai:=@List.mem_append
def Aj:=@List.mem_append_right
def Ak:=@Option.some.inj
def Am:=@List.getElem?_set_ne
def An:=@List.length_append
def Ao:=@List.size_toArray
def Ap:=@Heap.lt_size
def Aq:=@List.getElem?_append_right
def Ar:=@List.mem_singleton
def As:=@List.filter_cons
def Au:=@List.getElem?_set_self
def Av:=@Heap.get?_push_size
def Aw:=@List.mem_of_getElem?
def Ax:=@List.mem_cons_of_mem
def Ay:=@Nat.lt_of_lt_of_le
def Az:=@Bool.false_eq_true
def A7:=@List.mem_append_left
def A8:=@List.append_assoc
def A9:=@List.length_take
def Ba:=@List.length_cons
def Bb:=@List.map_cons
def Bc:=@Bool.and_eq_true
def Be:=@Nat.zero_le
def Bf:=@Nat.ne_of_lt
def Bh:=@Nat.lt_or_ge
def Bi:=@List.drop_eq_getElem_cons
def Bj:=@Nat.le_trans
def Bk:=@List.mem_cons
def Bm:=@List.mem_filter
def Bo:=@Int.le_refl
def Bp:=@Prod.mk.injEq
def Bq:=@List.length_drop
def Br:=@List.length_map
def Bt:=@List.append_nil
def Bu:=@List.getElem?_map
def Bv:=@List.pairwise_append
def Bw:=@List.mem_iff_getElem?
def Bx:=@List.mem_of_mem_take
def By:=@Nat.lt_of_le_of_lt
def Bz:=@Bool.false_ne_true
def B0:=@List.take_append_drop
def B7:=@Int.toNat_natCast
def B8:=@List.find?_cons
def B9:=@List.getElem_mem
def Ca:=@List.getElem?_take_of_lt
def Cb:=@List.length_filter_le
def Cc:=@List.getElem?_drop
def Cd:=@List.mem_of_mem_drop
def Ce:=@Array.toList_reverse
def Cf:=@List.not_mem_nil
def Cg:=@Option.map_eq_some_iff
def Ch:=@List.mem_range
def Ci:=@List.take_of_length_le
def Cj:=@Array.length_toList
def Ck:=@Int.le_of_lt
def Cm:=@List.prefix_rfl
def Cn:=@List.drop_of_length_le
def Co:=@Heap.size_push
def Cp:=@List.pairwise_cons
def Cq:=@Bool.not_eq_true'
def Cr:=@List.mem_iff_getElem
def Cs:=@List.filter_eq_self
def Ct:=@List.drop_drop
def Cu:=@List.nodup_cons
def Cv:=@Nat.lt_irrefl
def Cw:=@List.getElem_take
def Cy:=@Nat.le_of_not_lt
def Cz:=@Int.le_trans
def C0:=@Nat.lt_succ_self
def C1:=@Nat.zero_add
def C4:=@Nat.ne_of_gt
def C5:=@List.mem_map
def C6:=@wpAny_bind
def C7:=@if_neg
def C8:=@if_pos
def C9:=@wpAny_pure
def Ea:=@wpS_bind
def Eb:=@wpS_pure
def Ec:=@decide_eq_true
def Ed:=@of_decide_eq_true
def Ee:=@decide_eq_false
def Ef:=@pure_bind
abbrev Eg:=Value->Shared->Prop
abbrev Eh:=List (Addr×Obj)
abbrev Ei:=Str->Option Value
abbrev Ek:=List (Int×Int)
abbrev Em:=Addr->Prop
abbrev Eo:=List Addr
abbrev Er:=Int->Option Int
end
-- CHANGE: your row's module here,as the last of these rows
set_option Elab.async false
set_option linter.all false
set_option maxRecDepth 100000
namespace L2
open PySem PySem.Spec PyProof.Rows
abbrev Key:=Sum Int Str
def yO:Key->Value->Bool
 | .inl k,v=>Value.isInt k v
 | .inr x,v=>Value.isStrOf x v
def QhE (w:World):Key->Int
 | .inl k=>hashInt k
 | .inr x=>hashStr w x
theorem ZP:∀ {k:Key} {v:Value},yO k v=true->(∃ i t,k=Sum.inl i/\v=Value.int i t)∨(∃ x t,k=Sum.inr x/\v=Value.str x t)
  | .inl i,v,h=>by
    obtain ⟨t,e⟩:=Value.isInt_shape (k:=i) (v:=v) h
    exact .inl ⟨i,t,rfl,e⟩
  | .inr x,v,h=>by
    obtain ⟨t,e⟩:=Value.isStrOf_shape (x:=x) (v:=v) h
    exact .inr ⟨x,t,rfl,e⟩
theorem Qai (i:Int) (t:Tok):yO (.inl i) (.int i t)=true:=by simp [yO,Value.isInt]
theorem Qaj (x:Str) (t:Tok):yO (.inr x) (.str x t)=true:=by simp [yO,Value.isStrOf]
theorem Qfa (a b:Int):decide ((Sum.inl a:Key)=Sum.inl b)=(a==b):=by
 by_cases e:a=b
 ·subst e;simp
 ·have h:¬ (Sum.inl a:Key)=Sum.inl b:=fun q=>e (Sum.inl.inj q)
  rw [Ee h]
  exact (beq_eq_false_iff_ne.mpr e).symm
theorem Qfd (a b:Str):decide ((Sum.inr a:Key)=Sum.inr b)=decide (a=b):=by
 by_cases e:a=b
 ·subst e;simp
 ·have h:¬ (Sum.inr a:Key)=Sum.inr b:=fun q=>e (Sum.inr.inj q)
  rw [Ee h,Ee e]
def Qfb (a:Int) (b:Str):decide ((Sum.inl a:Key)=Sum.inr b)=false:=Ee (fun q=>nomatch q)
def Qfc (a:Str) (b:Int):decide ((Sum.inr a:Key)=Sum.inl b)=false:=Ee (fun q=>nomatch q)
def ZD (prog:Program) (w:World):PySem.KeyKind prog w Key where
 is:=yO
 hash:=QhE w
 inj:=fun v a b ha hb=>by
  rcases ZP ha with ⟨i,t,rfl,rfl⟩ | ⟨x,t,rfl,rfl⟩
  ·rcases ZP hb with ⟨j,u,rfl,e⟩ | ⟨y,u,rfl,e⟩
   ·injection e with e1 _;rw [e1]
   ·exact nomatch e
  ·rcases ZP hb with ⟨j,u,rfl,e⟩ | ⟨y,u,rfl,e⟩
   ·exact nomatch e
   ·injection e with e1 _;rw [e1]
 byValue:=fun k v h=>by
  rcases ZP h with ⟨i,t,rfl,rfl⟩ | ⟨x,t,rfl,rfl⟩<;>rfl
 pyHash:=fun hv h=>by
  rcases ZP hv with ⟨i,t,rfl,rfl⟩ | ⟨x,t,rfl,rfl⟩
  ·exact wpAny_pyHash_int h
  ·exact wpAny_pyHash_str h
 eqBool:=fun hu hv h=>by
  rcases ZP hu with ⟨i,t,rfl,rfl⟩ | ⟨x,t,rfl,rfl⟩
  ·rcases ZP hv with ⟨j,u,rfl,rfl⟩ | ⟨y,u,rfl,rfl⟩
   ·rw [Qfa] at h;exact wpAny_eqBool_int h
   ·rw [Qfb] at h;exact SeqAt.EqAt.int_str i t y u _ _ _ _ h
  ·rcases ZP hv with ⟨j,u,rfl,rfl⟩ | ⟨y,u,rfl,rfl⟩
   ·rw [Qfc] at h;exact SeqAt.EqAt.str_int x t j u _ _ _ _ h
   ·rw [Qfd] at h;exact wpAny_eqBool_str h
 «strs»:=fun k x t v h=>by
  rcases ZP h with ⟨i,u,rfl,e⟩ | ⟨y,u,rfl,e⟩
  ·exact nomatch e
  ·injection e with e1 _
   subst e1
   cases v<;>rfl
def GU (prog:Program) (w:World) (i:Int) (t:Tok):(ZD prog w).is (.inl i) (.int i t)=true:=Qai i t
def GV (prog:Program) (w:World) (x:Str) (t:Tok):(ZD prog w).is (.inr x) (.str x t)=true:=Qaj x t
inductive V where
 | non | bl (b:Bool) | int (i:Int) | str (x:Str) | byt (b:Array UInt8) | flt (b:UInt64) | ref (a:Addr) | ty (n:String)
 deriving DecidableEq
def RelV:V->Value->Prop
 | .non,u=>u=Value.none
 | .bl b,u=>u=Value.bool b
 | .int i,u=>∃ t,u=Value.int i t
 | .str x,u=>∃ t,u=Value.str x t
 | .byt b,u=>∃ t,u=Value.bytes b t
 | .flt b,u=>∃ t,u=Value.float b t
 | .ref a,u=>u=Value.ref a
 | .ty n,u=>u=Value.type n
abbrev Vals:List V->List Value->Prop:=Paired RelV
def Vals.length {xs:List V} {us:List Value} (r:Vals xs us):xs.length=us.length:=Paired.length r
theorem Vals.get:∀ {xs:List V} {us:List Value} {i:Nat} {x:V},Vals xs us->xs[i]?=some x->∃ u,us[i]?=some u/\RelV x u
  | _,_,_,_,.nil,e=>by simp at e
  | _,_,0,_,.cons r _,e=>by simp at e;subst e;exact ⟨_,rfl,r⟩
  | _,_,i+1,x,.cons _ t,e=>by
    obtain ⟨u,h1,h2⟩:=Vals.get (i:=i) (x:=x) t (by simpa using e)
    exact ⟨u,by simpa using h1,h2⟩
theorem Vals.set (r:RelV x u):∀ {xs:List V} {us:List Value} (i:Nat),Vals xs us->Vals (xs.set i x) (us.set i u)
 | _,_,_,.nil=>.nil
 | _,_,0,.cons _ t=>.cons r t
 | _,_,i+1,.cons q t=>.cons q (Vals.set r i t)
theorem Vals.append:∀ {xs ys:List V} {us ws:List Value},Vals xs us->Vals ys ws->Vals (xs++ys) (us++ws)
 | _,_,_,_,.nil,s=>s
 | _,_,_,_,.cons r t,s=>.cons r (Vals.append t s)
theorem Vals.take:∀ {xs:List V} {us:List Value} (n:Nat),Vals xs us->Vals (xs.take n) (us.take n)
 | _,_,0,_=>.nil
 | _,_,_+1,.nil=>.nil
 | _,_,n+1,.cons r t=>.cons r (Vals.take n t)
theorem Vals.drop:∀ {xs:List V} {us:List Value} (n:Nat),Vals xs us->Vals (xs.drop n) (us.drop n)
 | _,_,0,r=>r
 | _,_,_+1,.nil=>.nil
 | _,_,n+1,.cons _ t=>Vals.drop n t
def RelO:Option V->Option Value->Prop
 | some v,some u=>RelV v u
 | none,none=>True
 | _,_=>False
def KV {κ:Type}:List (κ×V)->List (κ×Value)->Prop:=Paired fun (p:κ×V) (q:κ×Value)=>p.1=q.1/\RelV p.2 q.2
def kV:Key->V
 | .inl i=>.int i
 | .inr x=>.str x
inductive HO where
  | lst (xs:List V)
  | tup (xs:List V)
  | dK (kvs:List (Key×V)) | dT (kvs:List (List Key×V))
  | set (S:Int->Bool) (n:Nat)
  | ins (C dx:Addr) (fs:List (Str×V))
  | own (x:Addr)
  | xd (fs:List (Str×V))
  | met (f x:Addr)
  | rng (lo hi:Int)
  | frz (o:Obj) (u:HO)
  | tbl (ps:Array Value)
  | ext (φ:Heap->Prop)
abbrev Hp:=Addr->Option HO
def upd (H:Hp) (a:Addr) (o:HO):Hp:=fun b=>if b=a then some o else H b
theorem Q3 {a:Addr}:upd H a o a=some o:=by unfold upd;rw [C8 rfl]
theorem QI {H:Hp} {a b:Addr} (h:b≠a):upd H a o b=H b:=by unfold upd;rw [C7 h]
theorem QgU {H:Hp} {a b:Addr} {o u:HO} (h:H a=some o) (h':H b=some u) (d:o≠u):a≠b:=by
 intro e;subst e;rw [h] at h';exact d (Ak h')
theorem Zy {H:Hp} {a b:Addr} (h:H a=some o) (h':H b=none):a≠b:=by
 intro e;subst e;rw [h] at h';cases h'
section
variable (P:Program) (w:World)
def ObjOk (H:Hp) (h:Heap) (a:Addr):HO->Prop
 | .lst xs=>xs.length<=sizeLine/\∃ (its:List Value) (n:Nat),Vals xs its/\h.get? a=some { cls:=.type "list", data:=.seq its.toArray n }
 | .tup xs=>xs.length<=sizeLine/\∃ its:List Value,Vals xs its/\IsTup h a its.toArray
 | .dK kvs=>kvs.length<=sizeLine/\(a==sysModules)=false/\∃ vs,KV kvs vs/\h.DictOf (ZD P w) a vs
 | .dT kvs=>kvs.length<=sizeLine/\(a==sysModules)=false/\∃ xs:List (List Key×Addr×Value),
   Paired (fun (p:List Key×V) (q:List Key×Addr×Value)=>p.1=q.1/\H q.2.1=some (.tup (p.1.map kV))/\RelV p.2 q.2.2) kvs xs /\
   ∃ o es ep,h.get? a=some o/\o.ExactDict/\o.data=.dict es ep/\es.toList=xs.map (entryOfKey (tupleKind (ZD P w)))/\(xs.map (·.1)).Nodup
 | .set S n=>h.SetOf (intKind P w) a S n
 | .ins C dx fs=>H dx=some (.own a)/\fs.length<=1000/\dx≠a/\h.get? a=some (PySem.W.instObj C dx) /\
   ∃ mA,h.Ns1 dx mA/\(∀ f,RelO (fs.lookup f) (mA f))/\PySem.Within mA (fs.map (·.1))
 | .own _=>∃ o,h.get? a=some o
 | .xd fs=>∃ mA,h.Ns1 a mA/\∀ f,RelO (fs.lookup f) (mA f)
 | .rng lo hi=>∃ t u v,h.get? a=some { cls:=.type "range", data:=.fields #[.int lo t,.int hi u,.int 1 v] }
 | .frz o u=>h.get? a=some o/\ObjOk H h a u
 | .tbl ps=>h.get? a=some { cls:=.none,data:=.fields ps }
 | .met f x=>h.get? a=some (PySem.W.methodObj (.ref f) (.ref x))
 | .ext φ=>φ h/\(∃ o,h.get? a=some o)/\∀ h1 h2:Heap,φ h1->(∀ o,h1.get? a=some o->h2.get? a=some o)->φ h2
def HOk (H:Hp) (h:Heap):Prop:=∀ a o,H a=some o->ObjOk P w H h a o
end
section
variable {P:Program} {w:World} {H H':Hp} {h h':Heap} {a:Addr} {o:HO}
theorem ObjOk.lt (x:ObjOk P w H h a o):a < h.objs.size:=by
 cases o with
 | lst xs=>obtain ⟨_,_,_,_,e⟩:=x;exact Ap e
 | tup xs=>obtain ⟨_,_,_,p⟩:=x;exact p.lt
 | dK kvs=>obtain ⟨_,_,_,_,o,_,_,e,_⟩:=x;exact Ap e
 | dT kvs=>obtain ⟨_,_,_,_,o,_,_,e,_⟩:=x;exact Ap e
 | set S n=>obtain ⟨o,_,_,_,e,_⟩:=x;exact Ap e
 | ins C dx fs=>obtain ⟨_,_,_,e,_⟩:=x;exact Ap e
 | own y=>obtain ⟨_,e⟩:=x;exact Ap e
 | xd fs=>obtain ⟨_,⟨_,_,_,e,_⟩,_⟩:=x;exact Ap e
 | rng lo hi=>obtain ⟨_,_,_,e⟩:=x;exact Ap e
 | frz ob u=>obtain ⟨e,_⟩:=x;exact Ap e
 | tbl ps=>exact Ap (show h.get? a=some _ from x)
 | met f y=>exact Ap (show h.get? a=some _ from x)
 | ext φ=>obtain ⟨_,⟨_,e⟩,_⟩:=x;exact Ap e
theorem Paired.mapP {α β:Type} {F G:α->β->Prop}:∀ {l₁:List α} {l₂:List β},Paired F l₁ l₂->(∀ a b,F a b->G a b)->Paired G l₁ l₂
 | _,_,.nil,_=>.nil
 | _,_,.cons r t,f=>.cons (f _ _ r) (Paired.mapP t f)
theorem ObjOk.stay (x:ObjOk P w H h a o) (k:∀ b u,(b=a∨H b=some (.own a))->h.get? b=some u->h'.get? b=some u)
    (ho:∀ b,H b=some (.own a)->H' b=some (.own a)) (ht:∀ b xs,H b=some (.tup xs)->H' b=some (.tup xs)):ObjOk P w H' h' a o:=by
  induction o with
  | lst xs=>obtain ⟨z,its,n,r,e⟩:=x;exact ⟨z,its,n,r,k _ _ (.inl rfl) e⟩
  | tup xs=>obtain ⟨z,its,r,ob,e,c⟩:=x;exact ⟨z,its,r,ob,k _ _ (.inl rfl) e,c⟩
  | dK kvs=>obtain ⟨z,y,vs,r,ob,es,ep,e,c⟩:=x;exact ⟨z,y,vs,r,ob,es,ep,k _ _ (.inl rfl) e,c⟩
  | dT kvs =>
    obtain ⟨z,y,xs,r,ob,es,ep,e,c⟩:=x
    exact ⟨z,y,xs,Paired.mapP r fun p q z=>⟨z.1,ht _ _ z.2.1,z.2.2⟩,ob,es,ep,k _ _ (.inl rfl) e,c⟩
  | set S n=>obtain ⟨ob,es,ep,t,e,c⟩:=x;exact ⟨ob,es,ep,t,k _ _ (.inl rfl) e,c⟩
  | ins C dx fs =>
    obtain ⟨d,z,ne,e,mA,⟨od,es,ep,e2,c⟩,r⟩:=x
    exact ⟨ho _ d,z,ne,k _ _ (.inl rfl) e,mA,⟨od,es,ep,k _ _ (.inr d) e2,c⟩,r⟩
  | own y=>obtain ⟨ob,e⟩:=x;exact ⟨ob,k _ _ (.inl rfl) e⟩
  | xd fs=>obtain ⟨mA,⟨od,es,ep,e,c⟩,r⟩:=x;exact ⟨mA,⟨od,es,ep,k _ _ (.inl rfl) e,c⟩,r⟩
  | rng lo hi=>obtain ⟨t,u,v,e⟩:=x;exact ⟨t,u,v,k _ _ (.inl rfl) e⟩
  | frz ob u ih=>obtain ⟨e,q⟩:=x;exact ⟨k _ _ (.inl rfl) e,ih q⟩
  | tbl ps =>
    have e:h.get? a=some { cls:=.none,data:=.fields ps }:=x
    show h'.get? a=some { cls:=.none,data:=.fields ps }
    exact k a _ (.inl rfl) e
  | met f y =>
    have e:h.get? a=some (PySem.W.methodObj (.ref f) (.ref y)):=x
    show h'.get? a=some (PySem.W.methodObj (.ref f) (.ref y))
    exact k a _ (.inl rfl) e
  | ext φ=>obtain ⟨p,⟨o,e⟩,st⟩:=x;exact ⟨st _ _ p fun o q=>k _ _ (.inl rfl) q,⟨o,k _ _ (.inl rfl) e⟩,st⟩
def HOk.lt (x:HOk P w H h) (e:H a=some o):a < h.objs.size:=(x a o e).lt
theorem HOk.fresh (x:HOk P w H h) (e:h.objs.size<=a):H a=none:=by
 cases q:H a with
 | none=>rfl
 | some u=>exact absurd (Ay (x.lt q) e) (Cv _)
theorem HOk.kept (x:HOk P w H h) (k:∀ b u,h.get? b=some u->h'.get? b=some u):HOk P w H h':=fun a o e =>
 (x a o e).stay (fun b u _ q=>k b u q) (fun _ q=>q) fun _ _ q=>q
theorem HOk.laid (x:HOk P w H h) (k:∀ b u,h.get? b=some u->h'.get? b=some u) (U:h.objs.size<=a) (new:ObjOk P w (upd H a o) h' a o):HOk P w (upd H a o) h':=fun b u e=>by
 have hn:=x.fresh U
 by_cases hb:b=a
 ·subst hb;rw [Q3] at e;cases e;exact new
 ·rw [QI hb] at e
  exact (x b u e).stay (fun c v _ q=>k c v q) (fun c q=>by rw [QI (Zy q hn)];exact q) fun c xs q=>by rw [QI (Zy q hn)];exact q
end
def Rd (H:Hp) (a:Addr) (u:HO):Prop:=H a=some u∨∃ o,H a=some (.frz o u)
theorem Rd.ok {w:World} {a:Addr} (r:Rd H a u) (x:HOk P w H h):ObjOk P w H h a u:=by
 rcases r with r | ⟨o,r⟩
 ·exact x a u r
 ·obtain ⟨_,q⟩:=x a _ r
  exact q
def Mut:Option HO->Prop
 | some (.lst _)=>True
 | some (.dK _)=>True
 | some (.dT _)=>True
 | some (.set _ _)=>True
 | some (.ins _ _ _)=>True
 | some (.ext _)=>True
 | _=>False
section
variable {P:Program} {w:World} {H:Hp} {h h':Heap} {x e:Addr} {o':HO}
theorem HOk.write (ok:HOk P w H h) (mu:Mut (H x)) (he:e=x∨H e=some (.own x)) (k:∀ b u,b≠e->h.get? b=some u->h'.get? b=some u) (heo:∃ u,h'.get? e=some u)
  (new:ObjOk P w (upd H x o') h' x o'):HOk P w (upd H x o') h':=fun b u q=>by
 have nown:∀ c y,H c=some (.own y)->c≠x:=fun c y r z=>by subst z;rw [r] at mu;exact mu
 have ntup:∀ c xs,H c=some (.tup xs)->c≠x:=fun c xs r z=>by subst z;rw [r] at mu;exact mu
 by_cases hb:b=x
 ·subst hb;rw [Q3] at q;cases q;exact new
 ·rw [QI hb] at q
  by_cases hbe:b=e
  ·have q':H b=some (.own x):=by
    rcases he with z | z
    ·exact absurd (hbe.trans z) hb
    ·rw [hbe];exact z
   rw [q] at q';cases q'
   obtain ⟨v,hv⟩:=heo
   exact ⟨v,by rw [hbe];exact hv⟩
  ·refine (ok b u q).stay (fun c v hc r=>k c v ?_ r) (fun c r=>by rw [QI (nown c b r)];exact r) fun c xs r=>by rw [QI (ntup c xs r)];exact r
   rcases hc with rfl | hc
   ·exact hbe
   ·rintro rfl
    rcases he with z | z
    ·exact nown c b hc z
    ·rw [hc] at z;cases z;exact hb rfl
end
structure Un (fs ex:Eo) (H H':Hp) (h h':Heap):Prop where
 keep:∀ b o,h.get? b=some o->H b=none->b∉fs->b∉ex->h'.get? b=some o
 slot:∀ b o,h.get? b=some o->H b=none->b∈fs->b∉ex->∃ sl,h'.get? b=some { o with slots:=sl }
 free:∀ b o,h.get? b=some o->H b=none->b∉ex->H' b=none
 there:∀ b o,h.get? b=some o->b∉ex->∃ o',h'.get? b=some o'
 tups:∀ b xs,H b=some (.tup xs)->H' b=some (.tup xs)
 frzs:∀ b o u,H b=some (.frz o u)->H' b=some (.frz o u)
 tbls:∀ b ps,H b=some (.tbl ps)->∃ more,H' b=some (.tbl (ps++more))
section
variable {fs fs' ex ex':Eo} {H H1 H2:Hp} {h h1 h2 h':Heap} {a x e:Addr} {o:HO}
theorem Un.any (u:Un fs ex H H1 h h1) {b:Addr} {ob:Obj} (q:h.get? b=some ob) (n:H b=none) (hx:b∉ex):∃ sl,h1.get? b=some { ob with slots:=sl }:=by
 by_cases hb:b∈fs
 ·exact u.slot b ob q n hb hx
 ·exact ⟨ob.slots,u.keep b ob q n hb hx⟩
theorem Un.kept (k:∀ b u,h.get? b=some u->h'.get? b=some u):Un fs ex H H h h' :=
 ⟨fun b ob q _ _ _=>k b ob q,fun b ob q _ _ _=>⟨ob.slots,k b ob q⟩,fun _ _ _ n _=>n,fun b ob q _=>⟨ob,k b ob q⟩,fun _ _ q=>q,fun _ _ _ q=>q,fun _ ps q=>⟨#[],by rw [q];simp⟩⟩
def Un.refl:Un fs ex H H h h:=Un.kept fun _ _ q=>q
theorem Un.laid (k:∀ b u,h.get? b=some u->h'.get? b=some u) (U:h.objs.size<=a) (hn:H a=none):Un fs ex H (upd H a o) h h' where
 keep:=fun b u q _ _ _=>k b u q
 slot:=fun b u q _ _ _=>⟨u.slots,k b u q⟩
 free:=fun b u q n _=>by rw [QI (Bf (Ay (Ap q) U))];exact n
 there:=fun b u q _=>⟨u,k b u q⟩
 tups:=fun b xs q=>by rw [QI (Zy q hn)];exact q
 frzs:=fun b u xs q=>by rw [QI (Zy q hn)];exact q
 tbls:=fun b ps q=>⟨#[],by rw [QI (Zy q hn),q];simp⟩
theorem Un.write (mu:Mut (H x)) (he:e=x∨H e=some (.own x)) (k:∀ b u,b≠e->h.get? b=some u->h'.get? b=some u) (heo:∃ u,h'.get? e=some u):Un fs ex H (upd H x o) h h':=by
 have hx:∀ b,H b=none->b≠x:=fun b n z=>by subst z;rw [n] at mu;exact mu
 have hb:∀ b,H b=none->b≠e:=fun b n z=>by
  subst z
  rcases he with r | r
  ·exact hx b n r
  ·rw [n] at r;cases r
 have hm:∀ b u,H b=some u->¬ Mut (some u)->b≠x:=fun b u q nm z=>by subst z;rw [q] at mu;exact nm mu
 refine ⟨fun b u q n _ _=>k b u (hb b n) q,fun b u q n _ _=>⟨u.slots,k b u (hb b n) q⟩,fun b u q n _=>by rw [QI (hx b n)];exact n,fun b u q _=>?_,
  fun b xs q=>by rw [QI (hm b _ q fun z=>z)];exact q,fun b u xs q=>by rw [QI (hm b _ q fun z=>z)];exact q,fun b ps q=>⟨#[],by rw [QI (hm b _ q fun z=>z),q];simp⟩⟩
 by_cases hbe:b=e
 ·subst hbe;exact heo
 ·exact ⟨u,k b u hbe q⟩
end
def trk (h:Heap) (H:Hp):List Addr:=(List.range h.objs.size).filter fun a=>(H a).isSome
def Kr (h:Heap) (H:Hp):Heap:=PySem.W.hideAll h (trk h H)
def Qag (h:Heap) (H:Hp):(Kr h H).objs.size=h.objs.size:=PySem.W.hideAll_size _ _
theorem Qbz {h:Heap} {H:Hp} {b:Addr} (e:h.get? b=some o) (n:H b=none):(Kr h H).get? b=some o :=
 PySem.W.hideAll_get _ e fun hm=>by
  have q:(H b).isSome=true:=(Bm.mp hm).2
  rw [n] at q;simp at q
theorem Qdv {h:Heap} {H:Hp} {b:Addr} (e:(Kr h H).get? b=some o):h.get? b=some o/\H b=none:=by
  have e':h.get? b=some o:=PySem.W.of_hideAll (trk h H) e
  refine ⟨e',?_⟩
  cases q:H b with
  | none=>rfl
  | some x =>
    have hm:b∈trk h H:=Bm.mpr ⟨Ch.mpr (Ap e'),by simp [q]⟩
    have z:(Kr h H).get? b=none:=PySem.W.hideAll_none (trk h H) hm
    rw [z] at e;cases e
def U9 (g h:Heap) (L:Addr):List (Addr×Obj):=(List.range h.objs.size).filterMap fun a=>if a=L∨(g.get? a).isSome=true then none else (h.get? a).map fun o=>(a,o)
theorem yX {g h:Heap} {L:Addr} {p:Addr×Obj} (U:p∈U9 g h L):p.1≠L/\g.get? p.1=none/\h.get? p.1=some p.2:=by
  obtain ⟨b,_,e⟩:=List.mem_filterMap.mp U
  split at e
  . cases e
  . rename_i hn
    cases q:h.get? b with
    | none=>rw [q] at e;simp at e
    | some u =>
      rw [q] at e
      simp only [Option.map_some,Option.some.injEq] at e
      subst e
      refine ⟨fun z=>hn (.inl z),?_,q⟩
      show g.get? b=none
      cases r:g.get? b with
      | none=>rfl
      | some v=>exact (hn (.inr (by simp [r]))).elim
def rest (g h:Heap) (L d:Addr):List (Addr×Obj):=(U9 g h L).filter fun p=>decide (p.1≠d)
def QbS {L:Addr}:News g L h (U9 g h L):=fun p U=>let ⟨a,b,c⟩:=yX U;⟨c,a,b⟩
structure Mod (K:Aa) (mg:Ei) (O8:Heap):Prop where
 kin:K.In O8
 glob:O8.Ns mainGlobals mg
 blt:∃ mb,O8.Ns builtinsNs mb/\∀ x:Str,x ≠ "__name__" -> mb x=bootBuiltins x
 nolimit:O8.NoLimit
structure Cx where
 prog:Program
 w:World
 K:Aa
 mg:Str->Option Value
 O8:Heap
 A:Around
 N:List Str
 s₀:Shared
 H₀:Hp
 env:Env
 outer:List Env
 stack:List Env
 ex:List Addr
 fn:Str->Bool
 calm:Bool
 pn:List (Addr×Obj)
 xe:Value->Shared->Prop
def frs (l:List Env):List Addr:=l.filterMap (·.frame)
abbrev Cx.fs (X:Cx):List Addr:=frs X.outer
def Vis (sc:Scope) (x:Str):Prop:=sc.names.lookup x=some .local∨sc.names.lookup x=some .cell∨sc.names.lookup x=some .free
def Loc (sc:Scope) (x:Str):Prop:=sc.names.lookup x=some .local∨sc.names.lookup x=some .cell
def Qhw (env:Env) (h:Heap) (m:Ei) (x:Str) (u:Value):Prop :=
 (env.kindOf x=some .local/\m x=some u)∨((env.kindOf x=some .cell∨env.kindOf x=some .free)/\∃ c,env.cells.lookup x=some c/\h.IsCell c (some u))
structure Cx.Ok (X:Cx):Prop where
 mod:Mod X.K X.mg X.O8
 kind:X.env.scope.kind=.function
 glob:X.env.globals=mainGlobals
 blt:X.env.builtins=builtinsNs
 above:X.s₀.heap.objs.size<=X.env.locals
 inj:∀ x y c,X.env.cells.lookup x=some c->X.env.cells.lookup y=some c->x=y
 has:∀ x,(X.env.kindOf x=some .cell∨X.env.kindOf x=some .free)->∃ c,X.env.cells.lookup x=some c
 cab:∀ x c,X.fn x=true->X.env.cells.lookup x=some c->X.s₀.heap.objs.size<=c
 hd:X.calm=true->X.A.handled=none
 frames:X.A.frames=some X.stack
 stk:X.stack=X.outer∨(X.stack=X.env::X.outer/\X.env.frame=some X.env.locals)
 exf:∀ b∈X.ex,b≠X.env.locals/\∀ x c,X.env.cells.lookup x=some c->c≠b
 bs:∀ b o,X.O8.get? b=some o->X.s₀.heap.get? b=some o/\X.H₀ b=none
 bsz:X.O8.objs.size<=X.s₀.heap.objs.size
 noex:∀ b o,X.O8.get? b=some o->b∉X.ex
 exfs:∀ b∈X.ex,b∉X.fs
 funs:X.s₀.heap.FunFrames X.O8 X.outer
 frf:∀ b∈X.fs,X.H₀ b=none
structure Inv (X:Cx) (O9:Eh) (σ:List (Option V)) (H:Hp) (s:Shared):Prop where
 ok:X.Ok
 os:s.os=X.s₀.os
 bare:AllBare s.gens
 O8:Un X.fs X.ex X.H₀ H X.s₀.heap s.heap
 loc:∃ m,s.heap.Ns X.env.locals m/\∀ (i:Nat) (x:Str) (v:V),X.N[i]?=some x->σ[i]?=some (some v)->Vis X.env.scope x->∃ u,RelV v u/\Qhw X.env s.heap m x u
 cell:∀ x c,X.env.cells.lookup x=some c->∃ v,s.heap.IsCell c v
 free:H X.env.locals=none
 freeC:∀ x c,X.env.cells.lookup x=some c->H c=none
 pin:∀ p∈X.pn++O9,s.heap.get? p.1=some p.2/\H p.1=none/\p.1≠X.env.locals/\p.1∉X.fs/\∀ v,p.2.data≠.cell v
 hok:HOk X.prog X.w H s.heap
 len:σ.length=X.N.length
section
variable {X:Cx} {O9:Eh} {σ:List (Option V)} {H H':Hp} {s:Shared} {h':Heap}
theorem Cx.Ok.nofr (ok:X.Ok) {b:Addr} (e:X.O8.get? b=some o):b∉X.fs:=fun hb=>by
 have:=(ok.funs.mem hb).1
 rw [e] at this;cases this
theorem Inv.bs (I:Inv X O9 σ H s):∀ b o,X.O8.get? b=some o->s.heap.get? b=some o/\H b=none:=fun b o e =>
 ⟨I.O8.keep b o (I.ok.bs b o e).1 (I.ok.bs b o e).2 (I.ok.nofr e) (I.ok.noex b o e),I.O8.free b o (I.ok.bs b o e).1 (I.ok.bs b o e).2 (I.ok.noex b o e)⟩
def Inv.bk (I:Inv X O9 σ H s):∀ b o,X.O8.get? b=some o->s.heap.get? b=some o:=fun b o e=>(I.bs b o e).1
def Inv.mod (I:Inv X O9 σ H s):Mod X.K X.mg X.O8:=I.ok.mod
def Inv.kIn (I:Inv X O9 σ H s):X.K.In s.heap:=I.ok.mod.kin.keeps I.bk
theorem Inv.fr (I:Inv X O9 σ H s):∃ m,Fr X.O8 X.env.locals s.heap m :=
 let ⟨m,hn,_⟩:=I.loc
 ⟨m,hn,I.bk,Bj I.ok.bsz I.ok.above⟩
def Inv.lt (I:Inv X O9 σ H s):X.env.locals < s.heap.objs.size:=let ⟨_,hn,_⟩:=I.loc;hn.lt
def Inv.sz (I:Inv X O9 σ H s):X.s₀.heap.objs.size<=s.heap.objs.size:=Bj I.ok.above (Nat.le_of_lt I.lt)
theorem Inv.nofs (I:Inv X O9 σ H s) {a:Addr} (h:s.heap.objs.size<=a):a∉X.fs:=fun hb=>by
 obtain ⟨_,o,ho,_⟩:=I.ok.funs.mem hb
 exact absurd (Ay (Ap ho) (Bj I.sz h)) (Cv _)
theorem Inv.cne (I:Inv X O9 σ H s):∀ x c,X.env.cells.lookup x=some c->c≠X.env.locals:=fun x c e z=>by
 obtain ⟨v,o,ho,hd⟩:=I.cell x c e
 obtain ⟨m,⟨o',es,ep,ho',hd',_⟩,_⟩:=I.loc
 rw [z,ho'] at ho;cases ho;rw [hd'] at hd;cases hd
theorem Inv.funs (I:Inv X O9 σ H s):s.heap.FunFrames X.O8 X.outer:=by
  have all:∀ (l:List Env),(∀ b∈frs l,b∈X.fs)->X.s₀.heap.FunFrames X.O8 l->s.heap.FunFrames X.O8 l:=by
    intro l
    induction l with
    | nil=>intro _ _;trivial
    | cons env r ih =>
      intro hs hl
      obtain ⟨hk,⟨L,o,hf,hn,ho,hd⟩,hr⟩:=hl
      have hL:L∈X.fs:=hs L (by unfold frs;rw [List.filterMap_cons,hf];exact List.mem_cons_self)
      obtain ⟨sl,e⟩:=I.O8.slot L o ho (I.ok.frf L hL) hL fun z=>I.ok.exfs L z hL
      exact ⟨hk,⟨L,_,hf,hn,e,hd⟩,ih (fun b hb=>hs b (by unfold frs;rw [List.filterMap_cons,hf];exact Ax _ hb)) hr⟩
  exact all X.outer (fun _ hb=>hb) I.ok.funs
theorem Inv.stack (I:Inv X O9 σ H s):s.heap.FunFrames X.O8 X.stack:=by
 rcases I.ok.stk with e | ⟨e,hf⟩
 ·rw [e];exact I.funs
 ·rw [e]
  obtain ⟨m,hn,_⟩:=I.loc
  refine .cons (by rw [I.ok.kind];decide) hf hn ?_ I.funs
  exact Heap.get?_none_of_le (Bj I.ok.bsz I.ok.above)
theorem Inv.stkSub (I:Inv X O9 σ H s):∀ b∈frs X.stack,b∈X.env.locals::X.fs:=fun b hb=>by
 rcases I.ok.stk with e | ⟨e,hf⟩
 ·rw [e] at hb;exact Ax _ hb
 ·rw [e] at hb
  unfold frs at hb
  rw [List.filterMap_cons,hf] at hb
  exact hb
theorem Inv.stkFree (I:Inv X O9 σ H s):∀ b∈frs X.stack,H b=none:=fun b hb=>by
 rcases Bk.mp (I.stkSub b hb) with e | hb
 ·rw [e];exact I.free
 ·obtain ⟨_,o,ho,_⟩:=I.ok.funs.mem hb
  exact I.O8.free b o ho (I.ok.frf b hb) fun z=>I.ok.exfs b z hb
theorem Inv.step {g':Array GenState} {t':Nat} {d':Drawn} {ch:Eo} (I:Inv X O9 σ H s)
  (hch:∀ b∈ch,(b∈X.ex∨X.s₀.heap.objs.size<=b)/\b≠X.env.locals/\(∀ x c,X.env.cells.lookup x=some c->c≠b)/\∀ p∈X.pn++O9,p.1≠b)
  (keep:∀ b o,b≠X.env.locals->b∉X.fs->b∉ch->s.heap.get? b=some o->H b=none->h'.get? b=some o)
  (slot:∀ b o,b≠X.env.locals->b∈X.fs->b∉ch->s.heap.get? b=some o->H b=none->∃ sl,h'.get? b=some { o with slots:=sl }) (free:∀ b o,b∉ch->s.heap.get? b=some o->H b=none->H' b=none)
  (there:∀ b o,b∉ch->s.heap.get? b=some o->∃ o',h'.get? b=some o')
  (tups:∀ b xs,H b=some (.tup xs)->H' b=some (.tup xs)) (frzs:∀ b o u,H b=some (.frz o u)->H' b=some (.frz o u)) (tbls:∀ b ps,H b=some (.tbl ps)->∃ more,H' b=some (.tbl (ps++more)))
  (ns:∀ m,s.heap.Ns X.env.locals m->h'.Ns X.env.locals m) (hok:HOk X.prog X.w H' h') (hg:AllBare g') :
  Inv X O9 σ H' { s with heap:=h',gens:=g',drawn:=d',toks:=t' }:=by
 have neL:∀ b o,X.s₀.heap.get? b=some o->b≠X.env.locals:=fun b o e=>Bf (Ay (Ap e) I.ok.above)
 have neC:∀ b o,X.s₀.heap.get? b=some o->b∉X.ex->b∉ch:=fun b o e hx hb=>by
  rcases (hch b hb).1 with z | z
  ·exact hx z
  ·exact absurd (Ay (Ap e) z) (Cv _)
 have cellK:∀ x c,X.env.cells.lookup x=some c->∀ v,s.heap.IsCell c v->h'.IsCell c v:=fun x c e v ⟨o,ho,hd⟩=>by
  have nch:c∉ch:=fun z=>(hch c z).2.2.1 x c e rfl
  by_cases hc:c∈X.fs
  ·obtain ⟨sl,q⟩:=slot c o (I.cne x c e) hc nch ho (I.freeC x c e)
   exact ⟨_,q,hd⟩
  ·exact ⟨o,keep c o (I.cne x c e) hc nch ho (I.freeC x c e),hd⟩
 refine ⟨I.ok,I.os,hg,⟨fun b o e n hb hx=>?_,fun b o e n hb hx=>?_,fun b o e n hx=>?_,fun b o e hx=>?_,fun b xs e=>tups b xs (I.O8.tups b xs e),fun b o xs e=>frzs b o xs (I.O8.frzs b o xs e),fun b ps e=>?_⟩,?_,fun x c e=>?_,?_,fun x c e=>?_,fun p U=>?_,hok,I.len⟩
 ·exact keep b o (neL b o e) hb (neC b o e hx) (I.O8.keep b o e n hb hx) (I.O8.free b o e n hx)
 ·obtain ⟨sl,e1⟩:=I.O8.slot b o e n hb hx
  obtain ⟨sl',e2⟩:=slot b _ (neL b o e) hb (neC b o e hx) e1 (I.O8.free b o e n hx)
  exact ⟨sl',e2⟩
 ·obtain ⟨o',e1⟩:=I.O8.there b o e hx
  exact free b o' (neC b o e hx) e1 (I.O8.free b o e n hx)
 ·obtain ⟨o',e1⟩:=I.O8.there b o e hx
  exact there b o' (neC b o e hx) e1
 ·obtain ⟨m1,e1⟩:=I.O8.tbls b ps e
  obtain ⟨m2,e2⟩:=tbls b _ e1
  exact ⟨m1++m2,by rw [e2,Array.append_assoc]⟩
 ·obtain ⟨m,hn,hl⟩:=I.loc
  refine ⟨m,ns m hn,fun i x v e1 e2 e3=>?_⟩
  obtain ⟨u,r,l⟩:=hl i x v e1 e2 e3
  refine ⟨u,r,?_⟩
  rcases l with l | ⟨k,c,e,z⟩
  ·exact .inl l
  ·exact .inr ⟨k,c,e,cellK x c e _ z⟩
 ·obtain ⟨v,z⟩:=I.cell x c e
  exact ⟨v,cellK x c e v z⟩
 ·obtain ⟨m,⟨o,_,_,ho,_⟩,_⟩:=I.loc
  exact free _ o (fun z=>(hch _ z).2.1 rfl) ho I.free
 ·obtain ⟨v,o,ho,hd⟩:=I.cell x c e
  exact free c o (fun z=>(hch c z).2.2.1 x c e rfl) ho (I.freeC x c e)
 ·obtain ⟨e,n,ne,nf,d⟩:=I.pin p U
  have nch:p.1∉ch:=fun z=>(hch p.1 z).2.2.2 p U rfl
  exact ⟨keep p.1 p.2 ne nf nch e n,free p.1 p.2 nch e n,ne,nf,d⟩
theorem Inv.un {t':Nat} (I:Inv X O9 σ H s) (u:Un X.fs [] H H' s.heap h') (hok:HOk X.prog X.w H' h'):Inv X O9 σ H' { s with heap:=h',toks:=t' }:=by
 obtain ⟨m,⟨o,es,ep,ho,r⟩,_⟩:=id I.loc
 obtain ⟨sl,hL⟩:=u.any ho I.free (by simp)
 exact I.step (g':=s.gens) (d':=s.drawn) (ch:=[]) (fun _ z=>nomatch z) (fun b o _ hb _ e n=>u.keep b o e n hb (by simp)) (fun b o _ hb _ e n=>u.slot b o e n hb (by simp)) (fun b o _ e n=>u.free b o e n (by simp)) (fun b o _ e=>u.there b o e (by simp)) u.tups u.frzs u.tbls (fun m' hm=>by
  obtain ⟨o',es',ep',ho',r'⟩:=hm
  rw [ho] at ho';cases ho'
  exact ⟨_,es',ep',hL,r'⟩) hok I.bare
theorem Inv.call {g':Array GenState} {t':Nat} {d':Drawn} (I:Inv X O9 σ H s) (u:Un (frs X.stack) ch H H' s.heap h') (hok:HOk X.prog X.w H' h') (hg:AllBare g')
  (hch:∀ b∈ch,(b∈X.ex∨X.s₀.heap.objs.size<=b)/\b≠X.env.locals/\(∀ x c,X.env.cells.lookup x=some c->c≠b)/\∀ p∈X.pn++O9,p.1≠b) :
  Inv X O9 σ H' { s with heap:=h',gens:=g',drawn:=d',toks:=t' }:=by
 obtain ⟨m,⟨o,es,ep,ho,r⟩,_⟩:=id I.loc
 obtain ⟨sl,hL⟩:=u.any ho I.free fun z=>(hch _ z).2.1 rfl
 exact I.step (ch:=ch) hch (fun b o hL hb hc e n=>u.keep b o e n (fun z=>(Bk.mp (I.stkSub b z)).elim hL hb) hc) (fun b o _ _ hc e n=>u.any e n hc) (fun b o hc e n=>u.free b o e n hc) (fun b o hc e=>u.there b o e hc) u.tups u.frzs u.tbls (fun m' hm=>by
  obtain ⟨o',es',ep',ho',r'⟩:=hm
  rw [ho] at ho';cases ho'
  exact ⟨_,es',ep',hL,r'⟩) hok hg
theorem Inv.turned {t':Nat} {it:Addr} (I:Inv X O9 σ H s) (k:∀ b o,b≠it->s.heap.get? b=some o->h'.get? b=some o) (hn:H it=none) (hL:it≠X.env.locals)
  (h1:it∈X.ex∨X.s₀.heap.objs.size<=it) (h2:∀ x c,X.env.cells.lookup x=some c->c≠it) (h3:∀ p∈X.pn++O9,p.1≠it):Inv X O9 σ H { s with heap:=h',toks:=t' }:=by
 have nit:∀ b u,H b=some u->b≠it:=fun b u e z=>by rw [z,hn] at e;cases e
 refine I.step (g':=s.gens) (d':=s.drawn) (ch:=[it]) (fun b hb=>?_) (fun b o _ _ hc e _=>k b o (fun z=>hc (by simp [z])) e) (fun b o _ _ hc e _=>⟨o.slots,k b o (fun z=>hc (by simp [z])) e⟩) (fun _ _ _ _ n=>n)
  (fun b o hc e=>⟨o,k b o (fun z=>hc (by simp [z])) e⟩) (fun _ _ e=>e) (fun _ _ _ e=>e) (fun b ps e=>⟨#[],by rw [e];simp⟩) (fun m hm=>?_) (fun b u e=>?_) I.bare
 ·have e:b=it:=by simpa using hb
  subst e
  exact ⟨h1,hL,h2,h3⟩
 ·obtain ⟨o,es,ep,ho,r⟩:=hm
  exact ⟨o,es,ep,k _ o (Ne.symm hL) ho,r⟩
 ·refine (I.hok b u e).stay (fun c v hc q=>k c v ?_ q) (fun _ q=>q) fun _ _ q=>q
  rcases hc with z | z
  ·rw [z];exact nit b u e
  ·exact nit c _ z
def Inv.tok (I:Inv X O9 σ H s) (t:Nat):Inv X O9 σ H { s with toks:=t }:=I.un (h':=s.heap) (t':=t) Un.refl I.hok
def Inv.kept {t':Nat} (I:Inv X O9 σ H s) (k:∀ b u,s.heap.get? b=some u->h'.get? b=some u):Inv X O9 σ H { s with heap:=h',toks:=t' }:=I.un (Un.kept k) (I.hok.kept k)
theorem Inv.laid {a:Addr} {t':Nat} (I:Inv X O9 σ H s) (k:∀ b u,s.heap.get? b=some u->h'.get? b=some u) (U:s.heap.objs.size<=a) (new:ObjOk X.prog X.w (upd H a o) h' a o):
  Inv X O9 σ (upd H a o) { s with heap:=h',toks:=t' }:=I.un (Un.laid k U (I.hok.fresh U)) (I.hok.laid k U new)
theorem Inv.write {x e:Addr} {o:HO} {t':Nat} (I:Inv X O9 σ H s) (mu:Mut (H x)) (he:e=x∨H e=some (.own x)) (k:∀ b u,b≠e->s.heap.get? b=some u->h'.get? b=some u) (heo:∃ u,h'.get? e=some u)
  (new:ObjOk X.prog X.w (upd H x o) h' x o):Inv X O9 σ (upd H x o) { s with heap:=h',toks:=t' }:=I.un (Un.write mu he k heo) (I.hok.write mu he k heo new)
theorem Inv.pins_of (I:Inv X O9 σ H s) (h:∀ p∈pins',s.heap.get? p.1=some p.2/\H p.1=none/\p.1≠X.env.locals/\p.1∉X.fs/\∀ v,p.2.data≠.cell v):Inv X pins' σ H s :=
 ⟨I.ok,I.os,I.bare,I.O8,I.loc,I.cell,I.free,I.freeC,fun p U=>(Ai.mp U).elim (fun z=>I.pin p (A7 _ z)) (h p),I.hok,I.len⟩
theorem GX {N:List Str} (hN:N.Nodup) {i j:Nat} {x:Str} (a:N[i]?=some x) (b:N[j]?=some x):i=j:=by
 obtain ⟨h1,e1⟩:=Ac.mp a
 obtain ⟨h2,e2⟩:=Ac.mp b
 exact (List.getElem_inj hN).mp (e1.trans e2.symm)
theorem UY {M:Model} {A:Around} {E:Eg} {i:Nat} {x:Str} {Q:Unit->Shared->Prop} (I:Inv X O9 σ H s) (hN:X.N.Nodup) (hi:X.N[i]?=some x) (hx:Loc X.env.scope x) (r:RelV v u)
  (h:∀ s',Inv X O9 (σ.set i (some v)) H s'->(∃ a,Heap.SameBut a s.heap s'.heap/\(a=X.env.locals∨X.env.cells.lookup x=some a))->Q () s') (hf:X.fn x=true∨X.env.scope.names.lookup x=some .local:=by first | exact .inl rfl | exact .inr rfl | assumption):wpAny M A (storeName X.env x u) Q E s:=by
 obtain ⟨m,hn,hl⟩:=id I.loc
 have hcls:(X.env.scope.kind==.class||(X.env.scope.kind==.module&&X.env.locals != X.env.globals))=false:=by rw [I.ok.kind];rfl
 have hiσ:i < σ.length:=by rw [I.len];exact (Ac.mp hi).1
 have cne:=I.cne
 have tracked:∀ {a:Addr} {h':Heap},(∃ o,s.heap.get? a=some o/\H a=none)->Heap.SameBut a s.heap h'->HOk X.prog X.w H h':=fun {a h'} ha hs b ob e=>by
  obtain ⟨_,_,hfree⟩:=ha
  refine (I.hok b ob e).stay (fun c w' hc q=>(hs.2 c ?_).trans q) (fun _ q=>q) fun _ _ q=>q
  rintro rfl
  rcases hc with rfl | hc
  ·rw [hfree] at e;cases e
  ·rw [hfree] at hc;cases hc
 rcases hx with hk | hk
 ·refine wpAny_storeName_local hk hn (fun h' hn' hs=>?_) hcls
  obtain ⟨oL,_,_,hoL,_⟩:=id hn
  refine h _ ⟨I.ok,I.os,I.bare,⟨fun b o e n hb hx=>?_,fun b o e n hb hx=>?_,I.O8.free,fun b o e hx=>?_,I.O8.tups,I.O8.frzs,I.O8.tbls⟩,⟨_,hn',fun j y v' e1 e2 e3=>?_⟩,fun y c e=>?_,I.free,I.freeC,fun p U=>?_,tracked ⟨oL,hoL,I.free⟩ hs,by simpa using I.len⟩ ⟨_,hs,.inl rfl⟩
  ·exact (hs.2 b (Bf (Ay (Ap e) I.ok.above))).trans (I.O8.keep b o e n hb hx)
  ·obtain ⟨sl,e1⟩:=I.O8.slot b o e n hb hx
   exact ⟨sl,(hs.2 b (Bf (Ay (Ap e) I.ok.above))).trans e1⟩
  ·obtain ⟨o',e1⟩:=I.O8.there b o e hx
   exact ⟨o',(hs.2 b (Bf (Ay (Ap e) I.ok.above))).trans e1⟩
  ·by_cases hj:j=i
   ·subst hj
    rw [hi] at e1;cases e1
    rw [Au hiσ] at e2
    cases e2
    exact ⟨u,r,.inl ⟨hk,by simp⟩⟩
   ·rw [Am (Ne.symm hj)] at e2
    obtain ⟨u',r',q⟩:=hl j y v' e1 e2 e3
    refine ⟨u',r',?_⟩
    rcases q with ⟨k,e⟩ | ⟨k,c,e,z⟩
    ·refine .inl ⟨k,?_⟩
     have:y≠x:=fun e=>hj (GX hN e1 (e▸hi))
     simp [this,e]
    ·exact .inr ⟨k,c,e,z.sameBut hs (cne y c e)⟩
  ·obtain ⟨w',z⟩:=I.cell y c e
   exact ⟨w',z.sameBut hs (cne y c e)⟩
  ·obtain ⟨e,n,ne,nf,d⟩:=I.pin p U
   exact ⟨(hs.2 p.1 ne).trans e,n,ne,nf,d⟩
 ·have hfn:X.fn x=true:=by
   rcases hf with z | z
   ·exact z
   ·rw [z] at hk;cases hk
  obtain ⟨c,hc⟩:=I.ok.has x (.inl hk)
  obtain ⟨w',z⟩:=I.cell x c hc
  refine wpAny_storeName_cell I.ok.kind hk hc z (fun h' hc' hs=>?_)
  obtain ⟨oc,hoc,hocd⟩:=id z
  refine h { s with heap:=h' } ⟨I.ok,I.os,I.bare,⟨fun b o e n hb hx=>?_,fun b o e n hb hx=>?_,I.O8.free,fun b o e hx=>?_,I.O8.tups,I.O8.frzs,I.O8.tbls⟩,⟨m,hn.sameBut hs (Ne.symm (cne x c hc)),fun j y v' e1 e2 e3=>?_⟩,fun y c' e=>?_,I.free,I.freeC,fun p U=>?_,tracked ⟨oc,hoc,I.freeC x c hc⟩ hs,by simpa using I.len⟩ ⟨c,hs,.inr hc⟩
  ·exact (hs.2 b (Bf (Ay (Ap e) (I.ok.cab x c hfn hc)))).trans (I.O8.keep b o e n hb hx)
  ·obtain ⟨sl,e1⟩:=I.O8.slot b o e n hb hx
   exact ⟨sl,(hs.2 b (Bf (Ay (Ap e) (I.ok.cab x c hfn hc)))).trans e1⟩
  ·obtain ⟨o',e1⟩:=I.O8.there b o e hx
   exact ⟨o',(hs.2 b (Bf (Ay (Ap e) (I.ok.cab x c hfn hc)))).trans e1⟩
  ·by_cases hj:j=i
   ·subst hj
    rw [hi] at e1;cases e1
    rw [Au hiσ] at e2
    cases e2
    exact ⟨u,r,.inr ⟨.inl hk,c,hc,hc'⟩⟩
   ·rw [Am (Ne.symm hj)] at e2
    obtain ⟨u',r',q⟩:=hl j y v' e1 e2 e3
    refine ⟨u',r',?_⟩
    rcases q with q | ⟨k,c',e,z'⟩
    ·exact .inl q
    ·refine .inr ⟨k,c',e,z'.sameBut hs ?_⟩
     rintro rfl
     exact hj (GX hN e1 (I.ok.inj _ _ _ e hc▸hi))
  ·by_cases hcc:c'=c
   ·subst hcc;exact ⟨_,hc'⟩
   ·obtain ⟨w2,z2⟩:=I.cell y c' e
    exact ⟨w2,z2.sameBut hs hcc⟩
  ·obtain ⟨e,n,ne,nf,d⟩:=I.pin p U
   refine ⟨(hs.2 p.1 ?_).trans e,n,ne,nf,d⟩
   intro q
   rw [q,hoc] at e
   have q':oc=p.2:=Ak e
   exact d w' (by rw [<- q'];exact hocd)
theorem vk {M:Model} {A:Around} {E:Eg} {i:Nat} {x:Str} {Q:Unit->Shared->Prop} (I:Inv X O9 σ H s) (hN:X.N.Nodup) (hi:X.N[i]?=some x) (hx:Loc X.env.scope x) (r:RelV v u)
  (h:∀ s',Inv X O9 (σ.set i (some v)) H s'->Q () s') (hf:X.fn x=true∨X.env.scope.names.lookup x=some .local:=by first | exact .inl rfl | exact .inr rfl | assumption):wpAny M A (storeName X.env x u) Q E s :=
 UY I hN hi hx r (fun s' I' _=>h s' I') hf
theorem Inv.call' {s':Shared} (I:Inv X O9 σ H s) (ho:s'.os=s.os) (u:Un (frs X.stack) ch H H' s.heap s'.heap) (hok:HOk X.prog X.w H' s'.heap) (hg:AllBare s'.gens)
  (hch:∀ b∈ch,(b∈X.ex∨X.s₀.heap.objs.size<=b)/\b≠X.env.locals/\(∀ x c,X.env.cells.lookup x=some c->c≠b)/\∀ p∈X.pn++O9,p.1≠b):Inv X O9 σ H' s':=by
 obtain ⟨h',g',d',t',o'⟩:=s'
 have e:o'=s.os:=ho
 subst e
 exact I.call (g':=g') (t':=t') (d':=d') u hok hg hch
end
abbrev XK:=Value->Option Addr->Hp->Prop
abbrev St:=List (Option V)
abbrev VK:=V->Hp->Prop
abbrev TE:=St->Hp->VK->Prop
abbrev TT:=St->Hp->(Bool->Hp->Prop)->Prop
abbrev TA:=St->Hp->(List V->Hp->Prop)->Prop
structure U5 where
 nx:St->Hp->Prop
 rt:VK
 bk:St->Hp->Prop:=fun _ _=>False
 ct:St->Hp->Prop:=fun _ _=>False
abbrev TS:=U5->St->Hp->Prop
def EP (X:Cx) (O9:Eh) (σ:St) (Q:VK) (u:Value) (s':Shared):Prop:=∃ v H',Inv X O9 σ H' s'/\RelV v u/\Q v H'
def TP (X:Cx) (O9:Eh) (σ:St) (Q:Bool->Hp->Prop) (b:Bool) (s':Shared):Prop:=∃ H',Inv X O9 σ H' s'/\Q b H'
def AP (X:Cx) (O9:Eh) (σ:St) (Q:List V->Hp->Prop) (us:List Value) (s':Shared):Prop:=∃ vs H',Inv X O9 σ H' s'/\Vals vs us/\Q vs H'
def SP (X:Cx) (O9:Eh) (D:U5) (f:Flow) (s':Shared):Prop :=
 match f with
 | .next=>∃ σ' H',Inv X O9 σ' H' s'/\D.nx σ' H'
 | .brk=>∃ σ' H',Inv X O9 σ' H' s'/\D.bk σ' H'
 | .cont=>∃ σ' H',Inv X O9 σ' H' s'/\D.ct σ' H'
 | .ret u=>∃ v σ' H',Inv X O9 σ' H' s'/\RelV v u/\D.rt v H'
def PE (X:Cx) (e:Expr) (t:TE):Prop :=
 ∀ (O9:Eh) (s:Shared) (σ:St) (H:Hp) (Q:VK),Inv X O9 σ H s->t σ H Q->wpAny (model X.prog X.w) X.A (eval e X.env) (EP X O9 σ Q) X.xe s
def PT (X:Cx) (e:Expr) (t:TT):Prop :=
 ∀ (O9:Eh) (s:Shared) (σ:St) (H:Hp) (Q:Bool->Hp->Prop),Inv X O9 σ H s->t σ H Q->wpAny (model X.prog X.w) X.A (isTrue e X.env (eval e X.env)) (TP X O9 σ Q) X.xe s
def PW (X:Cx) (e:Expr) (t:TT):Prop :=
 ∀ (whole:Sem Value) (O9:Eh) (s:Shared) (σ:St) (H:Hp) (Q:Bool->Hp->Prop),Inv X O9 σ H s->t σ H Q->wpAny (model X.prog X.w) X.A (isTrue e X.env whole) (TP X O9 σ Q) X.xe s
def PA (X:Cx) (es:List Expr) (t:TA):Prop :=
 ∀ (pos:Pos) (O9:Eh) (s:Shared) (σ:St) (H:Hp) (Q:List V->Hp->Prop),Inv X O9 σ H s->t σ H Q->wpAny (model X.prog X.w) X.A (spliced (backTo pos (starEach es X.env))) (AP X O9 σ Q) X.xe s
def PS (X:Cx) (st:Stmt) (t:TS):Prop :=
 ∀ (O9:Eh) (s:Shared) (σ:St) (H:Hp) (D:U5),Inv X O9 σ H s->t D σ H->wpAny (model X.prog X.w) X.A (exec st X.env) (SP X O9 D) X.xe s
def PSs (X:Cx) (st:List Stmt) (t:TS):Prop :=
 ∀ (O9:Eh) (s:Shared) (σ:St) (H:Hp) (D:U5),Inv X O9 σ H s->t D σ H->wpAny (model X.prog X.w) X.A (execs st X.env) (SP X O9 D) X.xe s
def thn {α:Type} {t:Sem α} {Q Q':α->Shared->Prop} (h:wpAny M A t Q E s) (hQ:∀ a s,Q a s->Q' a s):wpAny M A t Q' E s:=wpAny_mono h hQ fun _ _ x=>x
section
variable {X:Cx}
theorem bin {ta tb:TE} (ha:PE X a ta) (hb:PE X b tb) {R:V->V->Hp->Prop} (I:Inv X O9 σ H s) (h:ta σ H fun x H1=>tb σ H1 fun y H2=>R x y H2)
  {α:Type} {Q:α->Shared->Prop} {f:Value->Value->Sem α}
  (hf:∀ v u s2 x y H2,Inv X O9 σ H2 s2->RelV x v->RelV y u->R x y H2->wpAny (model X.prog X.w) X.A (f v u) Q X.xe s2) :
  wpAny (model X.prog X.w) X.A (eval a X.env) (fun v s₁=>wpAny (model X.prog X.w) X.A (eval b X.env) (fun u s₂=>wpAny (model X.prog X.w) X.A (f v u) Q X.xe s₂) X.xe s₁) X.xe s:=by
 refine thn (ha O9 s σ H _ I h) fun v s1 ⟨x,H1,I1,r1,q1⟩=>?_
 refine thn (hb O9 s1 σ H1 _ I1 q1) fun u s2 ⟨y,H2,I2,r2,q2⟩=>?_
 exact hf v u s2 x y H2 I2 r1 r2 q2
def QhX (i:Nat):TE:=fun σ H Q=>∃ v,σ[i]?=some (some v)/\Q v H
def tC (v:V):TE:=fun _ H Q=>Q v H
theorem QfJ {i:Nat} {x:Str} {pos:Pos} (hN:X.N[i]?=some x) (hv:Vis X.env.scope x) (hd:(x==("__debug__" : Str))=false:=by decide) (hcd:(x==("__classdict__" : Str))=false:=by decide):PE X (.Name x pos) (QhX i):=by
 intro O9 s σ H Q I h
 obtain ⟨v,e,h⟩:=h
 obtain ⟨m,hn,hl⟩:=I.loc
 obtain ⟨u,r,l⟩:=hl i x v hN e hv
 have fin:EP X O9 σ Q u s:=⟨v,H,I,r,h⟩
 rcases l with ⟨hk,hm⟩ | ⟨hk,c,hc,hcell⟩
 ·exact wpAny_Name (wpAny_loadName_local I.ok.kind hk hn hm fin) hd
 ·rcases hk with hk | hk
  ·exact wpAny_Name (wpAny_loadName_cell I.ok.kind hk hc hcell fin) hd
  ·exact wpAny_Name (wpAny_loadName_free I.ok.kind hk hc hcell fin hcd) hd
def QfE {i j pos}:PE X (.Constant (.int i) j pos) (tC (.int i)):=fun _ _ _ H _ I h=>wpAny_Constant_int ⟨.int i,H,I.tok _,⟨_,rfl⟩,h⟩
def Qg5 {b j pos}:PE X (.Constant (.bool b) j pos) (tC (.bl b)):=fun _ _ _ H _ I h=>Constant_bool ⟨.bl b,H,I,rfl,h⟩
def QfF {j pos}:PE X (.Constant .none j pos) (tC .non):=fun _ _ _ H _ I h=>Constant_none ⟨.non,H,I,rfl,h⟩
def QfI {x j pos}:PE X (.Constant (.str x) j pos) (tC (.str x)):=fun _ _ _ H _ I h=>Calls.Constant_str ⟨.str x,H,I.tok _,⟨_,rfl⟩,h⟩
def Gl (X:Cx) (x:Str):Prop:=X.env.kindOf x=some .globalImplicit
theorem KA {E:Eg} {x:Str} {pos:Pos} {Q:Eg} (I:Inv X O9 σ H s) (hg:Gl X x) (hm:X.mg x=some u) (h:Q u s)
  (hd:(x==("__debug__" : Str))=false:=by decide):wpAny (model X.prog X.w) X.A (eval (.Name x pos) X.env) Q E s :=
 Calls.Name_function_global I.ok.kind hg (Calls.loadGlobal_global (by rw [I.ok.glob];exact I.mod.glob.keeps I.bk) hm h) hd
theorem qO {E:Eg} {x:Str} {pos:Pos} {Q:Eg} (I:Inv X O9 σ H s) (hg:Gl X x) (hm:X.mg x=none) (hv:bootBuiltins x=some u) (h:Q u s)
  (hn:x ≠ "__name__" := by decide) (hd:(x==("__debug__" : Str))=false:=by decide):wpAny (model X.prog X.w) X.A (eval (.Name x pos) X.env) Q E s:=by
 obtain ⟨mb,h1,h2⟩:=I.mod.blt
 exact Calls.Name_function_global I.ok.kind hg (Calls.loadGlobal_builtin (by rw [I.ok.glob];exact I.mod.glob.keeps I.bk) hm (by rw [I.ok.blt];exact h1.keeps I.bk) ((h2 x hn).trans hv) h) hd
theorem gR {x:Str} {pos:Pos} (hg:Gl X x) (hm:X.mg x=some u) (r:RelV v u) (hd:(x==("__debug__" : Str))=false:=by decide):PE X (.Name x pos) (tC v) :=
 fun _ _ _ H _ I h=>KA I hg hm ⟨v,H,I,r,h⟩ hd
theorem KJ {x:Str} {pos:Pos} (hg:Gl X x) (hm:X.mg x=none) (hv:bootBuiltins x=some u) (r:RelV v u) (hn:x ≠ "__name__" := by decide) (hd:(x==("__debug__" : Str))=false:=by decide):PE X (.Name x pos) (tC v) :=
 fun _ _ _ H _ I h=>qO I hg hm hv ⟨v,H,I,r,h⟩ hn hd
variable {a b:Expr} {ta tb:TE} {pos:Pos}
def PC (X:Cx) (op:CmpOp) (a b:Expr) (t:TE):Prop :=
  ∀ (O9 : List (Addr × Obj)) (s : Shared) (σ : St) (H : Hp) (Q : VK), Inv X O9 σ H s -> t σ H Q ->
    wpAny (model X.prog X.w) X.A (eval a X.env) (fun v s₁=>wpAny (model X.prog X.w) X.A (eval b X.env) (fun u s₂=>wpAny (model X.prog X.w) X.A (compareOp op v u) (EP X O9 σ Q) X.xe s₂) X.xe s₁) X.xe s
theorem QbT (b:Expr) {op:CmpOp} (h:op≠.In) (h2:op≠.NotIn):behindInMarks op b=false:=by
 have e1:(op==CmpOp.In)=false:=by cases op<;>first | rfl | exact absurd rfl h
 have e2:(op==CmpOp.NotIn)=false:=by cases op<;>first | rfl | exact absurd rfl h2
 cases b<;>simp [behindInMarks,e1,e2]
def tB (t:TE):TT:=fun σ H Q=>t σ H fun x H1=>∃ c,x=.bl c/\Q c H1
theorem QhH {op:CmpOp} (h:PC X op a b t) (h1:behindInMarks op b=false:=by first | exact QbT _ (by decide) (by decide) | rfl):PT X (.Compare a [op] [b] pos) (tB t):=by
 intro O9 s σ H Q I hw
 refine wpAny_isTrue_Compare1 (thn (h O9 s σ H _ I hw) fun v s1 h1=>thn h1 fun u s2 h2=>thn h2 fun c s3 ⟨x,H1,I1,r1,q1⟩=>?_) h1
 obtain ⟨d,rfl,q⟩:=q1
 cases r1
 exact wpAny_truthy_bool ⟨H1,I1,q⟩
theorem Qf0 {e:Expr} (h:PE X e t) (he:∀ whole,isTrue e X.env whole=(do let v <- whole;standAt e.pos;holding [v] (truthy v)):=by intro _;rfl):PT X e (tB t):=by
 intro O9 s σ H Q I hw
 refine isTrue_plain (thn (h O9 s σ H _ I hw) fun v s1 ⟨x,H1,I1,r1,q1⟩=>?_) (he _)
 obtain ⟨d,rfl,q⟩:=q1
 cases r1
 exact wpAny_truthy_bool ⟨H1,I1,q⟩
variable {tA tB':TT} {rest:List Expr}
def QhP (t u:TT):TT:=fun σ H Q=>t σ H fun c H1=>if c=true then u σ H1 Q else Q false H1
def tOr (t u:TT):TT:=fun σ H Q=>t σ H fun c H1=>if c=true then Q true H1 else u σ H1 Q
def QhU (t:TT):TT:=fun σ H Q=>t σ H fun c H1=>Q (!c) H1
theorem Qd0 (ha:PT X a tA):PW X (.BoolOp .And [a] pos) tA:=by
 intro wh O9 s σ H Q I h
 refine isTrue_and (thn (ha O9 s σ H Q I h) fun c s1 e=>?_)
 cases c with
 | true=>exact isTrue_and_nil e
 | false=>exact e
theorem Qf3 (ha:PT X a tA):PW X (.BoolOp .Or [a] pos) tA:=by
 intro wh O9 s σ H Q I h
 refine isTrue_or (thn (ha O9 s σ H Q I h) fun c s1 e=>?_)
 cases c with
 | false=>exact isTrue_or_nil e
 | true=>exact e
theorem Qf2 (ha:PT X a tA) (hb:PW X (.BoolOp .And (b::rest) pos) tB'):PW X (.BoolOp .And (a::b::rest) pos) (QhP tA tB'):=by
 intro wh O9 s σ H Q I h
 refine isTrue_and (thn (ha O9 s σ H _ I h) fun c s1 ⟨H1,I1,q1⟩=>?_)
 cases c with
 | true=>exact hb wh O9 s1 σ H1 Q I1 q1
 | false=>exact ⟨H1,I1,q1⟩
theorem Qg9 (ha:PT X a tA) (hb:PW X (.BoolOp .Or (b::rest) pos) tB'):PW X (.BoolOp .Or (a::b::rest) pos) (tOr tA tB'):=by
 intro wh O9 s σ H Q I h
 refine isTrue_or (thn (ha O9 s σ H _ I h) fun c s1 ⟨H1,I1,q1⟩=>?_)
 cases c with
 | true=>exact ⟨H1,I1,q1⟩
 | false=>exact hb wh O9 s1 σ H1 Q I1 q1
theorem QfZ (ha:PT X a tA):PT X (.UnaryOp .Not a pos) (QhU tA):=by
 intro O9 s σ H Q I h
 exact isTrue_not (ha O9 s σ H (fun c H1=>Q (!c) H1) I h)
def Qhi (ta tb:TE):TE:=fun σ H Q=>ta σ H fun x H1=>∃ c,x=.bl c/\if c=true then tb σ H1 Q else Q (.bl false) H1
def Qho (ta:TE):TE:=fun σ H Q=>ta σ H fun x H1=>∃ c,x=.bl c/\Q (.bl (!c)) H1
def QfH {op} (h:PE X a t):PE X (.BoolOp op [a] pos) t:=fun O9 s σ H Q I hw=>BoolOp_one (h O9 s σ H Q I hw)
theorem QfC (ha:PE X a ta) (hb:PE X (.BoolOp .And (b::rest) pos) tb):PE X (.BoolOp .And (a::b::rest) pos) (Qhi ta tb):=by
 intro O9 s σ H Q I h
 refine BoolOp_and (thn (ha O9 s σ H _ I h) fun v s1 ⟨x,H1,I1,r1,q1⟩=>?_)
 obtain ⟨c,rfl,q1⟩:=q1
 cases r1
 refine wpAny_truthy_bool ?_
 cases c with
 | true=>exact hb O9 s1 σ H1 Q I1 q1
 | false=>exact ⟨.bl false,H1,I1,rfl,q1⟩
theorem QfG (ha:PE X a ta):PE X (.UnaryOp .Not a pos) (Qho ta):=by
 intro O9 s σ H Q I h
 refine UnaryOp_ (thn (ha O9 s σ H _ I h) fun v s1 ⟨x,H1,I1,r1,q1⟩=>?_)
 obtain ⟨c,rfl,q1⟩:=q1
 cases r1
 exact not_of (wpAny_truthy_bool ⟨.bl (!c),H1,I1,rfl,q1⟩)
def tIf (t:TT) (ta tb:TE):TE:=fun σ H Q=>t σ H fun c H1=>if c=true then ta σ H1 Q else tb σ H1 Q
theorem QbZ (hc:PT X c tA) (ha:PE X a ta) (hb:PE X b tb):PE X (.IfExp c a b pos) (tIf tA ta tb):=by
 intro O9 s σ H Q I h
 refine wpAny_IfExp (thn (hc O9 s σ H _ I h) fun d s1 ⟨H1,I1,q1⟩=>?_)
 cases d with
 | true=>exact ha O9 s1 σ H1 Q I1 q1
 | false=>exact hb O9 s1 σ H1 Q I1 q1
end
def SqL (K:Aa) (H:Hp) (a:Addr) (xs:List V):Prop :=
 Rd H a (.lst xs) ∨
  ∃ (o:Obj) (its:Array Value) (n:Nat),K.lookup a=some o/\o.cls=.type "list" /\ o.dict=none/\o.data=.seq its n/\its.size<=sizeLine/\Vals xs its.toList
def SqT (K:Aa) (H:Hp) (a:Addr) (xs:List V):Prop :=
 Rd H a (.tup xs) ∨
  ∃ (o:Obj) (its:Array Value) (n:Nat),K.lookup a=some o/\o.cls=.type "tuple" /\ o.data=.seq its n/\its.size<=sizeLine/\Vals xs its.toList
def Qhx:Value->Option V
 | .none=>some .non
 | .bool b=>some (.bl b)
 | .int i _=>some (.int i)
 | .str x _=>some (.str x)
 | .bytes b _=>some (.byt b)
 | .float b _=>some (.flt b)
 | .ref a=>some (.ref a)
 | .type n=>some (.ty n)
 | _=>none
theorem RelV.abs (r:RelV x u):Qhx u=some x:=by
 cases x with
 | non=>cases r;rfl
 | bl _=>cases r;rfl
 | int _=>obtain ⟨t,rfl⟩:=r;rfl
 | str _=>obtain ⟨t,rfl⟩:=r;rfl
 | byt _=>obtain ⟨t,rfl⟩:=r;rfl
 | flt _=>obtain ⟨t,rfl⟩:=r;rfl
 | ref _=>cases r;rfl
 | ty _=>cases r;rfl
def RelV.inj {x y:V} (r:RelV x u) (q:RelV y u):x=y:=Ak (r.abs.symm.trans q.abs)
theorem Vals.inj:∀ {xs ys:List V} {us:List Value},Vals xs us->Vals ys us->xs=ys
 | _,_,_,.nil,.nil=>rfl
 | _,_,_,.cons r t,.cons r' t'=>by rw [r.inj r',Vals.inj t t']
section
variable {X:Cx} {O9:Eh} {σ:St} {H:Hp} {s:Shared} {a:Addr} {xs ys:List V}
def SqL.of {K:Aa} (h:H a=some (.lst xs)):SqL K H a xs:=.inl (.inl h)
def SqT.of {K:Aa} (h:H a=some (.tup xs)):SqT K H a xs:=.inl (.inl h)
theorem Inv.list (I:Inv X O9 σ H s) (h:SqL X.K H a xs):∃ its:List Value,Vals xs its/\PlainL s.heap a its.toArray/\xs.length<=sizeLine:=by
 rcases h with h | ⟨o,its,n,hk,hc,hd,hs,hz,r⟩
 ·obtain ⟨z,its,n,r,e⟩:=h.ok I.hok
  exact ⟨its,r,⟨_,n,e,rfl,rfl,rfl⟩,z⟩
 ·refine ⟨its.toList,r,⟨o,n,I.kIn a o hk,hc,hd,by simpa using hs⟩,?_⟩
  have e:=r.length
  simp only [Cj] at e
  lia
theorem Inv.tuple (I:Inv X O9 σ H s) (h:SqT X.K H a xs):∃ its:List Value,Vals xs its/\IsTup s.heap a its.toArray/\xs.length<=sizeLine:=by
 rcases h with h | ⟨o,its,n,hk,hc,hs,hz,r⟩
 ·obtain ⟨z,its,r,p⟩:=h.ok I.hok
  exact ⟨its,r,p,z⟩
 ·refine ⟨its.toList,r,⟨o,I.kIn a o hk,hc,n,by simpa using hs⟩,?_⟩
  have e:=r.length
  simp only [Cj] at e
  lia
theorem Inv.list_inj (I:Inv X O9 σ H s) (h:SqL X.K H a xs) (h':SqL X.K H a ys):xs=ys:=by
 obtain ⟨its,r,⟨o,n,e,_,_,d⟩,_⟩:=I.list h
 obtain ⟨its',r',⟨o',n',e',_,_,d'⟩,_⟩:=I.list h'
 rw [e] at e';cases e'
 rw [d] at d'
 injection d' with d1 _
 have:its=its':=by simpa using congrArg Array.toList d1
 subst this
 exact r.inj r'
theorem Inv.tuple_inj (I:Inv X O9 σ H s) (h:SqT X.K H a xs) (h':SqT X.K H a ys):xs=ys:=by
 obtain ⟨its,r,⟨o,e,_,n,d⟩,_⟩:=I.tuple h
 obtain ⟨its',r',⟨o',e',_,n',d'⟩,_⟩:=I.tuple h'
 rw [e] at e';cases e'
 rw [d] at d'
 injection d' with d1 _
 have:its=its':=by simpa using congrArg Array.toList d1
 subst this
 exact r.inj r'
end
abbrev Cx.wish (X:Cx) (E:Eg):Cx:={ X with xe:=E }
abbrev Cx.nox (X:Cx):Cx:=X.wish fun _ _=>False
theorem Cx.Ok.wish {X:Cx} (ok:X.Ok) (E:Eg):(X.wish E).Ok :=
 ⟨ok.mod,ok.kind,ok.glob,ok.blt,ok.above,ok.inj,ok.has,ok.cab,ok.hd,ok.frames,ok.stk,ok.exf,ok.bs,ok.bsz,ok.noex,ok.exfs,ok.funs,ok.frf⟩
theorem Cx.Ok.unwish {X:Cx} (ok:(X.wish E).Ok):X.Ok :=
 ⟨ok.mod,ok.kind,ok.glob,ok.blt,ok.above,ok.inj,ok.has,ok.cab,ok.hd,ok.frames,ok.stk,ok.exf,ok.bs,ok.bsz,ok.noex,ok.exfs,ok.funs,ok.frf⟩
section
variable {X:Cx} {O9:Eh} {σ:St} {H:Hp} {s:Shared} {E:Eg}
def Inv.wish (I:Inv X O9 σ H s) (E:Eg):Inv (X.wish E) O9 σ H s:=⟨I.ok.wish E,I.os,I.bare,I.O8,I.loc,I.cell,I.free,I.freeC,I.pin,I.hok,I.len⟩
def Inv.unwish (I:Inv (X.wish E) O9 σ H s):Inv X O9 σ H s:=⟨I.ok.unwish,I.os,I.bare,I.O8,I.loc,I.cell,I.free,I.freeC,I.pin,I.hok,I.len⟩
theorem SP.unwish {D:U5} {f:Flow} (h:SP (X.wish E) O9 D f s'):SP X O9 D f s':=by
 cases f with
 | next=>obtain ⟨σ',H',I,q⟩:=h;exact ⟨σ',H',I.unwish,q⟩
 | brk=>obtain ⟨σ',H',I,q⟩:=h;exact ⟨σ',H',I.unwish,q⟩
 | cont=>obtain ⟨σ',H',I,q⟩:=h;exact ⟨σ',H',I.unwish,q⟩
 | ret u=>obtain ⟨v,σ',H',I,r,q⟩:=h;exact ⟨v,σ',H',I.unwish,r,q⟩
theorem PSs.nox {st:List Stmt} (h:PSs X.nox st t):PSs X st t:=fun O9 s σ H D I hw =>
 wpAny_mono (h O9 s σ H D (I.wish _) hw) (fun _ _ q=>q.unwish) fun _ _ z=>False.elim z
end
section
variable {X:Cx} {st:Stmt} {rest:List Stmt} {t u:TS} {e:Expr} {te:TE} {pos:Pos}
def Qhm:TS:=fun D σ H=>D.nx σ H
def Qhq (t u:TS):TS:=fun D σ H=>t { D with nx:=u D } σ H
def pss_nil:PSs X [] Qhm:=fun _ _ σ H _ I h=>wpAny_execs_nil ⟨σ,H,I,h⟩
theorem Qcb (h1:PS X st t) (h2:PSs X rest u):PSs X (st::rest) (Qhq t u):=by
  intro O9 s σ H D I h
  refine wpAny_execs_cons (thn (h1 O9 s σ H { D with nx:=u D } I h) fun f s1 q=>?_)
  cases f with
  | next =>
    obtain ⟨σ',H',I',q⟩:=q
    exact h2 O9 s1 σ' H' D I' q
  | ret v=>exact q
  | brk=>exact q
  | cont=>exact q
theorem QdV (h1:PS X st t):PSs X [st] t:=by
 intro O9 s σ H D I h
 refine wpAny_execs_cons (thn (h1 O9 s σ H D I h) fun f s1 q=>?_)
 cases f with
 | next=>exact wpAny_execs_nil q
 | ret v=>exact q
 | brk=>exact q
 | cont=>exact q
theorem Inv.quiet (I:Inv X O9 σ H s):interactive X.env=false:=by simp [interactive,I.ok.kind]
def Qhl (te:TE):TS:=fun D σ H=>te σ H fun _ H1=>D.nx σ H1
theorem QdU (he:PE X e te) (hs:swapsWith e none pos.line X.env=pure false:=by rfl):PS X (.Expr e pos) (Qhl te):=by
 intro O9 s σ H D I h
 exact wpAny_Expr_any (thn (he O9 s σ H _ I h) fun v s1 ⟨x,H1,I1,r1,q1⟩=>⟨σ,H1,I1,q1⟩) I.quiet hs
def QhV (te:TE):TS:=fun D σ H=>te σ H D.rt
theorem QfX (he:PE X e te):PS X (.Return (some e) pos) (QhV te):=by
 intro O9 s σ H D I h
 exact wpAny_Return_some (thn (he O9 s σ H _ I h) fun v s1 ⟨x,H1,I1,r1,q1⟩=>⟨x,σ,H1,I1,r1,q1⟩)
def QhS (c:TT) (t u:TS):TS:=fun D σ H=>c σ H fun b H1=>if b=true then t D σ H1 else u D σ H1
theorem Qg8 {a b:List Stmt} {tc:TT} (hc:PT X c tc) (ha:PSs X a t) (hb:PSs X b u):PS X (.If c a b pos) (QhS tc t u):=by
 intro O9 s σ H D I h
 refine wpAny_If (thn (hc O9 s σ H _ I h) fun d s1 ⟨H1,I1,q1⟩=>?_)
 cases d with
 | true=>exact ha O9 s1 σ H1 D I1 q1
 | false=>exact hb O9 s1 σ H1 D I1 q1
def Qgb:TS:=fun _ _ _=>False
def Qb9:PS X st Qgb:=fun _ _ _ _ _ _ h=>h.elim
end
abbrev TG:=V->St->Hp->(St->Hp->Prop)->Prop
abbrev TGs:=List V->St->Hp->(St->Hp->Prop)->Prop
def PG (X:Cx) (target:Expr) (t:TG):Prop :=
  ∀ (O9 : List (Addr × Obj)) (s : Shared) (σ : St) (H : Hp) (v : V) (u : Value) (Q : St -> Hp -> Prop), Inv X O9 σ H s -> RelV v u -> t v σ H Q ->
    wpAny (model X.prog X.w) X.A (assign target X.env u) (fun _ s'=>∃ σ' H',Inv X O9 σ' H' s'/\Q σ' H') X.xe s
def PGs (X:Cx) (ts:List Expr) (t:TGs):Prop :=
  ∀ (O9 : List (Addr × Obj)) (s : Shared) (σ : St) (H : Hp) (vs : List V) (us : List Value) (Q : St -> Hp -> Prop), Inv X O9 σ H s -> Vals vs us -> t vs σ H Q ->
    wpAny (model X.prog X.w) X.A (assignInOrder ((assignEach ts X.env).map (·.2)) us) (fun _ s'=>∃ σ' H',Inv X O9 σ' H' s'/\Q σ' H') X.xe s
abbrev QcW:=V->V->V->Hp->(Hp->Prop)->Prop
def QcV (X:Cx) (t:QcW):Prop :=
  ∀ (O9 : List (Addr × Obj)) (s : Shared) (σ : St) (H : Hp) (o i v : V) (ov iv u : Value) (Q : Hp -> Prop), Inv X O9 σ H s -> RelV o ov -> RelV i iv -> RelV v u -> t o i v H Q ->
    wpAny (model X.prog X.w) X.A (setItem ov iv u) (fun _ s'=>∃ H',Inv X O9 σ H' s'/\Q H') X.xe s
section
variable {X:Cx} {pos:Pos}
def gD (i:Nat):TG:=fun v σ H Q=>Q (σ.set i (some v)) H
theorem KK {i:Nat} {x:Str} (hN:X.N.Nodup) (hi:X.N[i]?=some x) (hx:Loc X.env.scope x) (hf:X.fn x=true∨X.env.scope.names.lookup x=some .local:=by first | exact .inl rfl | exact .inr rfl | assumption):PG X (.Name x pos) (gD i):=by
 intro O9 s σ H v u Q I r h
 exact wpAny_assign_Name (vk I hN hi hx r (fun s' I'=>⟨_,H,I',h⟩) hf)
def Qhz:TGs:=fun vs σ H Q=>vs=[]/\Q σ H
def QgF (t:TG) (u:TGs):TGs:=fun vs σ H Q=>∃ v r,vs=v::r/\t v σ H fun σ' H'=>u r σ' H' Q
theorem QdM:PGs X [] Qhz:=by
 intro O9 s σ H vs us Q I r h
 obtain ⟨e,h⟩:=h
 subst e
 cases r
 exact assignInOrder_nil ⟨σ,H,I,h⟩
theorem Qb7 {es:List Expr} {u:TGs} (h1:PG X e t) (h2:PGs X es u)
    (hs:(assignEach (e::es) X.env).map (·.2)=assign e X.env::(assignEach es X.env).map (·.2):=by rfl):PGs X (e::es) (QgF t u):=by
  intro O9 s σ H vs us Q I r h
  obtain ⟨v,vr,e1,h⟩:=h
  subst e1
  cases r with
  | cons r rr =>
    rw [hs]
    refine assignInOrder_cons (thn (h1 O9 s σ H _ _ _ I r h) fun _ s1 ⟨σ1,H1,I1,q1⟩=>?_)
    exact h2 O9 s1 σ1 H1 _ _ Q I1 rr q1
def QhB (K:Aa) (n:Nat) (t:TGs):TG:=fun v σ H Q=>∃ a xs,v=.ref a/\SqT K H a xs/\xs.length=n/\t xs σ H Q
theorem QfP {es:List Expr} {k:Nat} {t:TGs} {n:Nat} (hc:X.calm=true) (h:PGs X es t)
  (hn:(assignEach es X.env).length=n:=by rfl) (hst:(assignEach es X.env).findIdx? (·.1)=none:=by rfl):PG X (.Tuple es k pos) (QhB X.K n t):=by
 intro O9 s σ H v u Q I r hw
 obtain ⟨a,xs,e1,hq,hl,hw⟩:=hw
 subst e1
 cases r
 obtain ⟨its,rv,ht,hz⟩:=I.tuple hq
 refine assign_Tuple_tuple (I.ok.hd hc) ht (by simp [hn,<- hl,rv.length]) hst fun h' hx=>?_
 have I1:Inv X O9 σ H { s with heap:=h' }:=I.kept (t':=s.toks) fun b o e=>hx b o (Bf (Ap e)) e
 exact h O9 _ σ H xs _ Q I1 (by simpa using rv) hw
def QhA (to ti:TE) (t:QcW):TG:=fun v σ H Q=>to σ H fun o H1=>ti σ H1 fun i H2=>t o i v H2 fun H3=>Q σ H3
theorem QfO {t:QcW} (ho:PE X o to) (hi:PE X i ti) (hs:QcV X t)
  (ha:∀ v,assign (.Subscript o i pos) X.env v=(do
   let ov <- holding [v] (eval o X.env)
   let iv <- holding [v,ov] (eval i X.env)
   standAt pos
   holding [v,ov,iv] (setItem ov iv v)
   release [v,ov,iv] []):=by intro _;rfl):PG X (.Subscript o i pos) (QhA to ti t):=by
 intro O9 s σ H v u Q I r h
 rw [ha]
 refine C6 (wpAny_holding (thn (ho O9 s σ H _ I h) fun ov s1 ⟨x,H1,I1,r1,q1⟩=>?_))
 refine C6 (wpAny_holding (thn (hi O9 s1 σ H1 _ I1 q1) fun iv s2 ⟨y,H2,I2,r2,q2⟩=>?_))
 refine C6 (wpAny_standAt (C6 (wpAny_holding (thn (hs O9 s2 σ H2 x y v ov iv u _ I2 r1 r2 r q2) fun _ s3 ⟨H3,I3,q3⟩=>?_))))
 exact wpAny_release ⟨σ,H3,I3,q3⟩
def Qej (te:TE) (g:TG):TS:=fun D σ H=>te σ H fun x H1=>g x σ H1 D.nx
theorem QfU (he:PE X e te) (hg:PG X tg g) (hs:swapsWithSole [tg] e pos.line X.env=pure false:=by rfl) (hw:swappedStores [tg] e X.env=pure none:=by rfl)
  (h1:(assignEach [tg] X.env).map (·.2)=[assign tg X.env]:=by rfl):PS X (.Assign [tg] e pos) (Qej te g):=by
 intro O9 s σ H D I h
 refine wpAny_Assign_stores (thn (he O9 s σ H _ I h) fun v s1 ⟨x,H1,I1,r1,q1⟩=>?_) hs hw
 rw [h1]
 exact thn (hg O9 s1 σ H1 x v _ I1 r1 q1) fun _ s2 q=>q
theorem QfY {i:Nat} {x:Str} (hN:X.N.Nodup) (hi:X.N[i]?=some x) (hx:Loc X.env.scope x) (he:PE X e te) (hs:swapsWith e (some (.Name x pos')) pos.line X.env=pure false:=by rfl) (hf:X.fn x=true∨X.env.scope.names.lookup x=some .local:=by first | exact .inl rfl | exact .inr rfl | assumption):
  PS X (.Assign [.Name x pos'] e pos) (Qej te (gD i)):=by
 intro O9 s σ H D I h
 refine wpAny_Assign_Name (thn (he O9 s σ H _ I h) fun v s1 ⟨y,H1,I1,r1,q1⟩=>?_) hs
 exact vk I1 hN hi hx r1 (fun s2 I2=>⟨_,H1,I2,q1⟩) hf
end
section
variable {X:Cx} {pos:Pos}
def Qgc (c:TT) (tb:TS):TS:=fun D σ H=>∃ W:Nat->St->Hp->Prop,(∃ m,W m σ H)/\∀ m σ H,W m σ H ->
 c σ H fun b H1=>if b=true then ∃ N:St->Hp->Prop,(∀ σ' H',N σ' H'->∃ m',m' < m/\W m' σ' H')/\tb { D with nx:=N,ct:=N,bk:=D.nx } σ H1 else D.nx σ H1
theorem Qca {body:List Stmt} {tc:TT} (U:PassesOwn (model X.prog X.w) X.A X.env X.xe) (hc:PT X c tc) (hb:PSs X body tb):PS X (.While c body [] pos) (Qgc tc tb):=by
  intro O9 s σ H D I h
  obtain ⟨W,⟨m0,w0⟩,turn⟩:=h
  refine wpAny_While (codeAny_whileLoop (fun n s'=>∃ σ' H',Inv X O9 σ' H' s'/\W n σ' H') ?_ m0 ⟨σ,H,I,w0⟩)
  rintro n s1 ⟨σ1,H1,I1,w1⟩
  refine wpAny_passesOwn U (thn (hc O9 s1 σ1 H1 _ I1 (turn n σ1 H1 w1)) fun b s2 ⟨H2,I2,q2⟩=>?_)
  cases b with
  | true =>
    obtain ⟨N,hN,q2⟩:=q2
    rw [C8 rfl]
    refine wpAny_passesOwn U (thn (hb O9 s2 σ1 H2 _ I2 q2) fun f s3 q3=>?_)
    cases f with
    | next =>
      obtain ⟨σ3,H3,I3,n3⟩:=q3
      obtain ⟨m',hm,w3⟩:=hN σ3 H3 n3
      exact ⟨m',hm,σ3,H3,I3,w3⟩
    | cont =>
      obtain ⟨σ3,H3,I3,n3⟩:=q3
      obtain ⟨m',hm,w3⟩:=hN σ3 H3 n3
      exact ⟨m',hm,σ3,H3,I3,w3⟩
    | brk=>exact q3
    | ret v=>exact q3
  | false =>
    rw [C7 Bz]
    exact wpAny_execs_nil ⟨σ1,H2,I2,q2⟩
end
structure It where
 go:Nat->Hp->Prop
 yld:Nat->Hp->V->Hp->Prop
 stop:Nat->Hp->Prop
def xU (X:Cx) (O9:Eh) (H:Hp) (b:Addr):Prop :=
 H b=none/\b≠X.env.locals/\b∉X.fs/\(b∈X.ex∨X.s₀.heap.objs.size<=b)/\(∀ x c,X.env.cells.lookup x=some c->c≠b)/\∀ p∈X.pn++O9,p.1≠b
theorem Inv.fpOk {H H':Hp} {s:Shared} {b:Addr} (I:Inv X O9 σ H s) (hb:s.heap.objs.size<=b) (hn:H' b=none):xU X O9 H' b:=by
 refine ⟨hn,C4 (Ay I.lt hb),I.nofs hb,.inr (Bj I.sz hb),fun x c e z=>?_,fun p U z=>?_⟩
 ·obtain ⟨v,q⟩:=I.cell x c e
  exact absurd (Ay q.lt (by rw [z];exact hb)) (Cv _)
 ·exact absurd (Ay (Ap (I.pin p U).1) (by rw [z];exact hb)) (Cv _)
structure kK (P:Program) (w:World) (K:Aa) (tg:Expr) (J:It) (fp:Eo) (it:Addr) (tn:Nat->Heap->Prop):Prop where
 mem:it∈fp
 obj:∀ i h,tn i h->∀ b∈fp,∃ o,h.get? b=some o/\∀ v,o.data≠.cell v
 keep:∀ i h h',tn i h->(∀ b∈fp,∀ o,h.get? b=some o->h'.get? b=some o)->tn i h'
 item:∀ (X:Cx),X.prog=P->X.w=w->X.K=K->X.calm=true->∀ (i:Nat) (O9:Eh) (s:Shared) (σ:St) (H:Hp) (E:Eg),Inv X O9 σ H s->(∀ b∈fp,xU X O9 H b)->tn i s.heap->J.go i H ->
  wpAny (model P w) X.A (pyNext (.ref it)) (fun r s1=>∃ u,r=some u /\
   wpAny (model P w) X.A (letOwnedTupleGo tg (.ref it) u) (fun _ s2=>∃ x H',Inv X O9 σ H' s2/\RelV x u/\J.yld i H x H'/\tn (i+1) s2.heap/\∀ b∈fp,H' b=none) E s1) E s
 done:∀ (X:Cx),X.prog=P->X.w=w->X.K=K->X.calm=true->∀ (i:Nat) (O9:Eh) (s:Shared) (σ:St) (H:Hp) (E:Eg),Inv X O9 σ H s->(∀ b∈fp,xU X O9 H b)->tn i s.heap->J.stop i H ->
  wpAny (model P w) X.A (pyNext (.ref it)) (fun r s1=>r=none/\Inv X O9 σ H s1) E s
 self:∀ (A:Around) (i:Nat) (s:Shared) (Q:Eg) (E:Eg),tn i s.heap->Q (.ref it) s->wpAny (model P w) A (pyIter (.ref it)) Q E s
abbrev TI:=St->Hp->(It->Hp->Prop)->Prop
def PIE (X:Cx) (O9:Eh) (σ:St) (tg:Expr) (R:It->Hp->Prop) (itv:Value) (s2:Shared):Prop :=
 ∃ (it:Addr) (fp:Eo) (tn:Nat->Heap->Prop) (J:It) (H':Hp),itv=.ref it/\Inv X O9 σ H' s2/\kK X.prog X.w X.K tg J fp it tn/\tn 0 s2.heap/\(∀ b∈fp,xU X O9 H' b)/\R J H'
def PI (X:Cx) (tg iter:Expr) (wi:TI):Prop :=
  ∀ (O9 : List (Addr × Obj)) (s : Shared) (σ : St) (H : Hp) (R : It -> Hp -> Prop), Inv X O9 σ H s -> wi σ H R ->
    wpAny (model X.prog X.w) X.A (eval iter X.env) (fun v s1=>wpAny (model X.prog X.w) X.A (pyIter v) (PIE X O9 σ tg R) X.xe s1) X.xe s
theorem Qbx {M:Model} {A:Around} {E:Eg} {s:Shared} {tg:Expr} {it:Addr} {u:Value} {o:Obj} {n:String} {vs:Array Value} {Q:Unit->Shared->Prop} (ho:s.heap.get? it=some o) (hc:o.cls=.type n) (hd:o.data=.fields vs)
    (hn:["enumerate", "zip", "dict_itemiterator", "dict_reverseitemiterator", "odict_iterator", "itertools.zip_longest", "itertools.pairwise"].contains n=false) (hQ:Q () s):wpAny M A (letOwnedTupleGo tg (.ref it) u) Q E s:=by
  unfold letOwnedTupleGo
  cases tg<;>first
    | exact C9 hQ
    | (cases u<;>first
        | exact C9 hQ
        | (refine C6 (wpAny_load ho ?_)
           rw [hc,hd]
           show wpAny M A (if (["enumerate", "zip", "dict_itemiterator", "dict_reverseitemiterator", "odict_iterator", "itertools.zip_longest", "itertools.pairwise"].contains n&&vs[0]?==some (rawInt _))=true then _ else _) Q E s
           rw [C7 (by intro h;rw [hn,Bool.false_and] at h;cases h)]
           exact C9 hQ))
def Itl (K:Aa) (a:Addr):It :=
 ⟨fun i H=>∃ xs x,SqL K H a xs/\xs[i]?=some x,fun i H x H'=>H'=H/\∀ xs,SqL K H a xs->xs[i]?=some x,fun i H=>∃ xs,SqL K H a xs/\xs.length<=i⟩
def Itt (K:Aa) (a:Addr):It :=
 ⟨fun i H=>∃ xs x,SqT K H a xs/\xs[i]?=some x,fun i H x H'=>H'=H/\∀ xs,SqT K H a xs->xs[i]?=some x,fun i H=>∃ xs,SqT K H a xs/\xs.length<=i⟩
def Itr (lo:Int) (n:Nat):It:=⟨fun i _=>i < n,fun i H x H'=>H'=H/\x=.int (lo+i),fun i _=>n<=i⟩
theorem QaQ {w:World} {K:Aa} (a it:Addr):kK P w K tg (Itl K a) [it] it (fun i h=>h.IsListIter it a i) where
 mem:=by simp
 obj:=fun i h st b hb=>by
  have e:b=it:=by simpa using hb
  subst e
  obtain ⟨o,e,c,d⟩:=st
  exact ⟨o,e,fun v z=>by rw [d] at z;cases z⟩
 keep:=fun i h h' st k=>st.at fun o e=>k it (by simp) o e
 item:=by
  intro X hP hw hK hc i O9 s σ H E I hf st hg
  subst hP hw hK
  obtain ⟨xs,x,hq,hx⟩:=hg
  obtain ⟨its,rv,p,hz⟩:=I.list hq
  obtain ⟨u,hu,ru⟩:=rv.get hx
  obtain ⟨f0,f1,f2,f3,f4,f5⟩:=hf it (by simp)
  refine wpAny_pyNext_list_item st p.isList (x:=u) (by simpa using hu) fun h' st' sb=>?_
  have I1:Inv X O9 σ H { s with heap:=h' }:=I.turned (t':=s.toks) (fun b o hb e=>(sb.2 b hb).trans e) f0 f1 f3 f4 f5
  obtain ⟨o,e,c,d⟩:=id st'
  exact ⟨u,rfl,Qbx (s:={ s with heap:=h' }) e c d (by decide) ⟨x,H,I1,ru,⟨rfl,fun ys hy=>by rw [I.list_inj hy hq];exact hx⟩,st',fun b hb=>(hf b hb).1⟩⟩
 done:=by
  intro X hP hw hK hc i O9 s σ H E I hf st hg
  subst hP hw hK
  obtain ⟨xs,hq,hx⟩:=hg
  obtain ⟨its,rv,p,hz⟩:=I.list hq
  obtain ⟨f0,f1,f2,f3,f4,f5⟩:=hf it (by simp)
  have hl:=rv.length
  exact wpAny_pyNext_list_end (I.ok.hd hc) st p.isList (by simp;lia) fun h' eb=>⟨rfl,I.turned (t':=s.toks) (fun b o hb e=>eb b o hb e) f0 f1 f3 f4 f5⟩
 self:=fun _ _ _ _ _ st h=>wpAny_pyIter_listiter st h
theorem uO {w:World} {K:Aa} (a it:Addr):kK P w K tg (Itt K a) [it] it (fun i h=>h.IsTupleIter it a i) where
 mem:=by simp
 obj:=fun i h st b hb=>by
  have e:b=it:=by simpa using hb
  subst e
  obtain ⟨o,e,c,d⟩:=st
  exact ⟨o,e,fun v z=>by rw [d] at z;cases z⟩
 keep:=fun i h h' st k=>st.at fun o e=>k it (by simp) o e
 item:=by
  intro X hP hw hK hc i O9 s σ H E I hf st hg
  subst hP hw hK
  obtain ⟨xs,x,hq,hx⟩:=hg
  obtain ⟨its,rv,p,hz⟩:=I.tuple hq
  obtain ⟨u,hu,ru⟩:=rv.get hx
  obtain ⟨f0,f1,f2,f3,f4,f5⟩:=hf it (by simp)
  refine wpAny_pyNext_tuple_item st (show s.heap.IsTuple a its.toArray from p) (x:=u) (by simpa using hu) fun h' st' sb=>?_
  have I1:Inv X O9 σ H { s with heap:=h' }:=I.turned (t':=s.toks) (fun b o hb e=>(sb.2 b hb).trans e) f0 f1 f3 f4 f5
  obtain ⟨o,e,c,d⟩:=id st'
  exact ⟨u,rfl,Qbx (s:={ s with heap:=h' }) e c d (by decide) ⟨x,H,I1,ru,⟨rfl,fun ys hy=>by rw [I.tuple_inj hy hq];exact hx⟩,st',fun b hb=>(hf b hb).1⟩⟩
 done:=by
  intro X hP hw hK hc i O9 s σ H E I hf st hg
  subst hP hw hK
  obtain ⟨xs,hq,hx⟩:=hg
  obtain ⟨its,rv,p,hz⟩:=I.tuple hq
  obtain ⟨f0,f1,f2,f3,f4,f5⟩:=hf it (by simp)
  have hl:=rv.length
  exact wpAny_pyNext_tuple_end (I.ok.hd hc) st (show s.heap.IsTuple a its.toArray from p) (by simp;lia) fun h' eb=>⟨rfl,I.turned (t':=s.toks) (fun b o hb e=>eb b o hb e) f0 f1 f3 f4 f5⟩
 self:=fun _ _ _ _ _ st h=>wpAny_pyIter_tupleiter st h
theorem uN {w:World} {K:Aa} (it:Addr) (lo:Int) (n:Nat):kK P w K tg (Itr lo n) [it] it (fun i h=>IsRangeIter h it (lo+(i:Nat) * 1) ((n:Int) - (i:Nat)) 1) where
 mem:=by simp
 obj:=fun i h st b hb=>by
  have e:b=it:=by simpa using hb
  subst e
  exact ⟨_,st,fun v z=>by
   have z':Data.fields _=Data.cell v:=z
   cases z'⟩
 keep:=fun i h h' st k=>k it (by simp) _ st
 item:=by
  intro X hP hw hK hc i O9 s σ H E I hf st hg
  subst hP hw hK
  obtain ⟨f0,f1,f2,f3,f4,f5⟩:=hf it (by simp)
  have W:=Walks.range (prog:=X.prog) (w:=X.w) (I.ok.hd hc) it lo 1 n
  refine W.item i s _ _ hg st fun v h' tk hv st' kk=>?_
  obtain ⟨t,rfl⟩:=hv
  have I1:Inv X O9 σ H { s with heap:=h',toks:=tk }:=I.turned (fun b o hb e=>kk b o (by simpa using hb) e) f0 f1 f3 f4 f5
  refine ⟨_,rfl,Qbx (s:={ s with heap:=h',toks:=tk }) (n := "range_iterator") st' rfl rfl (by decide) ⟨.int (lo+i),H,I1,⟨t,?_⟩,⟨rfl,rfl⟩,st',fun b hb=>(hf b hb).1⟩⟩
  rw [Int.mul_one]
 done:=by
  intro X hP hw hK hc i O9 s σ H E I hf st hg
  subst hP hw hK
  obtain ⟨f0,f1,f2,f3,f4,f5⟩:=hf it (by simp)
  exact wpAny_pyNext_range_end (I.ok.hd hc) st (by have:n<=i:=hg;lia) fun h' eb=>⟨rfl,I.turned (t':=s.toks) (fun b o hb e=>eb b o hb e) f0 f1 f3 f4 f5⟩
 self:=fun _ _ _ _ _ st h=>wpAny_pyIter_rangeiter st h
section
variable {X:Cx} {tg:Expr}
def QgI (K:Aa) (tl:TE):TI:=fun σ H R=>tl σ H fun x H1=>∃ a,x=.ref a/\(∃ xs,SqL K H1 a xs)/\R (Itl K a) H1
def QhC (K:Aa) (tl:TE):TI:=fun σ H R=>tl σ H fun x H1=>∃ a,x=.ref a/\(∃ xs,SqT K H1 a xs)/\R (Itt K a) H1
theorem QdN (hl:PE X l tl):PI X tg l (QgI X.K tl):=by
 intro O9 s σ H R I h
 refine thn (hl O9 s σ H _ I h) fun v s1 ⟨x,H1,I1,r1,q1⟩=>?_
 obtain ⟨a,e,⟨xs,hq⟩,q⟩:=q1
 subst e
 cases r1
 obtain ⟨its,rv,p,hz⟩:=I1.list hq
 refine wpAny_pyIter_list p.isList ?_
 refine ⟨s1.heap.objs.size,[s1.heap.objs.size],_,_,H1,rfl,I1.kept (t':=s1.toks) fun b o e=>Ad _ e,QaQ a _,⟨_,Av _ rfl,rfl,rfl⟩,fun b hb=>?_,q⟩
 have e:b=s1.heap.objs.size:=by simpa using hb
 subst e
 exact I1.fpOk (Ae _) (I1.hok.fresh (Ae _))
theorem QfQ (hl:PE X l tl):PI X tg l (QhC X.K tl):=by
 intro O9 s σ H R I h
 refine thn (hl O9 s σ H _ I h) fun v s1 ⟨x,H1,I1,r1,q1⟩=>?_
 obtain ⟨a,e,⟨xs,hq⟩,q⟩:=q1
 subst e
 cases r1
 obtain ⟨its,rv,p,hz⟩:=I1.tuple hq
 refine wpAny_pyIter_tuple (show s1.heap.IsTuple a its.toArray from p) ?_
 refine ⟨s1.heap.objs.size,[s1.heap.objs.size],_,_,H1,rfl,I1.kept (t':=s1.toks) fun b o e=>Ad _ e,uO a _,⟨_,Av _ rfl,rfl,rfl⟩,fun b hb=>?_,q⟩
 have e:b=s1.heap.objs.size:=by simpa using hb
 subst e
 exact I1.fpOk (Ae _) (I1.hok.fresh (Ae _))
theorem Qcg {R:It->Hp->Prop} {E:Eg} {lo hi:Int} {t u v:Tok} {tk:Nat} (I:Inv X O9 σ H s) (h1:-(2 ^ 62)<=lo) (h2:lo < 2 ^ 62) (h3:-(2 ^ 62)<=hi) (h4:hi < 2 ^ 62)
  (q:R (Itr lo (hi - lo).toNat) H):wpAny (model X.prog X.w) X.A (pyIter (.ref s.heap.objs.size)) (PIE X O9 σ tg R) E { s with heap:=s.heap.push { cls:=.type "range", data:=.fields #[.int lo t,.int hi u,.int 1 v] },toks:=tk }:=by
 refine wpAny_pyIter_range (IsRange.new ..) (small_one h1 h2 h3 h4) ?_
 have I1:Inv X O9 σ H { s with heap:=s.heap.push { cls:=.type "range", data:=.fields #[.int lo t,.int hi u,.int 1 v] },toks:=tk }:=I.kept fun b o e=>Ad _ e
 refine ⟨(s.heap.push { cls:=.type "range", data:=.fields #[.int lo t,.int hi u,.int 1 v] }).objs.size,[(s.heap.push { cls:=.type "range", data:=.fields #[.int lo t,.int hi u,.int 1 v] }).objs.size],_,_,H,rfl,
  I1.kept (t':=tk) fun b o e=>Ad _ e,uN _ lo (hi - lo).toNat,?_,fun b hb=>?_,q⟩
 ·have e1:lo+((0:Nat):Int) * 1=lo:=by simp
  have e2:(((hi - lo).toNat:Nat):Int) - ((0:Nat):Int)=Builtin.Range.rangeSize lo hi 1:=by rw [rangeSize_one];split<;>lia
  show IsRangeIter _ _ (lo+((0:Nat):Int) * 1) ((((hi - lo).toNat:Nat):Int) - ((0:Nat):Int)) 1
  rw [e1,e2]
  exact Av _ rfl
 ·have e:b=(s.heap.push { cls:=.type "range", data:=.fields #[.int lo t,.int hi u,.int 1 v] }).objs.size:=by simpa using hb
  subst e
  exact I1.fpOk (Ae _) (I1.hok.fresh (Ae _))
def QgJ (ta:TA):TI:=fun σ H R=>ta σ H fun vs H1=>∃ j:Int,vs=[.int j] /\ -(2 ^ 62)<=j/\j < 2 ^ 62/\R (Itr 0 j.toNat) H1
theorem Qay {p pos:Pos} (hg:Gl X "range") (hm:X.mg "range" = none) (ha:PA X [a] ta) (hs:starEach [a] X.env=[(false,eval a X.env)]:=by rfl):PI X tg (.Call (.Name "range" p) [a] [] pos) (QgJ ta):=by
  intro O9 s σ H R I h
  refine Call_ (qO I hg hm boot_range (PyProof.Rows.callWith_type1 (thn (ha pos O9 s σ H _ I h) fun us s1 ⟨vs,H1,I1,r1,q1⟩=>?_) hs rfl))
  obtain ⟨j,e,q1,q2,q⟩:=q1
  subst e
  cases r1 with
  | cons r rr =>
    cases rr
    obtain ⟨t,rfl⟩:=r
    exact call_range_1 (Qcg I1 (by lia) (by lia) q1 q2 (by simpa using q))
def QhR (wi:TI) (g:TG) (tb:TS):TS:=fun D σ H=>wi σ H fun J H1=>∃ W:Nat->Nat->St->Hp->Prop,(∃ m,W 0 m σ H1)/\∀ i m σ H,W i m σ H ->
 (J.stop i H/\D.nx σ H)∨(J.go i H/\∃ N:St->Hp->Prop,(∀ σ' H',N σ' H'->∃ m',m' < m/\W (i+1) m' σ' H')/\∀ x H',J.yld i H x H'->g x σ H' fun σ2 H2=>tb { D with nx:=N,ct:=N,bk:=D.nx } σ2 H2)
def Va (fp:Eo) (h:Heap):List (Addr×Obj):=fp.filterMap fun b=>(h.get? b).map fun o=>(b,o)
theorem qe {h:Heap} {b:Addr} (hb:b∈fp) (e:h.get? b=some o):(b,o)∈Va fp h:=List.mem_filterMap.mpr ⟨b,hb,by rw [e];rfl⟩
theorem Qas {fp:Eo} {h:Heap} {p:Addr×Obj} (U:p∈Va fp h):p.1∈fp/\h.get? p.1=some p.2:=by
  obtain ⟨b,hb,e⟩:=List.mem_filterMap.mp U
  cases q:h.get? b with
  | none=>rw [q] at e;cases e
  | some o =>
    rw [q] at e
    have e':(b,o)=p:=Ak e
    subst e'
    exact ⟨hb,q⟩
theorem Inv.pinned {O9:Eh} {s:Shared} (I:Inv X O9 σ H s) (hf:∀ b∈fp,xU X O9 H b) (ho:∀ b∈fp,∃ o,s.heap.get? b=some o/\∀ v,o.data≠.cell v):Inv X (O9++Va fp s.heap) σ H s :=
 I.pins_of fun p U=>(Ai.mp U).elim (fun z=>I.pin p (Aj _ z)) fun z=>by
  obtain ⟨hb,e⟩:=Qas z
  obtain ⟨f0,f1,f2,_⟩:=hf p.1 hb
  obtain ⟨o,e',d⟩:=ho p.1 hb
  rw [e] at e';cases e'
  exact ⟨e,f0,f1,f2,d⟩
def Inv.unpinned {O9 pl:Eh} (I:Inv X (O9++pl) σ H s):Inv X O9 σ H s:=I.pins_of fun p U=>I.pin p (Aj _ (A7 _ U))
theorem QfW {body:List Stmt} {pos:Pos} (U:PassesOwn (model X.prog X.w) X.A X.env X.xe) (hc:X.calm=true) (hi:PI X tg iter wi) (hg:PG X tg g) (hb:PSs X body tb)
  (hs:∀ x,foldedSetIterable iter X.env x=pure x:=by intro _;rfl):PS X (.For tg iter body [] pos) (QhR wi g tb):=by
 intro O9 s σ H D I h
 refine wpAny_For (thn (hi O9 s σ H _ I h) fun v s1 h1=>thn h1 fun itv s2 h2=>?_) hs
 obtain ⟨it,fp,tn,J,H2,e,I2,T,st2,f2,W,⟨m0,w0⟩,turn⟩:=h2
 subst e
 have stat:∀ {H':Hp},(∀ b∈fp,H' b=none)->∀ b∈fp,xU X O9 H' b:=fun hn b hb=>⟨hn b hb,(f2 b hb).2⟩
 refine codeAny_forLoop_any (fun n s'=>∃ i σ' H',Inv X O9 σ' H' s'/\tn i s'.heap/\(∀ b∈fp,H' b=none)/\W i n σ' H') ?_ m0 ⟨0,σ,H2,I2,st2,fun b hb=>(f2 b hb).1,w0⟩
 rintro n s3 ⟨i,σ3,H3,I3,st3,fr3,w3⟩
 rcases turn i n σ3 H3 w3 with ⟨stop,qn⟩ | ⟨go,N,hN,step⟩
 ·refine wpAny_passesOwn U (thn (T.done X rfl rfl rfl hc i O9 s3 σ3 H3 X.xe I3 (stat fr3) st3 stop) fun r s4 ⟨hr,I4⟩=>?_)
  subst hr
  exact wpAny_execs_nil ⟨σ3,H3,I4,qn⟩
 ·refine wpAny_passesOwn U (thn (T.item X rfl rfl rfl hc i O9 s3 σ3 H3 X.xe I3 (stat fr3) st3 go) fun r s4 ⟨u,hr,h4⟩=>?_)
  subst hr
  refine wpAny_passesOwn U (thn h4 fun _ s5 ⟨x,H5,I5,r5,y5,st5,fr5⟩=>?_)
  have I5':=I5.pinned (stat fr5) (T.obj _ _ st5)
  refine wpAny_passesOwn U (thn (hg _ s5 σ3 H5 x u _ I5' r5 (step x H5 y5)) fun _ s6 ⟨σ6,H6,I6,q6⟩=>?_)
  refine wpAny_passesOwn U (thn (hb _ s6 σ6 H6 _ I6 q6) fun f s7 q7=>?_)
  have again:∀ {σ7:St} {H7:Hp},Inv X (O9++Va fp s5.heap) σ7 H7 s7->N σ7 H7->∃ m,m < n/\∃ i σ' H',Inv X O9 σ' H' s7/\tn i s7.heap/\(∀ b∈fp,H' b=none)/\W i m σ' H':=fun {σ7 H7} I7 n7=>by
   obtain ⟨m',hm,w7⟩:=hN σ7 H7 n7
   refine ⟨m',hm,i+1,σ7,H7,I7.unpinned,T.keep _ _ _ st5 fun b hb o e=>(I7.pin (b,o) (Aj _ (Aj _ (qe hb e)))).1,fun b hb=>?_,w7⟩
   obtain ⟨o,e,d⟩:=T.obj _ _ st5 b hb
   exact (I7.pin (b,o) (Aj _ (Aj _ (qe hb e)))).2.1
  cases f with
  | next=>obtain ⟨σ7,H7,I7,n7⟩:=q7;exact again I7 n7
  | cont=>obtain ⟨σ7,H7,I7,n7⟩:=q7;exact again I7 n7
  | brk=>obtain ⟨σ7,H7,I7,q7⟩:=q7;exact ⟨σ7,H7,I7.unpinned,q7⟩
  | ret v=>obtain ⟨x7,σ7,H7,I7,r7,q7⟩:=q7;exact ⟨x7,σ7,H7,I7.unpinned,r7,q7⟩
end
abbrev R2:=V->V->Hp->VK->Prop
def OpR (X:Cx) (f:Value->Value->Sem Value) (r:R2):Prop :=
  ∀ (O9 : List (Addr × Obj)) (s : Shared) (σ : St) (H : Hp) (x y : V) (v u : Value) (Q : VK), Inv X O9 σ H s -> RelV x v -> RelV y u -> r x y H Q ->
    wpAny (model X.prog X.w) X.A (f v u) (EP X O9 σ Q) X.xe s
def CallR (X:Cx) (f:Value) (r:List V->Hp->VK->Prop):Prop :=
  ∀ (O9 : List (Addr × Obj)) (s : Shared) (σ : St) (H : Hp) (xs : List V) (us : List Value) (Q : VK), Inv X O9 σ H s -> Vals xs us -> r xs H Q ->
    wpAny (model X.prog X.w) X.A (call f us) (EP X O9 σ Q) X.xe s
def tOp (r:R2) (ta tb:TE):TE:=fun σ H Q=>ta σ H fun x H1=>tb σ H1 fun y H2=>r x y H2 Q
def rI (C:Int->Int->Prop) (g:Int->Int->V):R2:=fun x y H Q=>∃ i j,x=.int i/\y=.int j/\C i j/\Q (g i j) H
def rI0 (g:Int->Int->V):R2:=fun x y H Q=>∃ i j,x=.int i/\y=.int j/\Q (g i j) H
section
variable {X:Cx} {a b c:Expr} {ta tb tc:TE} {pos:Pos}
theorem QeT (ha:PE X a ta) (hb:PE X b tb) {R:V->V->Hp->Prop} (I:Inv X O9 σ H s)
  (h:ta σ H fun x H1=>tb σ H1 fun y H2=>R x y H2) {Q:Eg} {f:Value->Value->Sem Value}
  (hf:∀ v u s2 x y H2,Inv X O9 σ H2 s2->RelV x v->RelV y u->R x y H2->wpAny (model X.prog X.w) X.A (f v u) Q X.xe s2) :
  wpAny (model X.prog X.w) X.A (eval a X.env) (fun v s₁=>wpAny (model X.prog X.w) X.A (eval b X.env) (fun u s₂=>wpAny (model X.prog X.w) X.A (f v u) Q X.xe s₂) X.xe s₁) X.xe s:=by
 refine thn (ha O9 s σ H _ I h) fun v s1 ⟨x,H1,I1,r1,q1⟩=>?_
 refine thn (hb O9 s1 σ H1 _ I1 q1) fun u s2 ⟨y,H2,I2,r2,q2⟩=>?_
 exact hf v u s2 x y H2 I2 r1 r2 q2
theorem Qg7 {op:Operator} {r:R2} (ho:OpR X (binaryOp op) r) (ha:PE X a ta) (hb:PE X b tb):PE X (.BinOp a op b pos) (tOp r ta tb):=by
 intro O9 s σ H Q I h
 exact wpAny_BinOp (QeT ha hb I h fun v u s2 x y H2 I2 rx ry q=>ho O9 s2 σ H2 x y v u Q I2 rx ry q)
theorem opI {f:Value->Value->Sem Value} {C:Int->Int->Prop} {g:Int->Int->Int}
  (rule:∀ (i j:Int) (t u:Tok) (s:Shared) (Q:Eg) (E:Eg),C i j->Q (.int (g i j) s.toks) { s with toks:=s.toks+1 }->wpAny (model X.prog X.w) X.A (f (.int i t) (.int j u)) Q E s) :
  OpR X f (rI C fun i j=>.int (g i j)):=by
 intro O9 s σ H x y v u Q I rx ry h
 obtain ⟨i,j,rfl,rfl,hc,q⟩:=h
 obtain ⟨t,rfl⟩:=rx
 obtain ⟨t',rfl⟩:=ry
 exact rule i j t t' s _ _ hc ⟨.int (g i j),H,I.tok _,⟨_,rfl⟩,q⟩
theorem QgW {f:Value->Value->Sem Value} {g:Int->Int->Int}
  (rule:∀ (i j:Int) (t u:Tok) (s:Shared) (Q:Eg) (E:Eg),Q (.int (g i j) s.toks) { s with toks:=s.toks+1 }->wpAny (model X.prog X.w) X.A (f (.int i t) (.int j u)) Q E s) :
  OpR X f (rI0 fun i j=>.int (g i j)):=by
 intro O9 s σ H x y v u Q I rx ry h
 obtain ⟨i,j,rfl,rfl,q⟩:=h
 obtain ⟨t,rfl⟩:=rx
 obtain ⟨t',rfl⟩:=ry
 exact rule i j t t' s _ _ ⟨.int (g i j),H,I.tok _,⟨_,rfl⟩,q⟩
theorem Qdx {f:Value->Value->Sem Value} {g:Int->Int->Bool}
  (rule:∀ (i j:Int) (t u:Tok) (s:Shared) (Q:Eg) (E:Eg),Q (.bool (g i j)) s->wpAny (model X.prog X.w) X.A (f (.int i t) (.int j u)) Q E s) :
  OpR X f (rI0 fun i j=>.bl (g i j)):=by
 intro O9 s σ H x y v u Q I rx ry h
 obtain ⟨i,j,rfl,rfl,q⟩:=h
 obtain ⟨t,rfl⟩:=rx
 obtain ⟨t',rfl⟩:=ry
 exact rule i j t t' s _ _ ⟨.bl (g i j),H,I,rfl,q⟩
def Qht (i j:Int):Prop:=0 < j/\j < 1073741824
def Qhu (i j:Int):Prop:=0<=j/\j<=1000000/\i.natAbs < 2 ^ 64
def CMul (i j:Int):Prop:=(-(2 ^ 64) < i/\i < 2 ^ 64)∨(-(2 ^ 64) < j/\j < 2 ^ 64)
theorem CMul.ok {i j:Int} (h:CMul i j):IntMulOk i j:=by
 rcases h with ⟨h1,h2⟩ | ⟨h1,h2⟩
 ·exact .of_left (intBits_le_64 h1 h2)
 ·exact .of_right (intBits_le_64 h1 h2)
def Qfv:OpR X (binaryOp .Add) (rI0 fun i j=>.int (i+j)):=QgW fun _ _ _ _ _ _ _ q=>add_int q
def QfA:OpR X (binaryOp .Sub) (rI0 fun i j=>.int (i - j)):=QgW fun _ _ _ _ _ _ _ q=>sub_int q
def Qfy:OpR X (binaryOp .Mult) (rI CMul fun i j=>.int (i * j)):=opI fun _ _ _ _ _ _ _ hc q=>mul_int q hc.ok
theorem Qdz:OpR X (binaryOp .FloorDiv) (rI Qht fun i j=>.int (i / j)):=opI fun i j _ _ _ _ _ hc q=>by
 have h1:(0:Int) < j:=hc.1
 have h2:j < 1073741824:=hc.2
 exact floordiv_int (by lia) (by rw [Int.fdiv_eq_ediv_of_nonneg i (by lia)];exact q) (.inl (PyProof.noPylong_small (by lia)))
theorem Qfx:OpR X (binaryOp .Mod) (rI (fun _ j=>0 < j) fun i j=>.int (i % j)):=opI fun i j _ _ _ _ _ hc q=>by
 have h1:(0:Int) < j:=hc
 exact mod_int' (by lia) (by rw [Int.fmod_eq_emod_of_nonneg i (by lia)];exact q)
def Qfz:OpR X (binaryOp .Pow) (rI Qhu fun i j=>.int (i ^ j.toNat)):=opI fun _ _ _ _ _ _ _ hc q=>pow_int_small hc.1 hc.2.1 hc.2.2 q
end
section
variable {X:Cx} {a b c:Expr} {ta tb tc:TE} {pos:Pos}
theorem Qbs {Q:VK} {k k':Bool} (I:Inv X O9 σ H s) (q:Q (.bl k) H) (e:k=k'):EP X O9 σ Q (.bool k') s:=by
 subst e
 exact ⟨.bl k,H,I,rfl,q⟩
def Qg0:OpR X (compareOp .Lt) (rI0 fun i j=>.bl (decide (i < j))):=Qdx fun _ _ _ _ _ _ _ q=>lt_int q
def QgZ:OpR X (compareOp .LtE) (rI0 fun i j=>.bl (decide (i<=j))):=Qdx fun _ _ _ _ _ _ _ q=>le_int q
def QgY:OpR X (compareOp .Gt) (rI0 fun i j=>.bl (decide (j < i))):=Qdx fun _ _ _ _ _ _ _ q=>gt_int q
def QgX:OpR X (compareOp .GtE) (rI0 fun i j=>.bl (decide (j<=i))):=Qdx fun _ _ _ _ _ _ _ q=>ge_int q
theorem Qfw:OpR X (compareOp .Is) (fun x y H Q=>y=.non/\Q (.bl (decide (x=.non))) H):=by
 intro O9 s σ H x y v u Q I rx ry h
 obtain ⟨rfl,q⟩:=h
 cases ry
 refine is_none_gen (Qbs I q ?_)
 cases x<;>first
  | (cases rx;rfl)
  | (obtain ⟨t,rfl⟩:=rx;rfl)
theorem QdA:OpR X (compareOp .IsNot) (fun x y H Q=>y=.non/\Q (.bl (!decide (x=.non))) H):=by
 intro O9 s σ H x y v u Q I rx ry h
 obtain ⟨rfl,q⟩:=h
 cases ry
 refine isnot_none_gen (Qbs I q ?_)
 cases x<;>first
  | (cases rx;rfl)
  | (obtain ⟨t,rfl⟩:=rx;rfl)
theorem QV (b:Expr) {op:CmpOp} (h:op≠.In:=by decide) (h2:op≠.NotIn:=by decide):behindInMarks op b=false:=by
 have e1:(op==CmpOp.In)=false:=by cases op<;>first | rfl | exact absurd rfl h
 have e2:(op==CmpOp.NotIn)=false:=by cases op<;>first | rfl | exact absurd rfl h2
 cases b<;>simp [behindInMarks,e1,e2]
theorem QdG {op:CmpOp} {r:R2} (ho:OpR X (compareOp op) r) (ha:PE X a ta) (hb:PE X b tb) (hm:behindInMarks op b=false):PE X (.Compare a [op] [b] pos) (tOp r ta tb):=by
 intro O9 s σ H Q I h
 exact wpAny_Compare1 (QeT ha hb I h fun v u s2 x y H2 I2 rx ry q=>ho O9 s2 σ H2 x y v u Q I2 rx ry q) hm
def QeO (t:TE):TT:=fun σ H Q=>t σ H fun x H'=>∃ k,x=.bl k/\Q k H'
theorem QdW {op:CmpOp} {r:R2} (ho:OpR X (compareOp op) r) (ha:PE X a ta) (hb:PE X b tb) (hm:behindInMarks op b=false):PT X (.Compare a [op] [b] pos) (QeO (tOp r ta tb)):=by
 intro O9 s σ H Q I h
 refine wpAny_isTrue_Compare1 (thn (ha O9 s σ H _ I h) fun v s1 ⟨x,H1,I1,r1,q1⟩=>thn (hb O9 s1 σ H1 _ I1 q1) fun u s2 ⟨y,H2,I2,r2,q2⟩ =>
  thn (ho O9 s2 σ H2 x y v u _ I2 r1 r2 q2) fun c s3 ⟨z,H3,I3,r3,k,e,q3⟩=>?_) hm
 subst e
 cases r3
 exact wpAny_truthy_bool ⟨H3,I3,q3⟩
def QcG (r r':R2) (ta tb tc:TE):TE:=fun σ H Q=>ta σ H fun x H1=>tb σ H1 fun y H2=>r x y H2 fun z H3=>∃ k,z=.bl k /\
 (if k=true then tc σ H3 fun w' H4=>r' y w' H4 Q else Q (.bl false) H3)
theorem Qcc {op op':CmpOp} {r r':R2} (ho:OpR X (compareOp op) r) (ho':OpR X (compareOp op') r') (ha:PE X a ta) (hb:PE X b tb) (hc:PE X c tc)
    (hm:lastMarks [op,op'] [b,c]=false:=by with_unfolding_all rfl):PT X (.Compare a [op,op'] [b,c] pos) (QeO (QcG r r' ta tb tc)):=by
  intro O9 s σ H Q I h
  refine isTrue_chain (thn (ha O9 s σ H _ I h) fun v s1 ⟨x,H1,I1,r1,q1⟩=>test_link (thn (hb O9 s1 σ H1 _ I1 q1) fun u s2 ⟨y,H2,I2,r2,q2⟩ =>
    thn (ho O9 s2 σ H2 x y v u _ I2 r1 r2 q2) fun d s3 ⟨z,H3,I3,r3,k,e,q3⟩=>?_)) hm
  subst e
  cases r3
  refine wpAny_truthy_bool ?_
  cases k with
  | false =>
    obtain ⟨k',e',q'⟩:=q3
    cases e'
    exact ite_ff ⟨H3,I3,q'⟩
  | true =>
    refine ite_tt (test_last (thn (hc O9 s3 σ H3 _ I3 q3) fun w' s4 ⟨z',H4,I4,r4,q4⟩=>thn (ho' O9 s4 σ H4 y z' u w' _ I4 r2 r4 q4) fun d' s5 ⟨z2,H5,I5,r5,k2,e2,q5⟩=>?_))
    subst e2
    cases r5
    exact wpAny_truthy_bool ⟨H5,I5,q5⟩
theorem KC:(sizeLine:Nat) < 2 ^ 63:=by rw [sizeLine_eq];decide
theorem VF {us:List Value} (r:Vals [x] us):∃ u,us=[u]/\RelV x u:=by
 cases r with
 | cons r1 r2=>cases r2;exact ⟨_,rfl,r1⟩
theorem VG {us:List Value} (r:Vals [x,y] us):∃ u w',us=[u,w']/\RelV x u/\RelV y w':=by
  cases r with
  | cons r1 r2 =>
    cases r2 with
    | cons r3 r4=>cases r4;exact ⟨_,_,rfl,r1,r3⟩
theorem kS (hc:X.calm=true):CallR X (.builtin "min") (fun xs H Q=>∃ i j,xs=[.int i,.int j]/\Q (.int (if j < i then j else i)) H):=by
 intro O9 s σ H xs us Q I r h
 obtain ⟨i,j,rfl,q⟩:=h
 obtain ⟨u,w',rfl,⟨t,rfl⟩,⟨t',rfl⟩⟩:=VG r
 refine min_two_ints (I.ok.hd hc) fun h' tk k=>⟨_,H,I.kept k,?_,q⟩
 by_cases hj:j < i
 ·rw [C8 hj,C8 hj];exact ⟨_,rfl⟩
 ·rw [C7 hj,C7 hj];exact ⟨_,rfl⟩
end
structure ObjM (h:Heap) (x dx C:Addr) (mA:Ei):Prop where
 obj:h.get? x=some (PySem.W.instObj C dx)
 ns:h.Ns1 dx mA
 ne:dx≠x
theorem Qap {h:Heap} {dx:Addr} {mA:Ei} (n:h.Ns1 dx mA):∃ od,h.get? dx=some od/\∀ name,PySem.W.lookIn name od=some (mA name):=by
 obtain ⟨o,es,ep,ho,hd,hk,_,hm⟩:=n
 refine ⟨o,ho,fun name=>?_⟩
 have e:=hm name
 unfold nsFind findBy at e
 rw [<- Array.find?_toList] at e
 unfold PySem.W.lookIn
 rw [hd]
 dsimp only
 split
 ·rename_i y q
  rw [q] at e
  exact congrArg some e
 ·rename_i q
  rw [q] at e
  have a:es.toList.any (·.refKey)=false:=by
   rw [List.any_eq_false]
   intro y hy
   obtain ⟨z,t,hkey⟩:=hk y (Array.mem_toList_iff.mp hy)
   simp [DictEntry.refKey,hkey]
  have a':¬ es.toList.any (·.refKey)=true:=by rw [a];exact Bz
  rw [C7 a']
  exact congrArg some e
theorem ObjM.look {x dx C:Addr} {mA:Ei} (I:ObjM h x dx C mA):∃ od,PySem.W.InstAt h x (PySem.W.instObj C dx) C (some od)/\∀ name,PySem.W.lookIn name od=some (mA name) :=
 let ⟨od,ho,hl⟩:=Qap I.ns
 ⟨od,⟨I.obj,rfl,rfl,ho⟩,hl⟩
section
variable {prog:Program} {w:World} {A:Around} {E:Eg} {s:Shared} {K:Aa} {x dx C f:Addr} {mA:Ei} {name:Str} {v:Value}
theorem Qdg {expr:Bool} {Q:Eg} (X:K.In s.heap) (I:ObjM s.heap x dx C mA) (hg:PySem.W.plainGet K C name=true) (hh:PySem.W.hasDictIn K C=true)
  (ha:PySem.W.findIn K (.ref C) name=some none) (hv:mA name=some v) (hv':PySem.W.handedIn v=true) (h:Q v { s with toks:=s.toks+1 }) :
  wpAny (model prog w) A (getAttr (.ref x) name expr) Q E s:=by
 obtain ⟨od,J,hl⟩:=I.look
 exact PySem.W.get_value X J (PySem.W.plainGet_of hg).1 (PySem.W.findObj_own hh ha rfl (by rw [hl,hv])) hv' h
theorem Qbw {pl:Sem Bool} {Q:Value×List Value->Shared->Prop} (X:K.In s.heap) (I:ObjM s.heap x dx C mA) (hg:PySem.W.plainGet K C name=true)
  (hf:PySem.W.findIn K (.ref C) name=some (some (.ref f))) (ht:PySem.W.isFn K (.ref f)=true) (hv:mA name=none) (h:Q (.ref f,[.ref x]) s) :
  wpAny (model prog w) A (getMethod (.ref x) name pl) Q E s:=by
 obtain ⟨od,J,hl⟩:=I.look
 exact PySem.W.method_fn X J (PySem.W.plainGet_of hg).1 (PySem.W.plainGet_of hg).2 hf (beq_iff_eq.mp ht) (by show (PySem.W.lookIn name od).map (·.isSome)=some false;rw [hl,hv];rfl) h
theorem Qee {ns:List Str} {Q:Unit->Shared->Prop} (X:K.In s.heap) (I:ObjM s.heap x dx C mA)
  (hs:PySem.W.findIn K (.ref C) "__setattr__" = some (some (.builtin "object.__setattr__"))) (U:PySem.W.plainOver K C=true) (ht:PySem.W.takerIn K C name=some none) (hh:PySem.W.hasDictIn K C=true)
  (hw:PySem.Within mA ns) (hsz:ns.length<=sizeLine)
  (h:∀ h',ObjM h' x dx C (fun y=>if y=name then some v else mA y)->Heap.SameBut dx s.heap h'->Q () { s with heap:=h',toks:=s.toks+2 }) :
  wpAny (model prog w) A (setAttr (.ref x) name v) Q E s:=by
 obtain ⟨od,J,hl⟩:=I.look
 refine PySem.W.set_plain X J hs (PySem.W.osa_open (s:={ s with toks:=s.toks+1 }) (r:=none) X J U ht fun b=>?_)
 obtain ⟨cd,hc,hd'⟩:=PySem.W.any_some hh
 have hx:s.heap.get? x=some ⟨.ref C,some dx,.plain,#[]⟩:=I.obj
 refine C6 (C9 (C6 (C6 (wpAny_loadPart hx (C6 (PySem.W.Looks.here (s:={ s with toks:=s.toks+1 }) (PySem.W.looks_clsIn X hc) ?_))))))
 rw [hd']
 refine C9 (a:=some dx) (C6 (C9 (C6 ?_)))
 refine wpAny_nsSet1 (s:={ s with toks:=s.toks+1 }) I.ns fun h' hn2 hs2=>?_
 obtain ⟨oD,esD,epD,hoD,hdD,hcD⟩:=hn2.count (PySem.Within.cons name v hw)
 refine C6 (wpAny_lookBehind hoD (by rw [hdD];exact pastItsLine_dict (Bj hcD (by rw [Ba];lia))) ?_)
 exact C9 (h _ ⟨(hs2.2 _ (Ne.symm I.ne)).trans I.obj,hn2,I.ne⟩ hs2)
theorem QbP {R:Result->Shared->Prop} {vs:List Value} {kw:List (Str×Value)} (X:K.In s.heap) (hm:PySem.W.makesIn K C=true)
  (hi:PySem.W.findIn K (.ref C) "__init__" = some (some (.ref f))) (hf:PySem.W.typeIn K (.ref f)=some (.type "function"))
  (h:codeAny (model prog w) (A.under (.builtin "type.__call__" ⟨.ref C::vs,kw⟩)) (.call (.ref f) ⟨.ref (s.heap.objs.size+1)::vs,kw⟩) (PySem.W.InitBack (s.heap.objs.size+1) R)
   { s with heap:=(s.heap.push PySem.W.emptyDict).push (PySem.W.instObj C s.heap.objs.size) }) :
  codeAny (model prog w) A (.call (.ref C) ⟨vs,kw⟩) R s:=by
 obtain ⟨hh,g,d,t,os⟩:=s
 exact PySem.W.make_core (PySem.W.makes_of X hm) (PySem.W.looks_findIn X hi) (fun self=>PySem.W.bind_fn X self hf) (.inl rfl) h
end
def Yv (f:Str) (v:V):List (Str×V)->List (Str×V)
 | []=>[(f,v)]
 | (g,x)::r=>if g=f then (g,v)::r else (g,x)::Yv f v r
theorem xF (f g:Str) (v:V):∀ fs:List (Str×V),(Yv f v fs).lookup g=if g=f then some v else fs.lookup g
  | []=>by
    show List.lookup g [(f,v)]=_
    by_cases h:g=f
    . have hb:(g==f)=true:=beq_iff_eq.mpr h
      simp only [List.lookup,hb,C8 h]
    . have hb:(g==f)=false:=beq_eq_false_iff_ne.mpr h
      simp only [List.lookup,hb,C7 h]
  | (k,x)::r=>by
    have ih:=xF f g v r
    rw [show Yv f v ((k,x)::r)=(if k=f then (k,v)::r else (k,x)::Yv f v r) from rfl]
    by_cases hk:k=f
    . rw [C8 hk]
      by_cases h:g=k
      . have hb:(g==k)=true:=beq_iff_eq.mpr h
        simp only [List.lookup,hb,C8 (h.trans hk)]
      . have hb:(g==k)=false:=beq_eq_false_iff_ne.mpr h
        simp only [List.lookup,hb,C7 (fun e:g=f=>h (e.trans hk.symm))]
    . rw [C7 hk]
      by_cases h:g=k
      . have hb:(g==k)=true:=beq_iff_eq.mpr h
        simp only [List.lookup,hb,C7 (fun e:g=f=>hk (h.symm.trans e))]
      . have hb:(g==k)=false:=beq_eq_false_iff_ne.mpr h
        simp only [List.lookup,hb]
        exact ih
theorem xg (f:Str) (v:V):∀ fs:List (Str×V),f∈(Yv f v fs).map (·.1)/\∀ g,g∈fs.map (·.1)->g∈(Yv f v fs).map (·.1)
  | []=>⟨by simp [Yv],fun g h=>by simp at h⟩
  | (k,x)::r=>by
    obtain ⟨i1,i2⟩:=xg f v r
    rw [show Yv f v ((k,x)::r)=(if k=f then (k,v)::r else (k,x)::Yv f v r) from rfl]
    by_cases hk:k=f
    . rw [C8 hk]
      subst hk
      exact ⟨by simp,fun g h=>by simpa using h⟩
    . rw [C7 hk]
      refine ⟨?_,fun g h=>?_⟩
      . rw [Bb]
        exact Ax _ i1
      . rw [Bb] at h ⊢
        rcases Bk.mp h with e | e
        . exact Bk.mpr (.inl e)
        . exact Ax _ (i2 g e)
theorem xD (f:Str) (v:V):∀ fs:List (Str×V),(Yv f v fs).length<=fs.length+1
  | []=>by simp [Yv]
  | (k,x)::r=>by
    have ih:=xD f v r
    rw [show Yv f v ((k,x)::r)=(if k=f then (k,v)::r else (k,x)::Yv f v r) from rfl]
    by_cases hk:k=f
    . rw [C8 hk,Ba,Ba];lia
    . rw [C7 hk,Ba,Ba];lia
theorem RelO.some_of {o:Option Value} (r:RelO (some v) o):∃ u,o=some u/\RelV v u:=by
 cases o with
 | none=>exact (show False from r).elim
 | some u=>exact ⟨u,rfl,r⟩
theorem RelO.none_of {o:Option Value} (r:RelO none o):o=none:=by
 cases o with
 | none=>rfl
 | some u=>exact (show False from r).elim
theorem Qaf (r:RelV v u):PySem.W.handedIn u=true:=by
 cases v with
 | non=>cases (show u=Value.none from r);rfl
 | bl b=>cases (show u=Value.bool b from r);rfl
 | int i=>obtain ⟨t,e⟩:=(show ∃ t,u=Value.int i t from r);cases e;rfl
 | str x=>obtain ⟨t,e⟩:=(show ∃ t,u=Value.str x t from r);cases e;rfl
 | byt b=>obtain ⟨t,e⟩:=(show ∃ t,u=Value.bytes b t from r);cases e;rfl
 | flt b=>obtain ⟨t,e⟩:=(show ∃ t,u=Value.float b t from r);cases e;rfl
 | ref a=>cases (show u=Value.ref a from r);rfl
 | ty n=>cases (show u=Value.type n from r);rfl
section
variable {P:Program} {w:World} {H H':Hp} {h h':Heap} {a C dx:Addr} {fs fs':List (Str×V)}
theorem Ks (hok:HOk P w H h) (e:H a=some (.ins C dx fs)):∃ mA,ObjM h a dx C mA/\(∀ f,RelO (fs.lookup f) (mA f))/\PySem.Within mA (fs.map (·.1))/\fs.length<=1000/\H dx=some (.own a):=by
 obtain ⟨d,z,ne,ob,mA,n,r,q⟩:=(show ObjOk P w H h a (.ins C dx fs) from hok a _ e)
 exact ⟨mA,⟨ob,n,ne⟩,r,q,z,d⟩
end
structure Cls (K:Aa) (C:Addr):Prop where
 pg:PySem.W.plainGet K C Str.empty=true
 hd:PySem.W.hasDictIn K C=true
 po:PySem.W.plainOver K C=true
 sa:PySem.W.findIn K (.ref C) "__setattr__" = some (some (.builtin "object.__setattr__"))
def Cls.get {K:Aa} {C:Addr} (c:Cls K C) (f:Str):PySem.W.plainGet K C f=true:=c.pg
def NoAttr (K:Aa) (C:Addr) (f:Str):Prop:=PySem.W.findIn K (.ref C) f=some none
theorem NoAttr.taker {K:Aa} {C:Addr} {f:Str} (n:NoAttr K C f):PySem.W.takerIn K C f=some none:=by
 unfold PySem.W.takerIn
 rw [show PySem.W.findIn K (.ref C) f=some none from n]
 rfl
structure vD (K:Aa) (C:Addr) (m:Str) (f:Addr):Prop where
 at_:PySem.W.findIn K (.ref C) m=some (some (.ref f))
 fn:PySem.W.isFn K (.ref f)=true
 kp:PySem.W.keepIn K (.ref f)=true
section
variable {X:Cx} {O9:Eh} {σ:St} {H:Hp} {s:Shared} {a C dx:Addr} {fs:List (Str×V)} {f:Str} {v:V} {A:Around} {E:Eg}
theorem yG {b:Bool} {Q:Eg} (I:Inv X O9 σ H s) (e:H a=some (.ins C dx fs)) (c:Cls X.K C) (n:NoAttr X.K C f) (l:fs.lookup f=some v)
  (h:∀ u s',Inv X O9 σ H s'->RelV v u->Q u s'):wpAny (model X.prog X.w) A (getAttr (.ref a) f b) Q E s:=by
 obtain ⟨mA,O,r,_,_,_⟩:=Ks I.hok e
 obtain ⟨u,hu,ru⟩:=RelO.some_of (v:=v) (o:=mA f) (by rw [<- l];exact r f)
 exact Qdg I.kIn O (c.get f) c.hd n hu (Qaf ru) (h u _ (I.tok _) ru)
theorem zN {m:Str} {g:Addr} {pl:Sem Bool} {Q:Value×List Value->Shared->Prop} (I:Inv X O9 σ H s) (e:H a=some (.ins C dx fs)) (c:Cls X.K C) (k:vD X.K C m g) (l:fs.lookup m=none)
  (h:Q (.ref g,[.ref a]) s):wpAny (model X.prog X.w) A (getMethod (.ref a) m pl) Q E s:=by
 obtain ⟨mA,O,r,_,_,_⟩:=Ks I.hok e
 have hn:mA m=none:=RelO.none_of (by rw [<- l];exact r m)
 exact Qbw I.kIn O (c.get m) k.at_ k.fn hn h
theorem Vs {Q:Unit->Shared->Prop} (I:Inv X O9 σ H s) (e:H a=some (.ins C dx fs)) (c:Cls X.K C) (n:NoAttr X.K C f) (hl:fs.length < 1000) (ry:RelV y u)
  (h:∀ s',Inv X O9 σ (upd H a (.ins C dx (Yv f y fs))) s'->Q () s'):wpAny (model X.prog X.w) A (setAttr (.ref a) f u) Q E s:=by
 obtain ⟨mA,O,r,wi,_,ho⟩:=Ks I.hok e
 have hz:(fs.map (·.1)).length<=sizeLine:=by rw [Br,sizeLine_eq];lia
 refine Qee I.kIn O c.sa c.po n.taker c.hd wi hz fun h' O' sb=>h _ ?_
 have hd:∃ o,h'.get? dx=some o:=let ⟨o,_,_,e',_⟩:=O'.ns;⟨o,e'⟩
 refine I.write (x:=a) (e:=dx) (by rw [e];exact True.intro) (.inr ho) (fun b q hb z=>(sb.2 b hb).trans z) hd ?_
 refine ⟨by rw [QI O.ne];exact ho,?_,O.ne,O'.obj,_,O'.ns,fun g=>?_,fun g hg=>?_⟩
 ·have:=xD f y fs;lia
 ·show RelO ((Yv f y fs).lookup g) (if g=f then some u else mA g)
  rw [xF]
  by_cases q:g=f
  ·rw [C8 q,C8 q];exact ry
  ·rw [C7 q,C7 q];exact r g
 ·by_cases q:g=f
  ·rw [q];exact (xg f y fs).1
  ·refine (xg f y fs).2 g (wi g fun z=>hg ?_)
   show (if g=f then some u else mA g)=none
   rw [C7 q];exact z
theorem Inv.made (I:Inv X O9 σ H s):Inv X O9 σ (upd (upd H s.heap.objs.size (.own (s.heap.objs.size+1))) (s.heap.objs.size+1) (.ins C s.heap.objs.size []))
  { s with heap:=(s.heap.push PySem.W.emptyDict).push (PySem.W.instObj C s.heap.objs.size) }:=by
 have e1:(s.heap.push PySem.W.emptyDict).get? s.heap.objs.size=some PySem.W.emptyDict:=Av s.heap rfl
 have e2:((s.heap.push PySem.W.emptyDict).push (PySem.W.instObj C s.heap.objs.size)).get? (s.heap.objs.size+1)=some (PySem.W.instObj C s.heap.objs.size):=by
  have:=Av (s.heap.push PySem.W.emptyDict) (o:=PySem.W.instObj C s.heap.objs.size) rfl
  rwa [Co] at this
 have e3:(s.heap.push PySem.W.emptyDict).Ns s.heap.objs.size (fun _=>none):=⟨PySem.W.emptyDict,#[],_,e1,rfl,(fun e he=>absurd he (by simp)),fun _=>rfl⟩
 have I1:=I.laid (a:=s.heap.objs.size) (o:=.own (s.heap.objs.size+1)) (h':=s.heap.push PySem.W.emptyDict) (t':=s.toks) (fun b u q=>Ad _ q) (Ae _) ⟨_,e1⟩
 refine I1.laid (a:=s.heap.objs.size+1) (o:=.ins C s.heap.objs.size []) (t':=s.toks) (fun b u q=>Ad _ q) (Nat.le_of_eq (Co _ _)) ?_
 have ne:s.heap.objs.size≠s.heap.objs.size+1:=Bf (C0 _)
 refine ⟨by rw [QI ne,Q3],Be _,ne,e2,fun _=>none,(Heap.Ns1.of_empty e3).at fun o q=>Ad _ q,fun _=>True.intro,fun y hy=>absurd rfl hy⟩
theorem QcY {prog:Program} {w:World} {f:Str} {pos:Pos} {s:Shared} {Q:Eg} (hb:attributeBase e f env (eval e env)=eval e env)
  (h:wpAny (model prog w) A (eval e env) (fun o s₁=>wpAny (model prog w) A (getAttr o f true) Q E s₁) E s):wpAny (model prog w) A (eval (.Attribute e f pos) env) Q E s :=
 Attribute_any_ h (by rw [arm_eval_Attribute,hb])
end
def QhQ (K:Aa) (ta:TE) (f:Str):TE:=fun σ H Q=>ta σ H fun x H1=>∃ a C dx fs v,x=.ref a/\H1 a=some (.ins C dx fs)/\Cls K C/\NoAttr K C f/\fs.lookup f=some v/\Q v H1
def QhO (K:Aa) (ta tv:TE) (f:Str):TS:=fun D σ H=>tv σ H fun y H1=>ta σ H1 fun x H2=>∃ a C dx fs,x=.ref a/\H2 a=some (.ins C dx fs)/\Cls K C/\NoAttr K C f/\fs.length < 1000 /\
 D.nx σ (upd H2 a (.ins C dx (Yv f y fs)))
def Qgq (X:Cx) (op:Operator) (rd:V->V->Hp->VK->Prop):Prop :=
 ∀ (O9:Eh) (s:Shared) (σ:St) (H:Hp) (x y:V) (u v:Value) (Q:VK),Inv X O9 σ H s->RelV x u->RelV y v->rd x y H Q->wpAny (model X.prog X.w) X.A (inplaceOp op u v) (EP X O9 σ Q) X.xe s
def Qd8 (K:Aa) (ta tv:TE) (rd:V->V->Hp->VK->Prop) (f:Str):TS:=fun D σ H=>ta σ H fun x H1=>∃ a C dx fs v,x=.ref a/\H1 a=some (.ins C dx fs)/\Cls K C/\NoAttr K C f/\fs.lookup f=some v /\
 tv σ H1 fun y H2=>rd v y H2 fun z H3=>∃ dx' fs',H3 a=some (.ins C dx' fs')/\fs'.length < 1000/\D.nx σ (upd H3 a (.ins C dx' (Yv f z fs')))
section
variable {X:Cx} {o e value:Expr} {f:Str} {pos pos' tpos:Pos} {ta tv:TE}
theorem QfD (he:PE X e ta) (hb:attributeBase e f X.env (eval e X.env)=eval e X.env):PE X (.Attribute e f pos) (QhQ X.K ta f):=by
 intro O9 s σ H Q I h
 refine QcY hb (thn (he O9 s σ H _ I h) fun u s1 zz1=>?_)
 obtain ⟨x,H1,I1,rx,a,C,dx,fs,v,ex,ea,c,n,l,q⟩:=zz1
 subst ex
 obtain rfl:u=Value.ref a:=rx
 exact yG I1 ea c n l fun u' s2 I2 ru=>⟨v,H1,I2,ru,q⟩
theorem QfV (ha:PE X o ta) (hv:PE X value tv) (hs:swapsWith value (some (.Attribute o f pos')) pos.line X.env=pure false):PS X (.Assign [.Attribute o f pos'] value pos) (QhO X.K ta tv f):=by
 intro O9 s σ H D I h
 refine plainObj_wpAny_Assign_Attribute (thn (hv O9 s σ H _ I h) fun u s1 ⟨y,H1,I1,ry,q⟩=>thn (ha O9 s1 σ H1 _ I1 q) fun ov s2 zz1=>?_) hs
 obtain ⟨x,H2,I2,rx,a,C,dx,fs,ex,ea,c,n,l,q2⟩:=zz1
 subst ex
 obtain rfl:ov=Value.ref a:=rx
 exact Vs I2 ea c n l ry fun s3 I3=>⟨σ,_,I3,q2⟩
theorem QaA {op:Operator} {rd:V->V->Hp->VK->Prop} (ha:PE X o ta) (hv:PE X value tv) (hop:Qgq X op rd):PS X (.AugAssign (.Attribute o f tpos) op value pos) (Qd8 X.K ta tv rd f):=by
 intro O9 s σ H D I h
 refine wpAny_AugAssign_AttributeAny (thn (ha O9 s σ H _ I h) fun ov s1 zz1=>?_)
 obtain ⟨x,H1,I1,rx,a,C,dx,fs,v,ex,ea,c,n,l,q⟩:=zz1
 subst ex
 obtain rfl:ov=Value.ref a:=rx
 refine yG I1 ea c n l fun u s2 I2 ru=>thn (hv O9 s2 σ H1 _ I2 q) fun w3 s3 ⟨y,H2,I3,ry,q3⟩=>thn (hop O9 s3 σ H2 v y u w3 _ I3 ru ry q3) fun w4 s4 zz1=>?_
 obtain ⟨z,H3,I4,rz,dx',fs',ea',l',q4⟩:=zz1
 exact Vs I4 ea' c n l' rz fun s5 I5=>⟨σ,_,I5,q4⟩
def QhI:V->V->Hp->VK->Prop:=fun x y H Q=>∃ i j,x=.int i/\y=.int j/\Q (.int (i+j)) H
theorem Qe7:Qgq X .Add QhI:=by
 rintro O9 s σ H x y u v Q I rx ry ⟨i,j,rfl,rfl,q⟩
 obtain ⟨t,rfl⟩:=(show ∃ t,u=Value.int i t from rx)
 obtain ⟨t',rfl⟩:=(show ∃ t',v=Value.int j t' from ry)
 exact PyProof.Rows.iadd_int ⟨.int (i+j),H,I.tok _,⟨_,rfl⟩,q⟩
theorem QeF {pl:Sem Bool} {m:Str} {apos:Pos} {args:List Expr} {Q:Eg} (he:PE X e te) (I:Inv X O9 σ H s)
  (h:te σ H fun x H1=>∃ a C dx fs g,x=.ref a/\H1 a=some (.ins C dx fs)/\Cls X.K C/\vD X.K C m g/\fs.lookup m=none /\
   ∀ s1,Inv X O9 σ H1 s1->wpAny (model X.prog X.w) X.A (callWith pos (.ref g) [.ref a] (backTo pos (starEach args X.env)) (backToKw pos (keywordEach [] X.env))) Q X.xe s1)
  (ht:eval (.Call (.Attribute e m apos) args [] pos) X.env=(do
   let ov <- eval e X.env
   standAt apos.atName
   let (f,first) <- holding [ov] (getMethod ov m pl)
   callWith pos f first (backTo pos (starEach args X.env)) (backToKw pos (keywordEach [] X.env)))) :
  wpAny (model X.prog X.w) X.A (eval (.Call (.Attribute e m apos) args [] pos) X.env) Q X.xe s:=by
 refine PySem.W.methodCall_KW (pl:=pl) (thn (he O9 s σ H _ I h) fun u s1 zz1=>?_) ht
 obtain ⟨x,H1,I1,rx,a,C,dx,fs,g,ex,ea,c,k,l,q⟩:=zz1
 subst ex
 obtain rfl:u=Value.ref a:=rx
 exact zN I1 ea c k l (q s1 I1)
end
section
variable {X:Cx} {O9:Eh} {σ:St} {H:Hp} {s:Shared} {A:Around} {E:Eg} {Q:Eg} {c:Value} {b:Bool}
end
structure Room (k:Nat) (A:Around):Prop where
 hd:A.handled=none
 dp:A.depth+3 * k+5 < recursionLimit
 un:A.units+16 * k+200 < cLine
theorem Room.mono {j k:Nat} (r:Room k A) (h:j<=k):Room j A:=⟨r.hd,by have:=r.dp;lia,by have:=r.un;lia⟩
theorem Room.deeper {k:Nat} {A:Around} (r:Room (k+1) A) (env:Env):Room k (A.deeper env) :=
 ⟨r.hd,by have:=r.dp;show A.depth+1+3 * k+5 < _;lia,by have:=r.un;show A.units+3+16 * k+200 < _;lia⟩
theorem ud {A:Around} {C:Addr} {kw:List (Str×Value)}:(A.under (.builtin "type.__call__" ⟨.ref C::us,kw⟩)).depth=A.depth+1:=by
 first | rfl | simp [Around.under,Code.weight,Code.isCreation,Code.isGuard,Code.isCaller,Code.frames,Code.isFrame,guardIds]
theorem ue {A:Around} {C:Addr} {kw:List (Str×Value)}:(A.under (.builtin "type.__call__" ⟨.ref C::us,kw⟩)).units=A.units+1:=by
 first | rfl | simp [Around.under,Code.cUnits,Code.frames,Code.isFrame]
theorem Room.make {k:Nat} {A:Around} (r:Room (k+1) A) (C:Addr) (us:List Value) (kw:List (Str×Value)):Room k (A.under (.builtin "type.__call__" ⟨.ref C::us,kw⟩)) :=
 ⟨r.hd,by have:=r.dp;rw [ud];lia,by have:=r.un;rw [ue];lia⟩
theorem Room.depth {k:Nat} {A:Around} (r:Room k A):A.depth < recursionLimit:=by have:=r.dp;lia
theorem Room.units {k:Nat} {A:Around} (r:Room k A):A.units+64 < cLine:=by have:=r.un;lia
def Qhn:TA:=fun _ H Q=>Q [] H
def Qhk (ta:TE) (tr:TA):TA:=fun σ H Q=>ta σ H fun x H1=>tr σ H1 fun xs H2=>Q (x::xs) H2
section
variable {X:Cx} {e:Expr} {es:List Expr} {te:TE} {t:TA} {pos:Pos}
def pa_nil:PA X [] Qhn:=fun _ _ _ _ H Q I h=>Calls.spliced_nil ⟨[],H,I,.nil,h⟩
theorem JJ (ha:PE X e te) (hr:PA X es t) (hs:starEach (e::es) X.env=(false,eval e X.env)::starEach es X.env:=by rfl):PA X (e::es) (Qhk te t):=by
 intro pos O9 s σ H Q I h
 rw [hs]
 show wpAny _ _ (spliced ((false,eval e X.env)::backTo pos (starEach es X.env))) _ _ s
 refine Calls.spliced_cons (thn (ha O9 s σ H _ I h) fun u s1 ⟨x,H1,I1,r1,q1⟩=>?_)
 exact thn (hr pos O9 s1 σ H1 _ I1 q1) fun us s2 ⟨xs,H2,I2,r2,q2⟩=>⟨x::xs,H2,I2,.cons r1 r2,q2⟩
def QhW (t:TA):TE:=fun σ H Q=>t σ H fun xs H1=>xs.length<=sizeLine/\∀ p,H1 p=none->Q (.ref p) (upd H1 p (.tup xs))
def QhT (t:TA):TE:=fun σ H Q=>t σ H fun xs H1=>xs.length<=sizeLine/\∀ p,H1 p=none->Q (.ref p) (upd H1 p (.lst xs))
theorem Qb3 {x1} (h:PA X es t):PE X (.Tuple es x1 pos) (QhW t):=by
 intro O9 s σ H Q I hq
 refine wpAny_Tuple_spliced (thn (h pos O9 s σ H _ I hq) fun us s1 ⟨xs,H1,I1,r,z,q⟩=>⟨by rw [<- r.length];exact z,?_⟩)
 have hf:H1 s1.heap.objs.size=none:=I1.hok.fresh (Ae _)
 refine ⟨.ref s1.heap.objs.size,upd H1 s1.heap.objs.size (.tup xs),I1.laid (t':=s1.toks) (fun b u e=>Ad _ e) (Ae _) ?_,rfl,q _ hf⟩
 exact ⟨z,us,r,⟨_,Av _ rfl,rfl,_,rfl⟩⟩
theorem Qb0 (h:PA X es t):PE X (.List es pos) (QhT t):=by
 intro O9 s σ H Q I hq
 refine wpAny_List_spliced (thn (h pos O9 s σ H _ I hq) fun us s1 ⟨xs,H1,I1,r,z,q⟩=>⟨by rw [<- r.length];exact z,?_⟩)
 have hf:H1 s1.heap.objs.size=none:=I1.hok.fresh (Ae _)
 refine ⟨.ref s1.heap.objs.size,upd H1 s1.heap.objs.size (.lst xs),I1.laid (t':=s1.toks) (fun b u e=>Ad _ e) (Ae _) ?_,rfl,q _ hf⟩
 exact ⟨z,us,0,r,Av _ rfl⟩
end
abbrev Sp:=List V->Hp->VK->XK->Prop
abbrev CXT:=List Env->Hp->Shared->XK->Value->Shared->Prop
structure Env0 (P:Program) (w:World) (K:Aa) (mg:Ei) (O8:Heap) (A:Around) (outer:List Env) (s:Shared) (H:Hp):Prop where
 frames:A.frames=some outer
 mod:Mod K mg O8
 bs:∀ b o,O8.get? b=some o->s.heap.get? b=some o/\H b=none
 bsz:O8.objs.size<=s.heap.objs.size
 funs:s.heap.FunFrames O8 outer
 frf:∀ b∈frs outer,H b=none
 hok:HOk P w H s.heap
 bare:AllBare s.gens
def CE (outer:List Env) (P:Program) (w:World) (H:Hp) (s:Shared) (Q:VK) (u:Value) (s':Shared):Prop :=
 ∃ v H',s'.os=s.os/\AllBare s'.gens/\Un (frs outer) [] H H' s.heap s'.heap/\HOk P w H' s'.heap/\RelV v u/\Q v H'
def CR (CX:CXT) (outer:List Env) (P:Program) (w:World) (H:Hp) (s:Shared) (Q:VK) (E:XK) (r:Result) (s':Shared):Prop :=
 match r with
 | .ok (.ret u)=>CE outer P w H s Q u s'
 | .ok _=>False
 | .error e=>CX outer H s E e s'
structure qD (P:Program) (w:World) (K:Aa) (mg:Ei) (O8:Heap) (CX:CXT) (k:Nat) (f:Addr) (fd:FuncData) (ps:List Str) (sp:Sp):Prop where
 len:∀ vs H Q E,sp vs H Q E->vs.length=ps.length
 run:∀ (A:Around) (outer:List Env) (s:Shared) (H:Hp) (args:Args) (us:List Value) (vs:List V) (Q:VK) (E:XK),Room k A->Env0 P w K mg O8 A outer s H->BindsTo s fd args (ps.zip us)->Vals vs us->sp vs H Q E ->
  codeAny (model P w) A (.call (.ref f) args) (CR CX outer P w H s Q E) s
theorem Env0.make {w:World} {K:Aa} (e:Env0 P w K mg O8 A outer s H) (C:Addr) (us:List Value) (kw:List (Str×Value)):
  Env0 P w K mg O8 (A.under (.builtin "type.__call__" ⟨.ref C::us,kw⟩)) outer s H:=⟨by first | exact e.frames | (simpa [Around.under,Code.envs,Code.isFrame,pushEnvs] using e.frames),e.mod,e.bs,e.bsz,e.funs,e.frf,e.hok,e.bare⟩
section
variable {X:Cx} {O9:Eh} {σ:St} {H:Hp} {s s':Shared}
theorem Inv.env0 (I:Inv X O9 σ H s):Env0 X.prog X.w X.K X.mg X.O8 X.A X.stack s H :=
 ⟨I.ok.frames,I.ok.mod,I.bs,Bj I.ok.bsz I.sz,I.stack,I.stkFree,I.hok,I.bare⟩
theorem Inv.after (I:Inv X O9 σ H s) (h:CE X.stack X.prog X.w H s Q u s'):EP X O9 σ Q u s':=by
 obtain ⟨v,H',os,bare,un,hok,r,q⟩:=h
 obtain ⟨hh,g,d,t,os'⟩:=s'
 obtain rfl:os'=s.os:=os
 exact ⟨v,H',I.call (h':=hh) (g':=g) (d':=d) (t':=t) (ch:=[]) un hok bare (fun b z=>absurd z (by simp)),r,q⟩
end
def Qhj (sp:Sp) (dvs:List V) (E:XK) (t:TA):TE:=fun σ H Q=>t σ H fun vs H1=>sp (vs++dvs) H1 Q E
def QcH (C:Addr) (m:Str) (sp:Sp) (dvs:List V) (E:XK) (ta:TE) (t:TA):TE:=fun σ H Q=>ta σ H fun x H1=>∃ a dx fs,x=.ref a/\H1 a=some (.ins C dx fs)/\fs.lookup m=none /\
 t σ H1 fun vs H2=>sp (x::(vs++dvs)) H2 Q E
def Binds (K:Aa) (fd:FuncData) (ps:List Str) (ds:List Value):Prop :=
 ∀ (s:Shared) (us:List Value),K.In s.heap->(us++ds).length=ps.length->BindsTo s fd ⟨us,[]⟩ (ps.zip (us++ds))
theorem Binds.all {K:Aa} {ps:List Str} (h:∀ us:List Value,us.length=ps.length->bindArgs fd ⟨us,[]⟩=pure (ps.zip us)):Binds K fd ps []:=fun s us _ hl=>by
 rw [Bt] at hl ⊢
 exact .of_eq (h us hl)
def Yn (CX:CXT) (X:Cx) (E:XK):Prop:=∀ (O9:Eh) (σ:St) (H:Hp) (s:Shared) (e:Value) (s':Shared),Inv X O9 σ H s->CX X.stack H s E e s'->X.xe e s'
section
variable {X:Cx} {CX:CXT} {k:Nat} {f C:Addr} {fd:FuncData} {ps:List Str} {sp:Sp} {dvs:List V} {ds:List Value} {E:XK} {x m:Str} {p pos apos:Pos} {e o:Expr} {es:List Expr} {ta:TE} {t:TA}
theorem uB {O9:Eh} {σ:St} {H:Hp} {s:Shared} {Q:VK} {us:List Value} {vs:List V} (F:qD X.prog X.w X.K X.mg X.O8 CX k f fd ps sp) (hr:Room k X.A) (hb:Binds X.K fd ps ds) (hd:Vals dvs ds) (hx:Yn CX X E)
    (I:Inv X O9 σ H s) (r:Vals vs us) (h:sp (vs++dvs) H Q E):wpAny (model X.prog X.w) X.A (call (.ref f) us) (EP X O9 σ Q) X.xe s:=by
  have r2:Vals (vs++dvs) (us++ds):=r.append hd
  have hl:(us++ds).length=ps.length:=by rw [<- r2.length];exact F.len _ _ _ _ h
  refine wpAny_call (codeAny_mono (F.run X.A X.stack s H ⟨us,[]⟩ (us++ds) (vs++dvs) Q E hr I.env0 (hb s us I.kIn hl) r2 h) fun r s' hq=>?_)
  cases r with
  | error e=>exact hx O9 σ H s e s' I hq
  | ok fl =>
    cases fl with
    | ret u=>exact I.after hq
    | next=>exact False.elim hq
    | brk=>exact False.elim hq
    | cont=>exact False.elim hq
theorem QdF (F:qD X.prog X.w X.K X.mg X.O8 CX k f fd ps sp) (hr:Room k X.A) (hg:Gl X x) (hm:X.mg x=some (.ref f)) (hk:PySem.W.keepIn X.K (.ref f)=true) (hb:Binds X.K fd ps ds) (hd:Vals dvs ds) (hx:Yn CX X E)
  (ha:PA X (e::es) t) (hdb:(x==("__debug__" : Str))=false:=by decide) (he:starEach (e::es) X.env=(false,eval e X.env)::starEach es X.env:=by rfl) (hpl:(backTo pos (starEach es X.env)).any (·.1)=false:=by rfl) :
  PE X (.Call (.Name x p) (e::es) [] pos) (Qhj sp dvs E t):=by
 intro O9 s σ H Q I h
 refine wpAny_Call_Name_kw (KA I hg hm ?_ hdb)
 refine PySem.W.callWith_K (h₀:=X.O8) I.ok.mod.kin hk (thn (ha pos O9 s σ H _ I h) fun us s1 ⟨vs,H1,I1,r,q⟩=>⟨I1.kIn,?_⟩) he hpl
 exact uB F hr hb hd hx I1 r q
theorem QdJ {pl:Sem Bool} (he:PE X o ta) (c:Cls X.K C) (hm:vD X.K C m f) (F:qD X.prog X.w X.K X.mg X.O8 CX k f fd ps sp) (hr:Room k X.A) (hb:Binds X.K fd ps ds) (hd:Vals dvs ds) (hx:Yn CX X E) (ha:PA X (e::es) t)
  (hst:starEach (e::es) X.env=(false,eval e X.env)::starEach es X.env:=by rfl) (hpl:(backTo pos (starEach es X.env)).any (·.1)=false:=by rfl)
  (ht:eval (.Call (.Attribute o m apos) (e::es) [] pos) X.env=(do
   let ov <- eval o X.env
   standAt apos.atName
   let (f,first) <- holding [ov] (getMethod ov m pl)
   callWith pos f first (backTo pos (starEach (e::es) X.env)) (backToKw pos (keywordEach [] X.env))):=by rfl) :
  PE X (.Call (.Attribute o m apos) (e::es) [] pos) (QcH C m sp dvs E ta t):=by
 intro O9 s σ H Q I h
 refine PySem.W.methodCall_KW (pl:=pl) (thn (he O9 s σ H _ I h) fun u s1 zz1=>?_) ht
 obtain ⟨x,H1,I1,rx,a,dx,fs,ex,ea,l,q⟩:=zz1
 subst ex
 obtain rfl:u=Value.ref a:=rx
 refine zN I1 ea c hm l ?_
 refine PySem.W.callWith_K (first:=[.ref a]) (h₀:=X.O8) I.ok.mod.kin hm.kp (thn (ha pos O9 s1 σ H1 _ I1 q) fun us s2 ⟨vs,H2,I2,r,q2⟩=>⟨I2.kIn,?_⟩) hst hpl
 exact uB (us:=.ref a::us) (vs:=.ref a::vs) F hr hb hd hx I2 (.cons rfl r) q2
theorem Qb1 {pl:Sem Bool} (he:PE X o ta) (c:Cls X.K C) (hm:vD X.K C m f) (F:qD X.prog X.w X.K X.mg X.O8 CX k f fd ps sp) (hr:Room k X.A) (hb:Binds X.K fd ps ds) (hd:Vals dvs ds) (hx:Yn CX X E)
  (ht:eval (.Call (.Attribute o m apos) [] [] pos) X.env=(do
   let ov <- eval o X.env
   standAt apos.atName
   let (f,first) <- holding [ov] (getMethod ov m pl)
   callWith pos f first (backTo pos (starEach [] X.env)) (backToKw pos (keywordEach [] X.env))):=by rfl) :
  PE X (.Call (.Attribute o m apos) [] [] pos) (QcH C m sp dvs E ta Qhn):=by
 intro O9 s σ H Q I h
 refine PySem.W.methodCall_KW (pl:=pl) (thn (he O9 s σ H _ I h) fun u s1 zz1=>?_) ht
 obtain ⟨x,H1,I1,rx,a,dx,fs,ex,ea,l,q⟩:=zz1
 subst ex
 obtain rfl:u=Value.ref a:=rx
 refine zN I1 ea c hm l ?_
 exact PySem.W.callWith_K0 (first:=[.ref a]) I1.kIn hm.kp (uB (us:=[.ref a]) (vs:=[.ref a]) F hr hb hd hx I1 (.cons rfl .nil) q)
structure Mk (K:Aa) (C f:Addr):Prop where
 makes:PySem.W.makesIn K C=true
 init:PySem.W.findIn K (.ref C) "__init__" = some (some (.ref f))
 fn:PySem.W.isFn K (.ref f)=true
 kp:PySem.W.keepIn K (.ref C)=true
end
section
variable {X:Cx} {CX:CXT} {k:Nat} {f C:Addr} {fd:FuncData} {ps ks:List Str} {sp:Sp} {E:XK} {x m:Str} {p pos apos kpos:Pos} {e o:Expr} {es:List Expr} {kws:List Keyword} {te ta:TE} {t tk:TA} {nm:Option Str}
variable {g:List Value->List Value->List Value} {gV:List V->List V->List V}
end
structure Qt (N P:List Str) (sc:Scope):Prop where
 kind:sc.kind=.function
 co:sc.isCoroutine=false
 gen:sc.isGenerator=false
 nd:N.Nodup
 pre:N.take P.length=P
 par:∀ x∈P,sc.names.lookup x=some .local∨sc.names.lookup x=some .cell
 nofree:∀ y∈sc.names,y.2≠.free
theorem Ue {kindOf:Str->Option NameKind} {x:Str}:∀ {binds:List (Str×Value)} {m:Ei},(∀ v,(x,v)∉binds)->bindL kindOf binds m x=m x
  | [],_,_=>rfl
  | (n,v)::r,m,h=>by
    unfold bindL
    rw [Ue fun w hw=>h w (Ax _ hw)]
    split
    . have:x≠n:=by rintro rfl;exact h v List.mem_cons_self
      simp [this]
    . rfl
theorem Uc {kindOf:Str->Option NameKind} {x:Str}:∀ {binds:List (Str×Value)} {m:Ei},(∀ v,(x,v)∉binds)->bindC kindOf binds m x=m x
  | [],_,_=>rfl
  | (n,v)::r,m,h=>by
    unfold bindC
    rw [Uc fun w hw=>h w (Ax _ hw)]
    split
    . rfl
    . have:x≠n:=by rintro rfl;exact h v List.mem_cons_self
      simp [this]
theorem Ud {kindOf:Str->Option NameKind} {x:Str}:∀ {P:List Str} {vs:List Value} {i:Nat} {m:Ei},P.Nodup->P[i]?=some x->vs[i]?=some v->kindOf x=some .local ->
    bindL kindOf (P.zip vs) m x=some v
  | [],_,_,_,_,h,_,_=>by simp at h
  | _::_,[],_,_,_,_,h,_=>by simp at h
  | p::P,w::vs,0,m,nd,h1,h2,hk=>by
    simp at h1 h2;subst h1;subst h2
    show bindL kindOf ((p,w)::P.zip vs) m p=_
    unfold bindL
    rw [Ue fun v hv=>(Cu.mp nd).1 (List.of_mem_zip hv).1,C8 hk]
    simp
  | p::P,w::vs,i+1,m,nd,h1,h2,hk=>by
    show bindL kindOf ((p,w)::P.zip vs) m x=_
    unfold bindL
    exact Ud (i:=i) (Cu.mp nd).2 (by simpa using h1) (by simpa using h2) hk
theorem Ub {kindOf:Str->Option NameKind} {x:Str}:∀ {P:List Str} {vs:List Value} {i:Nat} {m:Ei},P.Nodup->P[i]?=some x->vs[i]?=some v->kindOf x≠some .local ->
    bindC kindOf (P.zip vs) m x=some v
  | [],_,_,_,_,h,_,_=>by simp at h
  | _::_,[],_,_,_,_,h,_=>by simp at h
  | p::P,w::vs,0,m,nd,h1,h2,hk=>by
    simp at h1 h2;subst h1;subst h2
    show bindC kindOf ((p,w)::P.zip vs) m p=_
    unfold bindC
    rw [Uc fun v hv=>(Cu.mp nd).1 (List.of_mem_zip hv).1,C7 hk]
    simp
  | p::P,w::vs,i+1,m,nd,h1,h2,hk=>by
    show bindC kindOf ((p,w)::P.zip vs) m x=_
    unfold bindC
    exact Ub (i:=i) (Cu.mp nd).2 (by simpa using h1) (by simpa using h2) hk
def start (N:List Str) (vs:List V):St:=vs.map some++List.replicate (N.length - vs.length) none
def xZ (CX:CXT) (P:Program) (w:World) (K:Aa) (mg:Ei) (O8:Heap) (N:List Str) (qual:Str) (scope:Scope) (f:Addr) (cd:Value) (A:Around) (outer:List Env) (s:Shared) (H:Hp) (E:XK):Cx where
 prog:=P
 w:=w
 K:=K
 mg:=mg
 O8:=O8
 A:=A.deeper (envOfC qual scope s.heap.objs.size f cd)
 N:=N
 s₀:=s
 H₀:=H
 env:=envOfC qual scope s.heap.objs.size f cd
 outer:=outer
 stack:=envOfC qual scope s.heap.objs.size f cd::outer
 ex:=[]
 calm:=true
 fn:=fun _=>true
 pn:=[]
 xe:=fun e s'=>wpAny (model P w) (A.deeper (envOfC qual scope s.heap.objs.size f cd)) (leaving (envOfC qual scope s.heap.objs.size f cd) e) (fun _ s''=>CX outer H s E e s'') (fun e' s''=>CX outer H s E e' s'') s'
theorem Gh {sc:Scope} {n:Nat} {x:Str} (h:sc.names.lookup x=some .cell):∃ c,(cellsFrom n sc.names []).lookup x=some c:=by
 have q:=PySem.W.cellsFrom_some sc.names n [] (.inl h)
 exact Option.isSome_iff_exists.mp q
theorem Qah {CX:CXT} {P:Program} {w:World} {K:Aa} {mg:Ei} {O8:Heap} {N ps:List Str} {qual:Str} {scope:Scope} {f:Addr} {cd:Value} {A:Around} {outer:List Env} {s s1:Shared} {H:Hp} {E:XK} {us:List Value} {vs:List V}
  (S:Qt N ps scope) (hd:A.handled=none) (e0:Env0 P w K mg O8 A outer s H) (hl:vs.length=ps.length) (r:Vals vs us)
  (x:InCallC s s.heap.objs.size (bindL (envOfC qual scope s.heap.objs.size f cd).kindOf (ps.zip us) fun _=>none) (cellsFrom (s.heap.objs.size+1) scope.names []) (bindC (envOfC qual scope s.heap.objs.size f cd).kindOf (ps.zip us) fun _=>none) s1) :
  Inv (xZ CX P w K mg O8 N qual scope f cd A outer s H E) [] (start N vs) H s1:=by
 have hpl:ps.length<=N.length:=by have:=congrArg List.length S.pre;rw [A9] at this;lia
 obtain ⟨h1,tk,rfl,hk⟩:=x.done
 have noA:∀ b:Addr,b∉(xZ CX P w K mg O8 N qual scope f cd A outer s H E).ex:=fun b z=>absurd (show b∈([]:Eo) from z) (by simp)
 refine ⟨⟨e0.mod,S.kind,rfl,rfl,Ae _,fun y z c h1 h2=>?_,fun y hy=>?_,fun y c _ h=>?_,fun _=>hd,Around.frames_deeper e0.frames,.inr ⟨rfl,rfl⟩,fun b z=>absurd z (noA b),e0.bs,e0.bsz,fun b _ _=>noA b,fun b z=>absurd z (noA b),e0.funs,e0.frf⟩,
  rfl,e0.bare,Un.kept hk,⟨_,x.toInCall.ns,fun i y v h1 h2 h3=>?_⟩,fun y c h=>⟨_,x.cell y c h⟩,e0.hok.fresh (Ae _),fun y c h=>?_,fun p U=>absurd (show p∈([]:Eh) from U) (by simp),e0.hok.kept hk,?_⟩
 ·exact name_of_addr x.apart (PySem.mem_of_lookup h1) (PySem.mem_of_lookup h2)
 ·have hy:scope.names.lookup y=some .cell∨scope.names.lookup y=some .free:=hy
  rcases hy with hy | hy
  ·exact Gh hy
  ·exact absurd rfl (S.nofree _ (PySem.mem_of_lookup hy))
 ·exact Nat.le_of_lt (x.above y c (PySem.mem_of_lookup h))
 ·have hi:i < vs.length:=by
   unfold start at h2
   by_cases hi:i < vs.length
   ·exact hi
   ·rw [Aq (by simpa using hi)] at h2
    rw [List.getElem?_replicate] at h2
    split at h2<;>cases h2
  have ha:vs[i]?=some v:=by
   unfold start at h2
   rw [Ah (by simpa using hi),Bu] at h2
   cases e:vs[i]? with
   | none=>rw [e] at h2;cases h2
   | some a=>rw [e] at h2;cases h2;rfl
  obtain ⟨u,hu,rv⟩:=r.get ha
  have U:ps[i]?=some y:=by
   rw [<- S.pre,Ca (by lia)];exact h1
  have ndP:ps.Nodup:=by rw [<- S.pre];exact S.nd.sublist (List.take_sublist _ _)
  refine ⟨u,rv,?_⟩
  rcases S.par y (Aw U) with k | k
  ·exact .inl ⟨k,Ud ndP U hu k⟩
  ·obtain ⟨c,e⟩:=Gh (n:=s.heap.objs.size+1) k
   refine .inr ⟨.inl k,c,e,?_⟩
   have q:=x.cell y c e
   rw [Ub ndP U hu (by show scope.names.lookup y≠_;rw [k];decide)] at q
   exact q
 ·exact e0.hok.fresh (Nat.le_of_lt (x.above y c (PySem.mem_of_lookup h)))
 ·unfold start
  show _=N.length
  rw [An,Br,List.length_replicate]
  lia
theorem QgD {CX:CXT} {P:Program} {w:World} {K:Aa} {mg:Ei} {O8:Heap} {k:Nat} {f:Addr} {name qual:Str} {params:Arguments} {body:List Stmt} {scope:Scope} {dV kV doc pm cdv ct oc:Value} {an od:Option Addr}
    {osl:Array (Option Value)} {N ps:List Str} {sp:Sp} (lk:K.lookup f=some ⟨oc,od,.func (PySem.W.fnOf name qual params body scope dV kV doc pm an cdv ct),osl⟩) (hcd:PySem.W.codeIn K cdv qual=true) (S:Qt N ps scope)
    (len:∀ vs H Q E,sp vs H Q E->vs.length=ps.length)
    (hbody:∀ (A:Around) (outer:List Env) (s:Shared) (H:Hp) (vs:List V) (Q:VK) (E:XK),Room k (A.deeper (envOfC qual scope s.heap.objs.size f cdv))->sp vs H Q E ->
      ∃ t,PSs (xZ CX P w K mg O8 N qual scope f cdv A outer s H E) body t/\t { nx:=fun _ H'=>Q .non H',rt:=Q } (start N vs) H) :
    qD P w K mg O8 CX (k+1) f (PySem.W.fnOf name qual params body scope dV kV doc pm an cdv ct) ps sp:=by
  refine ⟨len,fun A outer s H args us vs Q E hr e0 hb r hsp=>?_⟩
  have hl:=len _ _ _ _ hsp
  have KX:K.In s.heap:=e0.mod.kin.keeps fun b o e=>(e0.bs b o e).1
  have lim:s.heap.NoLimit:=e0.mod.nolimit.keeps fun b o e=>(e0.bs b o e).1
  have hkind:∀ y∈ps.zip us,scope.names.lookup y.1=some .local∨(scope.names.lookup y.1=some .cell/\((cellsFrom (s.heap.objs.size+1) scope.names []).lookup y.1).isSome=true):=fun ⟨n,v⟩ hy=>by
    rcases S.par n (List.of_mem_zip hy).1 with q | q
    . exact .inl q
    . exact .inr ⟨q,PySem.W.cellsFrom_some _ _ _ (.inl q)⟩
  refine codeAny_call_function hr.depth (KX _ _ lk) rfl S.co S.gen rfl (PySem.W.codeRec_of KX hcd) (hb _ _ _ _ ?_)
  refine wpAny_newFunctionEnv_cells S.kind hkind fun env he s1 x=>?_
  subst he
  refine ⟨lim.keeps x.toInCall.keep,codeAny_func ?_⟩
  obtain ⟨t,ht,hq⟩:=hbody A outer s H vs Q E (hr.deeper _) hsp
  have I:Inv (xZ CX P w K mg O8 N qual scope f cdv A outer s H E) [] (start N vs) H s1:=Qah S hr.hd e0 hl r x
  refine wpAny_mono (ht [] s1 (start N vs) H _ I hq) (fun fl s' hs=>?_) fun e s' hs=>hs
  have fin:∀ {σ':St} {H':Hp} {v:V} {u:Value},Inv (xZ CX P w K mg O8 N qual scope f cdv A outer s H E) [] σ' H' s'->RelV v u->Q v H'->CE outer P w H s Q u s' :=
    fun {σ' H' v u} J rv q=>⟨v,H',J.os,J.bare,J.O8,J.hok,rv,q⟩
  cases fl with
  | ret u =>
    obtain ⟨v,σ',H',J,rv,q⟩:=hs
    exact fin J rv q
  | next =>
    obtain ⟨σ',H',J,q⟩:=hs
    exact fin (v:=V.non) (u:=Value.none) J rfl q
  | brk =>
    obtain ⟨_,_,_,q⟩:=hs
    exact False.elim q
  | cont =>
    obtain ⟨_,_,_,q⟩:=hs
    exact False.elim q
section
variable {X:Cx} {x:Str} {p pos:Pos} {e:Expr} {es:List Expr} {t:TA} {id T:String} {r:List V->Hp->VK->Prop}
def tCB (r:List V->Hp->VK->Prop) (t:TA):TE:=fun σ H Q=>t σ H fun vs H1=>r vs H1 Q
theorem y9 (hc:CallR X (.builtin id) r) (hg:Gl X x) (hm:X.mg x=none) (hv:bootBuiltins x=some (.builtin id)) (ha:PA X (e::es) t) (hn:x ≠ "__name__" := by decide) (hdb:(x==("__debug__" : Str))=false:=by decide)
  (he:starEach (e::es) X.env=(false,eval e X.env)::starEach es X.env:=by rfl) (hpl:(backTo pos (starEach es X.env)).any (·.1)=false:=by rfl):PE X (.Call (.Name x p) (e::es) [] pos) (tCB r t):=by
 intro O9 s σ H Q I h
 refine wpAny_Call_Name_kw (qO I hg hm hv ?_ hn hdb)
 exact PyProof.Rows.callWith_builtin1 (thn (ha pos O9 s σ H _ I h) fun us s1 ⟨vs,H1,I1,r1,q1⟩=>hc O9 s1 σ H1 vs us Q I1 r1 q1) he hpl
theorem Qau (hc:CallR X (.type T) r) (hg:Gl X x) (hm:X.mg x=none) (hv:bootBuiltins x=some (.type T)) (ha:PA X (e::es) t) (hn:x ≠ "__name__" := by decide) (hdb:(x==("__debug__" : Str))=false:=by decide)
  (he:starEach (e::es) X.env=(false,eval e X.env)::starEach es X.env:=by rfl) (hpl:(backTo pos (starEach es X.env)).any (·.1)=false:=by rfl):PE X (.Call (.Name x p) (e::es) [] pos) (tCB r t):=by
 intro O9 s σ H Q I h
 refine wpAny_Call_Name_kw (qO I hg hm hv ?_ hn hdb)
 exact PyProof.Rows.callWith_type1 (thn (ha pos O9 s σ H _ I h) fun us s1 ⟨vs,H1,I1,r1,q1⟩=>hc O9 s1 σ H1 vs us Q I1 r1 q1) he hpl
end
end L2
namespace HT
open PySem PyProof.Rows
section
open PySem.SeqAt
open PySem.AutoSeq1 (wpAny_loadPart')
open PySem.MeetsSeq PySem.MeetsSeq2 PySem.MeetsSeq3
end
section
variable {prog:Program} {w:World} {A:Around} {E:Eg} {s:Shared}
theorem cat_tup {t b:Addr} {vs ws:List Value} {Q:Eg} (ht:IsTup s.heap t vs.toArray) (hb:IsTup s.heap b ws.toArray) (hv:vs≠[])
  (h1:ws=[]->Q (.ref t) s) (h2:ws≠[]->Q (.ref s.heap.objs.size) { s with heap:=s.heap.push { cls:=.type "tuple", data:=.seq (vs++ws).toArray } })
  (hsz:vs.length+ws.length<=sizeLine):wpAny (model prog w) A (binaryOp .Add (.ref t) (.ref b)) Q E s:=by
 obtain ⟨⟨cls,dd,data,sl⟩,ho,hc,n,hd⟩:=id ht
 obtain ⟨⟨cls2,dd2,data2,sl2⟩,ho2,hc2,n2,hd2⟩:=id hb
 simp only at hc hd hc2 hd2
 subst hc hd hc2 hd2
 have e:vs.toArray++ws.toArray=(vs++ws).toArray:=by simp
 by_cases hw:ws=[]
 ·exact concat_meets ⟨_,ho,rfl⟩ ⟨_,ho2,rfl⟩ noFill_tuple_add seq_tuple_add PySem.F.slot_tuple_add PySem.F.entry_tuple_add (PySem.F.args_tuple_add_2 _ _)
   (tuple_addW1 t b vs.toArray ws.toArray n n2 dd dd2 sl sl2 (by simpa using hv) (by simp [hw])) ⟨ho,ho2,h1 hw⟩
 ·refine concat_meets ⟨_,ho,rfl⟩ ⟨_,ho2,rfl⟩ noFill_tuple_add seq_tuple_add PySem.F.slot_tuple_add PySem.F.entry_tuple_add (PySem.F.args_tuple_add_2 _ _)
   (tuple_addW2 t b vs.toArray ws.toArray n n2 dd dd2 sl sl2 (by simpa using hv) (by simpa using hw) (by rw [Ao,Ao];exact hsz)) ⟨ho,ho2,?_⟩
  rw [e]
  exact h2 hw
def sIx (n d:Nat):Option Int->Nat
 | none=>d
 | some v=>if v < 0 then (v+(n:Int)).toNat else min v.toNat n
theorem sIx_nat (n d k:Nat):sIx n d (some (k:Int))=min k n:=by
 show (if (k:Int) < 0 then ((k:Int)+(n:Int)).toNat else min (k:Int).toNat n)=min k n
 rw [C7 (by lia),B7]
theorem Qf6 (n d:Nat) (hd:d<=n) (o:Option Int):sIx n d o<=n:=by
  cases o with
  | none=>exact hd
  | some v =>
    show (if v < 0 then (v+(n:Int)).toNat else min v.toNat n)<=n
    by_cases hv:v < 0
    . rw [C8 hv];lia
    . rw [C7 hv];exact Nat.min_le_right _ _
theorem gf (v:Int) (n d:Nat):(if v < 0 then max (v+(n:Int)) 0 else min v (n:Int))=((sIx n d (some v):Nat):Int):=by
 show (if v < 0 then max (v+(n:Int)) 0 else min v (n:Int))=(((if v < 0 then (v+(n:Int)).toNat else min v.toNat n):Nat):Int)
 by_cases hv:v < 0
 ·simp only [C8 hv];lia
 ·simp only [C7 hv];lia
theorem vE (lo hi:Option Int) (n:Nat):Builtin.Slice.sliceAdjust lo hi 1 (n:Int)=(((sIx n 0 lo:Nat):Int),((sIx n n hi:Nat):Int)):=by
 have h1:¬ ((1:Int) < 0):=by lia
 unfold Builtin.Slice.sliceAdjust
 simp only [h1,if_false]
 refine Prod.ext ?_ ?_
 ·cases lo with
  | none=>rfl
  | some v=>exact gf v n 0
 ·cases hi with
  | none=>rfl
  | some v=>exact gf v n n
theorem uy (i j:Nat):Builtin.Slice.slicePlaces (i:Int) (j:Int) 1=j - i:=by
 unfold Builtin.Slice.slicePlaces
 have h1:(1:Int) > 0:=by lia
 simp only [h1,if_true,Int.ediv_one]
 split<;>lia
theorem Vw {o:Option Int} {Q:Option Int->Shared->Prop} (p:IsPart v o) (h:Q o s):wpAny (model prog w) A (Builtin.Slice.slicePartIndex v) Q E s:=by
 cases p with
 | none=>exact slicePart_none h
 | int i t=>exact slicePart_int h
theorem sliceApplied_gen {sl:Addr} {lo hi:Option Int} {n:Nat} {Q:Int×Int×Nat->Shared->Prop} (hs:s.heap.IsSliceOf sl vl vu .none) (pl:IsPart vl lo) (pu:IsPart vu hi)
  (h:Q (((sIx n 0 lo:Nat):Int),1,sIx n n hi - sIx n 0 lo) s):wpAny (model prog w) A (Builtin.Slice.sliceApplied (.ref sl) (pure (n:Int))) Q E s:=by
 obtain ⟨os,hos,hcs,hds⟩:=id hs
 unfold Builtin.Slice.sliceApplied Builtin.Slice.sliceFields
 refine C6 (C6 (wpAny_field hos hds (x:=vl) rfl (C6 (wpAny_field hos hds (x:=vu) rfl (C6 (wpAny_field hos hds (x:=.none) rfl (C9 ?_)))))))
 refine C6 (slicePart_none ?_)
 show wpAny _ _ (if ((1:Int)==0)=true then _ else _) _ _ s
 rw [C7 (by decide)]
 refine C6 (Vw pl (C6 (Vw pu (C6 (C9 ?_)))))
 show wpAny _ _ (match Builtin.Slice.sliceAdjust lo hi 1 (n:Int) with | (lo,hi)=>pure (lo,(1:Int),Builtin.Slice.slicePlaces lo hi 1)) _ _ s
 rw [vE lo hi n]
 show wpAny _ _ (pure (((sIx n 0 lo:Nat):Int),(1:Int),Builtin.Slice.slicePlaces ((sIx n 0 lo:Nat):Int) ((sIx n n hi:Nat):Int) 1)) _ _ s
 rw [uy]
 exact C9 h
theorem Qb8 (xs:Array Value) (i k:Nat):((List.range k).filterMap fun (m:Nat)=>xs[((i:Int)+(m:Int) * 1).toNat]?).toArray=((xs.toList.drop i).take k).toArray:=by
 have e:(fun (m:Nat)=>xs[((i:Int)+(m:Int) * 1).toNat]?)=fun m=>xs[i+m]?:=by
  funext m
  have:((i:Int)+(m:Int) * 1).toNat=i+m:=by lia
  rw [this]
 rw [e]
 have:=pick_run xs i k
 rw [List.filterMap_map] at this
 have e2:((fun x=>xs[x]?)∘fun x=>i+x)=fun m=>xs[i+m]?:=rfl
 rw [e2] at this
 rw [this]
theorem getItem_tuple_cut {t sl:Addr} {items:Array Value} {lo hi:Option Int} {Q:Eg} (ht:IsTup s.heap t items) (hs:s.heap.IsSliceOf sl vl vu .none) (pl:IsPart vl lo) (pu:IsPart vu hi)
  (hw:¬ (sIx items.size 0 lo=0/\sIx items.size items.size hi=items.size))
  (h:Q (.ref s.heap.objs.size) { s with heap:=s.heap.push { cls:=.type "tuple", data:=.seq ((items.toList.drop (sIx items.size 0 lo)).take (sIx items.size items.size hi - sIx items.size 0 lo)).toArray } })
  (hsz:items.size<=sizeLine):wpAny (model prog w) A (getItem (.ref t) (.ref sl)) Q E s:=by
 have htake:sizeOk (.seq ((items.toList.drop (sIx items.size 0 lo)).take (sIx items.size items.size hi - sIx items.size 0 lo)).toArray):=by
  show ((items.toList.drop (sIx items.size 0 lo)).take (sIx items.size items.size hi - sIx items.size 0 lo)).toArray.size<=sizeLine
  rw [Ao,A9,Bq,Cj]
  lia
 have hj:sIx items.size items.size hi<=items.size:=Qf6 _ _ (Ae _) hi
 obtain ⟨os,hos,hcs,hds⟩:=id hs
 have hTs:s.TypeIs (.ref sl) "slice" := ⟨os,hos,hcs⟩
 unfold getItem
 try with_reducible refine wpAny_holding ?_
 first | refine C6 (C9 ?_) | skip
 refine C6 (wpAny_sequenceKey ht.typeIs (by decide) ?_)
 refine C6 (wpAny_callSpecial?_slot (name:=Str.ofString "__getitem__") ht.typeIs PyProof.Rows.slot_tuple_getitem
  (wpAny_call_entry PyProof.Rows.slot_tuple_getitem ht.typeIs entry_tuple_getitem ?_ (args_tuple_getitem _ _)))
 show wpAny _ _ (Builtin.Tuple.tupleItemsOf (.ref t) >>= _) _ _ s
 refine C6 (tupleItemsOf_ ht ?_)
 refine C6 (wpAny_typeOf hTs ?_)
 rw [C8 (by decide)]
 refine C6 (sliceApplied_gen hs pl pu ?_)
 have hno:¬ ((((sIx items.size 0 lo:Nat):Int)==0&&(1:Int)==1&&(sIx items.size items.size hi - sIx items.size 0 lo)==items.size)=true):=by
  intro q
  rw [Bc,Bc] at q
  have q1:((sIx items.size 0 lo:Nat):Int)=0:=eq_of_beq q.1.1
  have q2:sIx items.size items.size hi - sIx items.size 0 lo=items.size:=eq_of_beq q.2
  exact hw ⟨by lia,by lia⟩
 show wpAny _ _ (if (((sIx items.size 0 lo:Nat):Int)==0&&(1:Int)==1&&(sIx items.size items.size hi - sIx items.size 0 lo)==items.size)=true then _ else _) _ _ s
 rw [C7 hno,Qb8]
 first
  | exact C6 (m:=Builtin.Tuple.tupleExact _) (wpAny_newObj_type (C9 ⟨_,rfl,C9 h⟩) htake)
  | exact C6 (m:=Builtin.Tuple.tupleExact _) (wpAny_newObj_type (C6 (C9 (C9 ⟨_,rfl,C9 h⟩))) htake)
  | exact C6 (C6 (m:=Builtin.Tuple.tupleExact _) (wpAny_newObj_type (C9 (C9 ⟨_,rfl,C9 h⟩)) htake))
  | exact C6 (C6 (m:=Builtin.Tuple.tupleExact _) (wpAny_newObj_type (C9 ⟨_,rfl,C9 h⟩) htake))
end
end HT
namespace L2
open PySem PySem.Spec PyProof.Rows
abbrev TO:=St->Hp->(Option Int->Hp->Prop)->Prop
def PO (X:Cx) (e:Option Expr) (t:TO):Prop :=
  ∀ (O9 : List (Addr × Obj)) (s : Shared) (σ : St) (H : Hp) (Q : Option Int -> Hp -> Prop), Inv X O9 σ H s -> t σ H Q ->
    wpAny (model X.prog X.w) X.A (evalPart e X.env) (fun u s'=>∃ o H',Inv X O9 σ H' s'/\IsPart u o/\Q o H') X.xe s
def Qek:TO:=fun _ H Q=>Q none H
def Qhp (t:TE):TO:=fun σ H Q=>t σ H fun x H1=>∃ i,x=.int i/\Q (some i) H1
section
variable {X:Cx} {e:Expr} {te:TE} {lo hi:Option Expr} {tl th:TO} {pos p2:Pos}
theorem QdQ:PO X none Qek:=by
 intro O9 s σ H Q I h
 rw [evalPart_none]
 exact C9 ⟨none,H,I,.none,h⟩
theorem QdR (h:PE X e te):PO X (some e) (Qhp te):=by
 intro O9 s σ H Q I hw
 rw [evalPart_some]
 refine thn (h O9 s σ H _ I hw) fun u s1 ⟨x,H1,I1,r1,q1⟩=>?_
 obtain ⟨i,rfl,q⟩:=q1
 obtain ⟨t,rfl⟩:=r1
 exact ⟨some i,H1,I1,.int i t,q⟩
def SlR (X:Cx) (r:V->Option Int->Option Int->Hp->VK->Prop):Prop :=
  ∀ (O9 : List (Addr × Obj)) (s : Shared) (σ : St) (H : Hp) (x : V) (v vl vu : Value) (lo hi : Option Int) (sl : Addr) (Q : VK), Inv X O9 σ H s -> RelV x v -> s.heap.IsSliceOf sl vl vu .none -> IsPart vl lo -> IsPart vu hi -> r x lo hi H Q ->
    ∃ T id,typeLookup (.type T) "__getitem__" = pure (some (.builtin id))/\s.TypeIs v T/\wpAny (model X.prog X.w) X.A (getItem v (.ref sl)) (EP X O9 σ Q) X.xe s
def tSl (r:V->Option Int->Option Int->Hp->VK->Prop) (te:TE) (tl th:TO):TE:=fun σ H Q=>te σ H fun x H1=>tl σ H1 fun l H2=>th σ H2 fun u H3=>r x l u H3 Q
theorem Qb2 {r:V->Option Int->Option Int->Hp->VK->Prop} (hr:SlR X r) (he:PE X e te) (hl:PO X lo tl) (hu:PO X hi th):PE X (.Subscript e (.Slice lo hi none p2) pos) (tSl r te tl th):=by
 intro O9 s σ H Q I h
 refine Subscript_ (thn (he O9 s σ H _ I h) fun v s1 ⟨x,H1,I1,r1,q1⟩=>?_)
 refine wpAny_Slice (thn (hl O9 s1 σ H1 _ I1 q1) fun vl s2 ⟨l,H2,I2,pl,q2⟩=>thn (hu O9 s2 σ H2 _ I2 q2) fun vu s3 ⟨u,H3,I3,pu,q3⟩=>?_)
 rw [evalPart_none]
 refine C9 ?_
 have I4:Inv X O9 σ H3 { s3 with heap:=s3.heap.push { cls:=.type "slice", data:=.fields #[vl,vu,.none] } }:=I3.kept (t':=s3.toks) fun b ob q=>Ad _ q
 obtain ⟨T,id,hT,ht,hg⟩:=hr O9 { s3 with heap:=s3.heap.push { cls:=.type "slice", data:=.fields #[vl,vu,.none] } } σ H3 x v vl vu l u s3.heap.objs.size Q I4 r1 (Heap.IsSliceOf.new ..) pl pu q3
 show wpAny (model X.prog X.w) X.A (subscriptTail e (.Slice lo hi none p2) v (.ref s3.heap.objs.size)) (EP X O9 σ Q) X.xe { s3 with heap:=s3.heap.push { cls:=.type "slice", data:=.fields #[vl,vu,.none] } }
 exact tail_any (ops:=[.ref s3.heap.objs.size,v]) ht hT hg (by with_unfolding_all rfl)
def Gn (xs:List V) (lo hi:Option Int):List V:=(xs.drop (HT.sIx xs.length 0 lo)).take (HT.sIx xs.length xs.length hi - HT.sIx xs.length 0 lo)
theorem xA (xs:List V) (lo hi:Option Int):(Gn xs lo hi).length<=xs.length:=by
 unfold Gn
 rw [A9,Bq]
 lia
def QhN (K:Aa):V->Option Int->Option Int->Hp->VK->Prop:=fun x lo hi H Q=>∃ a xs,x=.ref a/\SqT K H a xs /\
 ¬ (HT.sIx xs.length 0 lo=0/\HT.sIx xs.length xs.length hi=xs.length)/\∀ p,H p=none->Q (.ref p) (upd H p (.tup (Gn xs lo hi)))
theorem Qf7:SlR X (QhN X.K):=by
 intro O9 s σ H x v vl vu lo hi sl Q I rx hs pl pu h
 obtain ⟨a,xs,rfl,hx,hw,q⟩:=h
 cases rx
 obtain ⟨its,r,ht,hz⟩:=I.tuple hx
 have hlen:its.toArray.size=xs.length:=by rw [Ao];exact r.length.symm
 refine ⟨"tuple", _,PyProof.Rows.slot_tuple_getitem.lookup,ht.typeIs,?_⟩
 refine HT.getItem_tuple_cut ht hs pl pu (by rw [hlen];exact hw) ?_ (by rw [hlen];exact hz)
 rw [hlen]
 refine ⟨.ref s.heap.objs.size,_,I.laid (t':=s.toks) (o:=.tup (Gn xs lo hi)) (fun b ob q=>Ad _ q) (Ae _) ?_,rfl,q _ (I.hok.fresh (Ae _))⟩
 exact ⟨Bj (xA xs lo hi) hz,_,(r.drop (HT.sIx xs.length 0 lo)).take (HT.sIx xs.length xs.length hi - HT.sIx xs.length 0 lo),IsTup.new _ _⟩
def Qha (K:Aa):R2:=fun x y H Q=>∃ a b xs ys,x=.ref a/\y=.ref b/\SqT K H a xs/\SqT K H b ys/\xs≠[]/\xs.length+ys.length<=sizeLine /\
 (ys=[]->Q (.ref a) H)/\(ys≠[]->∀ p,H p=none->Q (.ref p) (upd H p (.tup (xs++ys))))
theorem Vals.nil_iff {xs:List V} {us:List Value} (r:Vals xs us):us=[]↔xs=[]:=by
 cases r with
 | nil=>simp
 | cons _ _=>simp
theorem Qdy:OpR X (binaryOp .Add) (Qha X.K):=by
 intro O9 s σ H x y v u Q I rx ry h
 obtain ⟨a,b,xs,ys,rfl,rfl,ha,hb,hx,hz,q1,q2⟩:=h
 cases rx
 cases ry
 obtain ⟨its,r1,p1,_⟩:=I.tuple ha
 obtain ⟨its2,r2,p2,_⟩:=I.tuple hb
 refine HT.cat_tup p1 p2 (fun z=>hx (r1.nil_iff.mp z)) (fun z=>⟨.ref a,H,I,rfl,q1 (r2.nil_iff.mp z)⟩) (fun z=>?_) (by rw [<- r1.length,<- r2.length];exact hz)
 refine ⟨.ref s.heap.objs.size,_,I.laid (t':=s.toks) (o:=.tup (xs++ys)) (fun b ob q=>Ad _ q) (Ae _) ?_,rfl,q2 (fun w=>z (r2.nil_iff.mpr w)) _ (I.hok.fresh (Ae _))⟩
 exact ⟨by rw [An];exact hz,_,r1.append r2,IsTup.new _ _⟩
end
def ixN (n:Nat) (i:Int):Option Nat:=if 0<=i then (if i < n then some i.toNat else none) else if -(n:Int)<=i then some (i+n).toNat else none
def atI {α:Type} (xs:List α) (i:Int):Option α:=(ixN xs.length i).bind fun j=>xs[j]?
theorem gI {n:Nat} {i:Int} {j:Nat} (h:ixN n i=some j):seqIndex? i n=some j/\j < n /\ -(n:Int)<=i/\i < n:=by
 unfold ixN at h
 by_cases h0:0<=i
 ·rw [C8 h0] at h
  by_cases h1:i < n
  ·rw [C8 h1] at h
   have e:i.toNat=j:=Ak h
   exact ⟨by rw [seqIndex_of h0 h1,e],by lia,by lia,h1⟩
  ·rw [C7 h1] at h;cases h
 ·rw [C7 h0] at h
  by_cases h1:-(n:Int)<=i
  ·rw [C8 h1] at h
   have e:(i+n).toNat=j:=Ak h
   exact ⟨by rw [seqIndex_neg (by lia) h1,e],by lia,h1,by lia⟩
  ·rw [C7 h1] at h;cases h
theorem ga {α:Type} {xs:List α} {i:Int} {v:α} (h:atI xs i=some v):∃ j,seqIndex? i xs.length=some j/\xs[j]?=some v/\j < xs.length /\ -(xs.length:Int)<=i/\i < xs.length:=by
  unfold atI at h
  cases e:ixN xs.length i with
  | none=>rw [e] at h;cases h
  | some j =>
    rw [e] at h
    obtain ⟨h1,h2,h3,h4⟩:=gI e
    exact ⟨j,h1,h,h2,h3,h4⟩
theorem zX {α:Type} {xs:List α} {j:Nat} {v:α} (h:xs[j]?=some v):atI xs (j:Int)=some v:=by
 have hj:j < xs.length:=(Ac.mp h).1
 have e:ixN xs.length (j:Int)=some j:=by
  unfold ixN
  rw [C8 (by lia),C8 (by lia)];simp
 unfold atI;rw [e];exact h
def U7 (b:Expr):Prop:=∀ o i,subscripted b false o i=operate [o,i] (getItem o i)
def IxR (X:Cx) (r:R2):Prop :=
  ∀ (value slice : Expr) (O9 : List (Addr × Obj)) (s : Shared) (σ : St) (H : Hp) (x y : V) (v u : Value) (Q : VK), Inv X O9 σ H s -> RelV x v -> RelV y u -> r x y H Q ->
    subscripted slice false v u=operate [v,u] (getItem v u)->wpAny (model X.prog X.w) X.A (subscriptTail value slice v u) (EP X O9 σ Q) X.xe s
def MtR (X:Cx) (id:String) (r:V->List V->Hp->VK->Prop):Prop :=
  ∀ (O9 : List (Addr × Obj)) (s : Shared) (σ : St) (H : Hp) (x : V) (xs : List V) (v : Value) (us : List Value) (Q : VK), Inv X O9 σ H s -> RelV x v -> Vals xs us -> r x xs H Q ->
    wpAny (model X.prog X.w) X.A (call (.builtin id) (v::us)) (EP X O9 σ Q) X.xe s
section
variable {X:Cx} {a b:Expr} {ta tb:TE} {pos:Pos}
theorem QeI {r:R2} (hr:IxR X r) (ha:PE X a ta) (hb:PE X b tb) (hs:U7 b):PE X (.Subscript a b pos) (tOp r ta tb):=by
 intro O9 s σ H Q I h
 exact Subscript_ (QeT ha hb I h fun v u s2 x y H2 I2 rx ry q=>hr a b O9 s2 σ H2 x y v u Q I2 rx ry q (hs _ _))
def QhK (K:Aa):R2:=fun x y H Q=>∃ p xs i v,x=.ref p/\y=.int i/\SqL K H p xs/\atI xs i=some v/\Q v H
def QhL (K:Aa):R2:=fun x y H Q=>∃ p xs i v,x=.ref p/\y=.int i/\SqT K H p xs/\atI xs i=some v/\Q v H
theorem gJ:IxR X (QhK X.K):=by
 intro value slice O9 s σ H x y v u Q I rx ry h hs
 obtain ⟨p,xs,i,z,rfl,rfl,hq,he,q⟩:=h
 cases rx
 obtain ⟨t,rfl⟩:=ry
 obtain ⟨its,r,pl,hz⟩:=I.list hq
 obtain ⟨j,h1,h2,h3,h4,h5⟩:=ga he
 obtain ⟨w,ew,rw'⟩:=r.get h2
 have hl:=r.length
 have hn:=KC
 have fin:EP X O9 σ Q w s:=⟨z,H,I,rw',q⟩
 by_cases h0:0<=i
 ·have hj:i.toNat=j:=by
   rw [seqIndex_of h0 h5] at h1
   exact Ak h1
  exact item_listR pl.isList h0 (by lia) (by rw [hj];simpa using ew) fin hs
 ·have hj:(i+(its.toArray.size:Int)).toNat=j:=by
   rw [seqIndex_neg (by lia) h4] at h1
   rw [Ao,<- hl]
   exact Ak h1
  exact subscriptTail_builtinR (x:=w) pl.isList.typeIs slot_list_getitem.lookup
   (wpAny_getItem_list_neg (Q:=fun r s'=>r=w/\EP X O9 σ Q r s') pl.isList (by lia) (by rw [Ao]<;>lia) (by lia) (by rw [hj];simpa using ew) ⟨rfl,fin⟩) hs
theorem Qe9:IxR X (QhL X.K):=by
 intro value slice O9 s σ H x y v u Q I rx ry h hs
 obtain ⟨p,xs,i,z,rfl,rfl,hq,he,q⟩:=h
 cases rx
 obtain ⟨t,rfl⟩:=ry
 obtain ⟨its,r,pl,hz⟩:=I.tuple hq
 obtain ⟨j,h1,h2,h3,h4,h5⟩:=ga he
 obtain ⟨w,ew,rw'⟩:=r.get h2
 have hl:=r.length
 have hn:=KC
 have fin:EP X O9 σ Q w s:=⟨z,H,I,rw',q⟩
 exact subscriptTail_builtinR (x:=w) pl.typeIs slot_tuple_getitem.lookup
  (getItem_tuple (j:=j) (Q:=fun r s'=>r=w/\EP X O9 σ Q r s') pl (by lia) (by lia) (by rw [Ao,<- hl];exact h1) (by simpa using ew) ⟨rfl,fin⟩) hs
theorem uh (its:List Value) (n j:Nat) (u:Value):Obj.mapSeq (·.setIfInBounds j u) { cls:=.type "list", data:=.seq its.toArray n }={ cls:=.type "list", data:=.seq (its.set j u).toArray n }:=by
 simp [Obj.mapSeq]
theorem Inv.lst {H:Hp} {p:Addr} (I:Inv X O9 σ H s) (h:H p=some (.lst xs)):
  ∃ (its:List Value) (n:Nat),Vals xs its/\s.heap.get? p=some { cls:=.type "list", data:=.seq its.toArray n }/\xs.length<=sizeLine:=by
 obtain ⟨z,its,n,r,e⟩:=I.hok p _ h
 exact ⟨its,n,r,e,z⟩
theorem Inv.lstUpd {H:Hp} {p:Addr} {xs ys:List V} {its its':List Value} {n n':Nat} {f:Obj->Obj} (I:Inv X O9 σ H s) (h:H p=some (.lst xs))
  (ho:s.heap.get? p=some { cls:=.type "list", data:=.seq its.toArray n }) (hf:f { cls:=.type "list", data:=.seq its.toArray n }={ cls:=.type "list", data:=.seq its'.toArray n' }) (r:Vals ys its') (hz:ys.length<=sizeLine) (t:Nat) :
  Inv X O9 σ (upd H p (.lst ys)) { s with heap:=s.heap.update p f,toks:=t }:=by
 have e:(s.heap.update p f).get? p=some { cls:=.type "list", data:=.seq its'.toArray n' }:=by
  rw [Heap.get?_update_self f ho (by rw [hf]<;>rfl),hf]
 refine I.write (x:=p) (e:=p) (by rw [h];trivial) (.inl rfl) (fun b u hb q=>(Heap.get?_update_other _ _ (Ne.symm hb)).trans q) ⟨_,e⟩ ?_
 exact ⟨hz,its',n',r,e⟩
def Qhe:V->V->V->Hp->(Hp->Prop)->Prop:=fun o i v H Q=>∃ p xs k j,o=.ref p/\i=.int k/\H p=some (.lst xs)/\ixN xs.length k=some j/\Q (upd H p (.lst (xs.set j v)))
theorem Qct:QcV X Qhe:=by
 intro O9 s σ H o i v ov iv u Q I ro ri rv h
 obtain ⟨p,xs,k,j,rfl,rfl,U,hj,q⟩:=h
 cases ro
 obtain ⟨t,rfl⟩:=ri
 obtain ⟨its,n,r,ho,hz⟩:=I.lst U
 obtain ⟨h1,h2,h3,h4⟩:=gI hj
 have hl:=r.length
 have hn:=KC
 have I':Inv X O9 σ (upd H p (.lst (xs.set j v))) { s with heap:=s.heap.update p (Obj.mapSeq (·.setIfInBounds j u)) } :=
  I.lstUpd U ho (uh its n j u) (r.set rv j) (by rw [List.length_set];exact hz) s.toks
 by_cases h0:0<=k
 ·have hk:k.toNat=j:=by
   rw [seqIndex_of h0 h4] at h1
   exact Ak h1
  exact PySem.W.ki_setAt ho h0 (by lia) (by rw [Ao,<- hl];exact h4) (by rw [hk];exact ⟨_,I',q⟩)
 ·have hk:(k+(its.toArray.size:Int)).toNat=j:=by
   rw [seqIndex_neg (by lia) h3] at h1
   rw [Ao,<- hl]
   exact Ak h1
  exact PySem.W.ki_setBack ho (by lia) (by rw [Ao,<- hl];exact h3) (by lia) (by rw [hk];exact ⟨_,I',q⟩)
theorem KY (lo hi:Option Int) (n:Nat):(sliceBounds lo hi none n).1=((HT.sIx n 0 lo:Nat):Int)/\(sliceBounds lo hi none n).2.1=((HT.sIx n n hi:Nat):Int)/\(sliceBounds lo hi none n).2.2=1:=by
  refine ⟨?_,?_,rfl⟩
  . cases lo with
    | none=>simp [sliceBounds,HT.sIx]
    | some i =>
      simp only [sliceBounds,HT.sIx,Option.getD_none,show (1:Int) > 0 by decide,if_true]
      by_cases h:i < 0
      . simp only [h,if_true]<;>lia
      . simp only [h,if_false]<;>lia
  . cases hi with
    | none=>simp [sliceBounds,HT.sIx]
    | some i =>
      simp only [sliceBounds,HT.sIx,Option.getD_none,show (1:Int) > 0 by decide,if_true]
      by_cases h:i < 0
      . simp only [h,if_true]<;>lia
      . simp only [h,if_false]<;>lia
theorem V6 (its:List Value) (lo hi:Option Int):slicePick its.toArray lo hi none=((its.drop (HT.sIx its.length 0 lo)).take (HT.sIx its.length its.length hi - HT.sIx its.length 0 lo)).toArray:=by
 obtain ⟨h1,h2,h3⟩:=KY lo hi its.toArray.size
 unfold slicePick
 rw [h1,h2,h3]
 simp only [sliceRange_one,pick_run,Ao]<;>rfl
def QhM (K:Aa):V->Option Int->Option Int->Hp->VK->Prop:=fun x lo hi H Q=>∃ a xs,x=.ref a/\SqL K H a xs/\∀ p,H p=none->Q (.ref p) (upd H p (.lst (Gn xs lo hi)))
theorem Qef:SlR X (QhM X.K):=by
 intro O9 s σ H x v vl vu lo hi sl Q I rx hs pl pu h
 obtain ⟨a,xs,rfl,hx,q⟩:=h
 cases rx
 obtain ⟨its,r,ht,hz⟩:=I.list hx
 have hlen:=r.length
 refine ⟨"list", _,slot_list_getitem.lookup,ht.isList.typeIs,?_⟩
 refine wpAny_getItem_list_slice ht.isList hs pl pu .none (by simp) ?_ (by rw [Ao]<;>lia)
 rw [V6,<- hlen]
 refine ⟨.ref s.heap.objs.size,_,I.laid (t':=s.toks) (o:=.lst (Gn xs lo hi)) (fun b ob q=>Ad _ q) (Ae _) ?_,rfl,q _ (I.hok.fresh (Ae _))⟩
 exact ⟨Bj (xA xs lo hi) hz,_,0,(r.drop (HT.sIx xs.length 0 lo)).take (HT.sIx xs.length xs.length hi - HT.sIx xs.length 0 lo),Av _ rfl⟩
theorem Y6:CallR X (.builtin "len") (fun xs H Q=>∃ p ys,xs=[.ref p]/\(SqL X.K H p ys∨SqT X.K H p ys)/\Q (.int ys.length) H):=by
 intro O9 s σ H xs us Q I r h
 obtain ⟨p,ys,rfl,hq,q⟩:=h
 obtain ⟨u,rfl,rx⟩:=VF r
 cases rx
 have hn:=KC
 rcases hq with hq | hq
 ·obtain ⟨its,r',pl,hz⟩:=I.list hq
  have hlen:=r'.length
  exact Calls.call_len_list pl.isList (by simp only [Ao]<;>lia) ⟨.int ys.length,H,I.tok _,⟨s.toks+1,by rw [Ao,hlen]⟩,q⟩
 ·obtain ⟨its,r',pl,hz⟩:=I.tuple hq
  have hlen:=r'.length
  exact len_tuple pl (by simp only [Ao]<;>lia) ⟨.int ys.length,H,I.tok _,⟨s.toks+1,by rw [Ao,hlen]⟩,q⟩
theorem call_list_of:CallR X (.type "list") (fun xs H Q=>∃ p ys,xs=[.ref p]/\(SqL X.K H p ys∨SqT X.K H p ys)/\∀ l,H l=none->Q (.ref l) (upd H l (.lst ys))):=by
 intro O9 s σ H xs us Q I r h
 obtain ⟨p,ys,rfl,hq,q⟩:=h
 obtain ⟨u,rfl,rx⟩:=VF r
 cases rx
 have fin:∀ (its:List Value),Vals ys its->ys.length<=sizeLine->∀ (h':Heap) (c':Nat),(∀ b o',s.heap.get? b=some o'->h'.get? b=some o') ->
   h'.get? s.heap.objs.size=some { cls:=.type "list", dict:=none,data:=.seq its.toArray c',slots:=#[] }->EP X O9 σ Q (.ref s.heap.objs.size) { s with heap:=h' }:=fun its r' hz h' c' kp e =>
  ⟨.ref s.heap.objs.size,_,I.laid (t':=s.toks) kp (Ae _) (show ObjOk X.prog X.w _ h' _ (.lst ys) from ⟨hz,its,c',r',e⟩),rfl,q _ (I.hok.fresh (Ae _))⟩
 rcases hq with hq | hq
 ·obtain ⟨its,r',pl,hz⟩:=I.list hq
  have hlen:=r'.length
  obtain ⟨o,ho,hc,n,hd⟩:=pl.isList
  exact call_list_seq p (.inl rfl) ho hc hd (fun h' c' kp e=>fin its r' hz h' c' kp e) (by simp only [Ao]<;>lia)
 ·obtain ⟨its,r',pl,hz⟩:=I.tuple hq
  have hlen:=r'.length
  obtain ⟨o,ho,hc,n,hd⟩:=pl
  exact call_list_seq p (.inr rfl) ho hc hd (fun h' c' kp e=>fin its r' hz h' c' kp e) (by simp only [Ao]<;>lia)
theorem Yp:CallR X (.type "tuple") (fun xs H Q=>∃ p ys,xs=[.ref p]/\((SqL X.K H p ys/\∀ l,H l=none->Q (.ref l) (upd H l (.tup ys)))∨(SqT X.K H p ys/\Q (.ref p) H))):=by
 intro O9 s σ H xs us Q I r h
 obtain ⟨p,ys,rfl,h⟩:=h
 obtain ⟨u,rfl,rx⟩:=VF r
 cases rx
 rcases h with ⟨hq,q⟩ | ⟨hq,q⟩
 ·obtain ⟨its,r',pl,hz⟩:=I.list hq
  have hlen:=r'.length
  refine call_tuple_list pl.isList (fun h' kp=>?_) (by simp only [Ao]<;>lia)
  have I1:Inv X O9 σ H { s with heap:=h' }:=I.kept (t':=s.toks) kp
  have I2:Inv X O9 σ (upd H h'.objs.size (.tup ys)) { s with heap:=h'.push { cls:=.type "tuple", data:=.seq its.toArray } } :=
   I1.laid (t':=s.toks) (fun b o e=>Ad _ e) (Ae _) (show ObjOk X.prog X.w _ _ _ (.tup ys) from ⟨hz,its,r',IsTup.new _ _⟩)
  exact ⟨.ref h'.objs.size,_,I2,rfl,q _ (I1.hok.fresh (Ae _))⟩
 ·obtain ⟨its,r',pl,hz⟩:=I.tuple hq
  exact call_tuple_same pl ⟨.ref p,H,I,rfl,q⟩
def tyV (K:Aa) (T:String) (x:V) (H:Hp):Prop:=match x with
 | .str _=>T = "str"
 | .int _=>T = "int"
 | .ref p=>(T = "list" /\ ∃ xs,SqL K H p xs)∨(T = "tuple" /\ ∃ o,K.lookup p=some o/\o.cls=.type "tuple" /\ o.dict=none) ∨
   (T = "dict" /\ ((∃ kvs,H p=some (.dK kvs))∨∃ kvs,H p=some (.dT kvs)))∨(T = "set" /\ ∃ S n,H p=some (.set S n))
 | _=>False
theorem Qgg {T:String} (I:Inv X O9 σ H s) (r:RelV x v) (ty:tyV X.K T x H):
    s.TypeIs v T/\∀ a,v=.ref a->∃ ob,s.heap.get? a=some ob/\ob.dict=none:=by
  cases x with
  | str z =>
    obtain ⟨t,rfl⟩:=r
    cases (show T = "str" from ty)
    exact ⟨typeIs_str s z t,fun _ e=>nomatch e⟩
  | int i =>
    obtain ⟨t,rfl⟩:=r
    cases (show T = "int" from ty)
    exact ⟨typeIs_int s i t,fun _ e=>nomatch e⟩
  | ref p =>
    cases r
    rcases ty with ⟨rfl,xs,hq⟩ | ⟨rfl,o,hk,hc,hd⟩ | ⟨rfl,hk⟩ | ⟨rfl,S,n,hk⟩
    . obtain ⟨its,_,pl,_⟩:=I.list hq
      refine ⟨pl.isList.typeIs,fun a e=>?_⟩
      cases e
      obtain ⟨o,n,e,c,hd,_⟩:=pl
      exact ⟨o,e,hd⟩
    . refine ⟨⟨o,I.kIn p o hk,hc⟩,fun a e=>?_⟩
      cases e
      exact ⟨o,I.kIn _ o hk,hd⟩
    . have z:∃ o,s.heap.get? p=some o/\o.ExactDict:=by
        rcases hk with ⟨kvs,hk⟩ | ⟨kvs,hk⟩
        . obtain ⟨_,_,_,_,o,_,_,e,ex,_⟩:=I.hok p _ hk
          exact ⟨o,e,ex⟩
        . obtain ⟨_,_,_,_,o,_,_,e,ex,_⟩:=I.hok p _ hk
          exact ⟨o,e,ex⟩
      obtain ⟨o,e,ex⟩:=z
      refine ⟨⟨o,e,ex.1⟩,fun a e2=>?_⟩
      cases e2
      exact ⟨o,e,ex.2.1⟩
    . obtain ⟨o,_,_,_,e,ex,_⟩:=I.hok p _ hk
      refine ⟨⟨o,e,ex.1⟩,fun a e2=>?_⟩
      cases e2
      exact ⟨o,e,ex.2.1⟩
  | _=>exact False.elim ty
def tBM (K:Aa) (T:String) (r:V->List V->Hp->VK->Prop) (to:TE) (t:TA):TE:=fun σ H Q=>to σ H fun x H1=>tyV K T x H1/\t σ H1 fun xs H2=>r x xs H2 Q
variable {o e:Expr} {es:List Expr} {to:TE} {t:TA} {name:Str} {apos cpos:Pos} {T id:String} {r:V->List V->Hp->VK->Prop}
theorem Qg6 (pa:PlainAttrs T) (slot:Slot T name id) (hty:typeOf (.builtin id)=pure (.type "method_descriptor")) (hm:MtR X id r) (ho:PE X o to) (ha:PA X (e::es) t)
  (hbase:attributeBase o name X.env (eval o X.env)=eval o X.env:=by rfl)
  (hfew:((backTo cpos (starEach (e::es) X.env)).all (fun x=>!x.1)&&(backToKw cpos (keywordEach [] X.env)).all (fun x=>x.1.isSome)
   && decide ((e::es).length+([]:List Keyword).length+(if ([]:List Keyword).isEmpty then 0 else 1) < 30))=true:=by rfl)
  (hline:(apos.endLine==cpos.line)=true:=by rfl) (hs:starEach (e::es) X.env=(false,eval e X.env)::starEach es X.env:=by rfl) (hplain:(backTo cpos (starEach es X.env)).any (·.1)=false:=by rfl) :
  PE X (.Call (.Attribute o name apos) (e::es) [] cpos) (tBM X.K T r to t):=by
 intro O9 s σ H Q I h
 refine wpAny_Call_method_late hbase hfew hline rfl (thn (ho O9 s σ H _ I h) fun v s1 ⟨x,H1,I1,r1,ty,q1⟩=>?_)
 obtain ⟨h1,h2⟩:=Qgg I1 r1 ty
 refine ⟨T,id,pa,slot,hty,h1,h2,?_⟩
 have hA:=ha cpos O9 s1 σ H1 _ I1 q1
 rw [hs] at hA ⊢
 refine Calls.callWith_builtin (by show (false||(backTo cpos (starEach es X.env)).any (·.1))=false;rw [hplain]<;>rfl) (Calls.evalArgs_plain ?_)
 exact thn hA fun us s2 ⟨vs,H2,I2,r2,q2⟩=>hm O9 s2 σ H2 x vs v us Q I2 r1 r2 q2
/- xs.append(e),list.index on a module's tuple .. are MtR facts of 06m -/
end
def MtM (X:Cx) (id:String) (r:V->List V->Hp->VK->Prop):Prop :=
  ∀ (O9 : List (Addr × Obj)) (s : Shared) (σ : St) (H : Hp) (x : V) (xs : List V) (v : Value) (us : List Value) (Q : VK), Inv X O9 σ H s -> RelV x v -> Vals xs us -> r x xs H Q ->
    wpAny (model X.prog X.w) X.A (call (.builtin id) (v::us)) (EP X O9 σ Q) X.xe s
theorem Vals.one:∀ {x:V} {us:List Value},Vals [x] us->∃ u,us=[u]/\RelV x u
 | _,_,.cons r .nil=>⟨_,rfl,r⟩
theorem Vals.dropLast {xs:List V} {us:List Value} (h:Vals xs us):Vals xs.dropLast us.dropLast:=by
  induction h with
  | nil=>exact .nil
  | cons r t ih =>
    cases t with
    | nil=>exact .nil
    | cons q t'=>exact .cons r ih
section
variable {X:Cx} {O9:Eh} {σ:St} {H:Hp} {s:Shared} {l b:Addr} {xs ys zs:List V}
theorem Inv.lset {its its':List Value} {n:Nat} {f:Array Value->Array Value} {t':Nat} (I:Inv X O9 σ H s) (hH:H l=some (.lst xs))
  (e:s.heap.get? l=some { cls:=.type "list", data:=.seq its.toArray n }) (hf:f its.toArray=its'.toArray) (hv:Vals ys its') (hz:ys.length<=sizeLine) :
  Inv X O9 σ (upd H l (.lst ys)) { s with heap:=s.heap.update l (Obj.mapSeq f),toks:=t' }:=by
 have q:=PySem.IsL.update e f
 rw [hf] at q
 refine I.write (x:=l) (e:=l) (by rw [hH];exact trivial) (.inl rfl) (fun b' u hb hu=>(Heap.get?_update_other s.heap (Obj.mapSeq f) (Ne.symm hb)).trans hu) ⟨_,q⟩ ?_
 exact ⟨hz,its',_,hv,q⟩
theorem Inv.lnew {t':Nat} (I:Inv X O9 σ H s) (hv:Vals ys its) (hz:ys.length<=sizeLine):
  Inv X O9 σ (upd H s.heap.objs.size (.lst ys)) { s with heap:=s.heap.push { cls:=.type "list", data:=.seq its.toArray },toks:=t' } :=
 I.laid (fun _ _ q=>Ad _ q) (Ae _) ⟨hz,its,0,hv,Av _ rfl⟩
def Inv.fresh (I:Inv X O9 σ H s):H s.heap.objs.size=none:=I.hok.fresh (Ae _)
theorem Inv.lstM (I:Inv X O9 σ H s) (hH:H l=some (.lst xs)):xs.length<=sizeLine/\∃ (its:List Value) (n:Nat),Vals xs its/\xs.length=its.length/\s.heap.get? l=some { cls:=.type "list", data:=.seq its.toArray n }:=by
 obtain ⟨z,its,n,r,e⟩:=I.hok l _ hH
 exact ⟨z,its,n,r,r.length,e⟩
theorem QbU {n:Nat} (h:n<=sizeLine):Builtin.List.listTooLong n=false:=by
 unfold Builtin.List.listTooLong
 exact Ee (by lia)
end
section
variable {X:Cx}
def Qd1:V->List V->Hp->VK->Prop:=fun x vs H Q=>∃ l xs y,x=.ref l/\vs=[y]/\H l=some (.lst xs)/\xs.length < sizeLine/\Q .non (upd H l (.lst (xs++[y])))
theorem Ux:MtM X "list.append" Qd1:=by
 intro O9 s σ H x vs v us Q I rx rv h
 obtain ⟨l,xs,y,rfl,rfl,hH,hz,q⟩:=h
 cases rx
 obtain ⟨u,rfl,ru⟩:=rv.one
 obtain ⟨z,its,n,r,hl,e⟩:=I.lstM hH
 refine call_meets F.slot_list_append ⟨_,e,rfl⟩ F.entry_list_append (F.args_list_append_2 _ _) (PySem.list_append l its.toArray n u (by rw [Ao];lia)) ⟨e,?_⟩
 refine ⟨.non,_,I.lset (its':=its++[u]) hH e (by simp) (r.append (.cons ru .nil)) ?_,rfl,q⟩
 rw [An,List.length_singleton]
 lia
def Qd2:V->List V->Hp->VK->Prop:=fun x vs H Q=>∃ l b xs zs,x=.ref l/\vs=[.ref b]/\H l=some (.lst xs)/\H b=some (.lst zs)/\xs.length+zs.length<=sizeLine/\Q .non (upd H l (.lst (xs++zs)))
theorem Qar:MtM X "list.extend" Qd2:=by
 intro O9 s σ H x vs v us Q I rx rv h
 obtain ⟨l,b,xs,zs,rfl,rfl,hH,hB,hz,q⟩:=h
 cases rx
 obtain ⟨u,rfl,ru⟩:=rv.one
 cases ru
 obtain ⟨z,its,n,r,hl,e⟩:=I.lstM hH
 obtain ⟨z2,its2,n2,r2,hl2,e2⟩:=I.lstM hB
 have hsz:its.toArray.size+its2.toArray.size<=sizeLine:=by rw [Ao,Ao];lia
 have hlong:¬ (!its.toArray.isEmpty&&Builtin.List.listTooLong (its.toArray.size+its2.toArray.size))=true:=by
  rw [QbU hsz,Bool.and_false]
  exact Bz
 refine call_meets F.slot_list_extend ⟨_,e,rfl⟩ F.entry_list_extend (F.args_list_extend_2 _ _)
  (AutoSeq1.list_extend_list_list_0 l its.toArray n b its2.toArray n2 hlong (by rw [Ao];lia) (by lia)) ⟨e,e2,?_⟩
 refine ⟨.non,_,I.lset (its':=its++its2) hH e (by simp) (r.append r2) ?_,rfl,q⟩
 rw [An]
 lia
end
section
variable {prog:Program} {w:World} {A:Around} {E:Eg} {s:Shared}
end
section
variable {X:Cx}
end
end L2
namespace Att
open PySem PySem.W PySem.Calls PyProof.Rows
theorem x8:∀ (ns:List Int) (vs:List Value),WellAll P h vs (ns.map WData.int)->IntsAre vs ns:=by
  intro ns
  induction ns with
  | nil =>
    intro vs w
    rw [List.map_nil] at w
    cases w
    exact .nil
  | cons n ns ih =>
    intro vs w
    rw [Bb] at w
    cases w with
    | cons a b =>
      cases a
      exact .cons _ _ (ih _ b)
theorem QaI {l:OpenLaw} {n:Nat} (hn:l.most=some n) {P:Params} {h:Heap} {args:List WData} {vals:List Value}
    (hpre:l.row.toRowW.claim.pre args=true) (hwl:WellAll P h vals args) :
    ∃ a vs ns,vals=[Value.ref a]/\args=[WData.list (ns.map WData.int)]/\h.get? a=some { cls:=.type "list", data:=.seq vs.toArray }/\IntsAre vs ns/\ns.length<=n:=by
  have hsh:WShape.hasAll [] args [.list .int]=true:=(pre_splitW hpre).1
  have hc:l.pre.holds [] { args:=args }=true:=(pre_splitW hpre).2
  obtain ⟨d,r,rfl,h1,h2⟩:=hasAllW_cons hsh
  obtain rfl:=hasAllW_nil h2
  obtain ⟨xs,rfl,h3⟩:=hasW_list h1
  obtain ⟨ns,rfl⟩:=items_int h3
  have hlen:ns.length<=n:=by
    unfold OpenLaw.pre at hc
    have h4:(WTm.not (.lt (.lit (.int (n:Int))) (.len (.arg 0)))).holds [] { args:=[.list (ns.map .int)] }=true:=by
      have h4:=(holds_andW hc).1
      rw [hn] at h4
      exact h4
    have h5:=condW_of h4 (w_not (w_lt w_lit (w_len_list (w_arg rfl))))
    rw [Br] at h5
    refine Cy fun q=>?_
    have q':(n:Int) < ((ns.length:Nat):Int):=by lia
    first
      | (rw [Ec q'] at h5;exact absurd h5 (by decide))
      | (simp at h5;lia)
  cases hwl with
  | cons w1 w2 =>
    cases w2
    cases w1 with
    | list ho hall=>exact ⟨_,_,ns,rfl,rfl,ho,x8 ns _ hall,hlen⟩
theorem Qaz (l:OpenLaw) (args:List WData):l.row.toRowW.claim.post args (.bool true) args=true :=
 postW_of (r:=l.row.toRowW) (X:=(true==true))
  (show WShape.has [] (.bool true) .bool=true by first | rfl | decide | simp [WShape.has,WShape.arms,WShape.armsAll])
  (show (WTm.eq .res (.lit (.bool true))).value [] { args:=args,res:=some (.bool true),after:=args }=some (.bool (true==true)) from w_eq_bool (w_res rfl) w_lit) rfl
theorem attach_call {l:OpenLaw} {n:Nat} {q:Program} {loose:List Str} {XP:(Ei)->Heap->Prop} {YP:World->Heap->Prop} {d:DefRec}
  (hn:l.most=some n) (hdf:d.params.defaults=[])
  (call:∀ (w:World) (s₀ s₁:Shared) (mg mb:Ei) (fa:Addr) (o:Obj) (pm cd doc:Value) (a:Addr) (vs:List Value) (ns:List Int),
   Ground q loose [] XP w s₀ mg mb s₁.heap->YP w s₁.heap ->
   s₁.heap.get? fa=some o->o.data=.func (docDef d.name d.params d.body d.scope pm cd doc)->s₁.heap.CodeRec cd d.name->mg d.name=some (.ref fa) ->
   s₁.heap.get? a=some { cls:=.type "list", data:=.seq vs.toArray }->IntsAre vs ns->ns.length<=n->s₁.gens = #[] ->
   codeAny (model l.prog w) callerA (.call (.ref fa) ⟨[.ref a],[]⟩) (fun r s'=>r=.ok (.ret (.bool true))/\OldK s₁.heap s'.heap/\s'.os=s₁.os/\AllBare s'.gens) s₁) :
  WalkO q loose XP YP l.row.toRowW d [] (fun f vs=>PySem.call f vs):=by
 intro w s₀ s₁ mg mb G Y fa o pm cd doc dV kV ho hd hcd hD hmg hg args vals as hpre hlay hrd hwl hlo
 obtain rfl:dV=.none:=Dflts.none hD hdf
 obtain rfl:kV=.none:=Dflts.noKw hD
 obtain ⟨a,vs,ns,rfl,rfl,hobj,hints,hlen⟩:=QaI hn hpre hwl
 refine enter_call (codeAny_mono (call w s₀ s₁ mg mb fa o pm cd doc a vs ns G Y ho (fd_plain hd) hcd hmg hobj hints hlen hg) fun r s' hq=>?_)
 obtain ⟨rfl,h2,h3,h4⟩:=hq
 exact ⟨.inl ⟨.bool true,.bool true,[],rfl,fun _=>rfl,.bool true,Qaz l _,fun _=>⟨List.Pairwise.nil,fun _ hm=>(nomatch hm)⟩⟩,h2,h3,h4⟩
section
variable {prog:Program} {w:World} {A:Around} {E:Eg} {s:Shared} {K:Frag}
def QhF (h:Heap) (L d:Addr):List (Addr×Obj):=(List.range h.objs.size).filterMap fun a=>if a=L∨a=d then none else (h.get? a).map fun o=>(a,o)
end
end Att
namespace L2
open PySem PySem.Spec PyProof.Rows
theorem YU:∀ {vs:List Value} {ns:List Int},IntsAre vs ns->Vals (ns.map V.int) vs
 | _,_,.nil=>.nil
 | _,_,.cons n t h=>.cons ⟨t,rfl⟩ (YU h)
def QeP (H:Hp):Prop:=∀ b,H b=none∨∃ o xs,H b=some (.frz o (.lst xs))
theorem QbG {P:Program} {w:World} {K:Aa} {mg mb:Ei} {CX:CXT} {k:Nat} {fa a:Addr} {fd:FuncData} {x:Str} {sp:Sp} {s₁:Shared} {vs:List Value} {ns:List Int}
    (KX:K.In s₁.heap) (hns:s₁.heap.Ns mainGlobals mg) (hb:s₁.heap.Ns builtinsNs mb) (hbb:∀ x:Str,x ≠ "__name__" -> mb x=bootBuiltins x) (hlim:s₁.heap.NoLimit) (hg:s₁.gens = #[])
    (ha:s₁.heap.get? a=some { cls:=.type "list", data:=.seq vs.toArray }) (hi:IntsAre vs ns) (hl:ns.length<=sizeLine) (hr:Room k callerA)
    (F:∀ O8:Heap,K.In O8->O8.Ns mainGlobals mg->qD P w K mg O8 CX k fa fd [x] sp) (hbind:∀ (s:Shared) (u:Value),BindsTo s fd ⟨[u],[]⟩ [(x,u)])
    (hsp:∀ H:Hp,QeP H->SqL K H a (ns.map V.int)->sp [.ref a] H (fun v _=>v=.bl true) fun _ _ _=>False)
    (hCX:∀ H e s',CX [] H s₁ (fun _ _ _=>False) e s'->False) :
    codeAny (model P w) callerA (.call (.ref fa) ⟨[.ref a],[]⟩) (fun r s'=>r=.ok (.ret (.bool true))/\OldK s₁.heap s'.heap/\s'.os=s₁.os/\AllBare s'.gens) s₁:=by
  have rv:=YU hi
  have lenV:=hi.length
  have core:∀ H:Hp,QeP H->SqL K H a (ns.map V.int)->HOk P w H s₁.heap->(∀ b,H b≠none->b=a)->(H a≠none->K.lookup a=none) ->
      codeAny (model P w) callerA (.call (.ref fa) ⟨[.ref a],[]⟩) (fun r s'=>r=.ok (.ret (.bool true))/\OldK s₁.heap s'.heap/\s'.os=s₁.os/\AllBare s'.gens) s₁:=by
    intro H hO hS hok hA hK
    have base_of:∀ {b:Addr} {o:Obj},s₁.heap.get? b=some o->H b=none->(Kr s₁.heap H).get? b=some o:=fun e n=>Qbz e n
    have noA:∀ {b:Addr} {o:Obj} {es:Array DictEntry} {ep:Nat},s₁.heap.get? b=some o->o.data=.dict es ep->H b=none:=fun {b o es ep} e d=>by
      cases q:H b with
      | none=>rfl
      | some u =>
        have e':b=a:=hA b (by rw [q];simp)
        subst e'
        rw [ha] at e;cases e
        have d':Data.seq vs.toArray _=Data.dict es ep:=d
        cases d'
    have nsK:∀ {b:Addr} {m:Ei},s₁.heap.Ns b m->(Kr s₁.heap H).Ns b m:=fun {b m} ⟨o,es,ep,e,d,r⟩=>⟨o,es,ep,base_of e (noA e d),d,r⟩
    have hKb:K.In (Kr s₁.heap H):=fun b o e=>base_of (KX b o e) (by
      cases q:H b with
      | none=>rfl
      | some u =>
        have e':b=a:=hA b (by rw [q];simp)
        subst e'
        rw [hK (by rw [q];simp)] at e;cases e)
    have hM:Mod K mg (Kr s₁.heap H):=⟨hKb,nsK hns,⟨mb,nsK hb,hbb⟩,let ⟨mc,h1,h2⟩:=hlim;⟨mc,nsK h1,h2⟩⟩
    have e0:Env0 P w K mg (Kr s₁.heap H) callerA [] s₁ H:=⟨rfl,hM,fun b o e=>Qdv e,Nat.le_of_eq (Qag _ _),trivial,fun b hb=>absurd (show b∈([]:Eo) from hb) (by simp),hok,.of_eq hg⟩
    refine codeAny_mono ((F _ hKb (nsK hns)).run callerA [] s₁ H ⟨[.ref a],[]⟩ [.ref a] [.ref a] _ _ hr e0 (hbind s₁ (.ref a)) (.cons rfl .nil) (hsp H hO hS)) fun r s' h=>?_
    cases r with
    | error e=>exact (hCX H e s' h).elim
    | ok fl =>
      cases fl with
      | next=>exact False.elim h
      | brk=>exact False.elim h
      | cont=>exact False.elim h
      | ret u =>
        obtain ⟨v,H',os,bare,un,hok',r',q⟩:=h
        have q':v=.bl true:=q
        subst q'
        obtain rfl:u=Value.bool true:=r'
        refine ⟨rfl,OldK.of_keep fun b o e=>?_,os,bare⟩
        cases q:H b with
        | none=>exact un.keep b o e q (by intro z;exact absurd (show b∈([]:Eo) from z) (by simp)) (by simp)
        | some u =>
          rcases hO b with z | ⟨ob,xs,z⟩
          . rw [q] at z;cases z
          . have z2:=un.frzs b ob _ z
            obtain ⟨e1,_⟩:=hok b _ z
            obtain ⟨e2,_⟩:=hok' b _ z2
            rw [e] at e1;cases e1
            exact e2
  cases hk:K.lookup a with
  | some o =>
    have e:=KX a o hk
    rw [ha] at e
    cases e
    refine core (fun _=>none) (fun _=>.inl rfl) (.inr ⟨_,vs.toArray,_,hk,rfl,rfl,rfl,by rw [Ao,lenV];exact hl,by simpa using rv⟩) (fun b u z=>by have z':(none:Option HO)=some u:=z;cases z') (fun b z=>absurd rfl z) fun z=>absurd rfl z
  | none =>
    refine core (fun b=>if b=a then some (.frz { cls:=.type "list", data:=.seq vs.toArray } (.lst (ns.map V.int))) else none) (fun b=>?_) (.inl (.inr ⟨{ cls:=.type "list", data:=.seq vs.toArray },C8 rfl⟩)) (fun b u z=>?_) (fun b z=>?_) fun _=>hk
    . by_cases hb:b=a
      . exact .inr ⟨_,_,C8 hb⟩
      . exact .inl (C7 hb)
    . by_cases hb:b=a
      . have z':=(C8 hb).symm.trans z
        cases z'
        subst hb
        exact ⟨ha,by rw [Br];exact hl,vs,_,rv,ha⟩
      . have z':=(C7 hb).symm.trans z
        cases z'
    . by_cases hb:b=a
      . exact hb
      . exact absurd (C7 hb) z
theorem kC {l:PySem.W.OpenLaw} {n k:Nat} {q:Program} {loose:List Str} {XP:(Ei)->Heap->Prop} {YP:World->Heap->Prop} {d:DefRec} {K:Params->Aa} {CX:World->CXT} {sp:World->Sp} {x:Str}
    (hn:l.most=some n) (hn2:n<=sizeLine) (hdf:d.params.defaults=[]) (hr:Room k callerA)
    (hY:∀ (w:World) (h:Heap),YP w h->(K w.params).In h)
    (F:∀ (w:World) (mg:Ei) (fa:Addr) (h:Heap),(K w.params).In h->h.Ns mainGlobals mg->mg d.name=some (.ref fa) ->
      ∃ fd : FuncData, (∀ (s : Shared) (u : Value), BindsTo s fd ⟨[u], []⟩ [(x, u)]) /\
        ∀ O8:Heap,(K w.params).In O8->O8.Ns mainGlobals mg->qD l.prog w (K w.params) mg O8 (CX w) k fa fd [x] (sp w))
    (hsp:∀ (w:World) (H:Hp) (a:Addr) (ns:List Int),ns.length<=n->QeP H->SqL (K w.params) H a (ns.map V.int)->sp w [.ref a] H (fun v _=>v=.bl true) fun _ _ _=>False)
    (hCX:∀ (w:World) (H:Hp) (s:Shared) (e:Value) (s':Shared),CX w [] H s (fun _ _ _=>False) e s'->False) :
    PySem.W.WalkO q loose XP YP l.row.toRowW d [] (fun f vs=>PySem.call f vs):=by
  refine Att.attach_call hn hdf fun w s₀ s₁ mg mb fa o pm cd doc a vs ns G Y ho hd hcd hmg hobj hints hlen hg=>?_
  have KX:=hY w _ Y
  obtain ⟨fd,hb,hF⟩:=F w mg fa _ KX G.T.g hmg
  exact QbG KX G.T.g G.T.b G.T.builtins G.T.nolimit hg hobj hints (Bj hlen hn2) hr hF hb (fun H hO hS=>hsp w H a ns hlen hO hS) fun H e s'=>hCX w H s₁ e s'
end L2
/- THE LAST THEOREM (shape; LID, My.* are yours):
   My.Adr: a structure of the addresses that your layer names (classes,functions);My.Txt K t: a structure (Prop) of the equations over K;
   My.txt_mk:{K} {implicit addresses ..} (e1:nsIn K mainGlobals "law" = some (some (.ref f))) (e2:K.lookup f=some ⟨oc,od,.func (fnOf "law" "law" params body scope dV kV doc pm an cdv ct),sl⟩) (e3:codeIn K cdv "law" = true) ..:∃ t,My.Txt K t
set_option maxRecDepth 100000 in
set_option maxHeartbeats 0 in
theorem PySem.Challenge.cw_LID_holds : PySem.Challenge.rw_LID.Holds := by
 w_on;o_law;k_head;(case hw=>w_witness2)
 k_fill
 refine L2.kC (l:=PySem.Challenge.rw_LID) (n:=63) (k:=40) (x := "script") (CX:=fun w=>..) (sp:=fun _=>My.sp_law) rfl (by decide) rfl ⟨rfl,by decide,by decide⟩ (fun w h Y=>PySem.W.kIn_of Y) ?F ?S ?C
 case F =>
  intro w mg fa h KX G hmg
  have T:∃ t,My.Txt (L2.KOf KX) t:=by
   dsimp only [L2.KOf]                          -- K must stand as «<heap const> w.params» for k_is
   refine' My.txt_mk ?e1 ?e2 ?e3 ..
   (case e1=>PySem.W.k_is)                    -- in the order: a name->its address->its object->its parts
   (case e2=>PySem.W.k_is)
   ..
  obtain ⟨t,T⟩:=T
  have e0:=hmg.symm.trans (PySem.W.mg_of KX G T.law)
  cases e0                                       -- fa is the law's own address
  exact ⟨_,fun s u=>.of_eq rfl,fun O8 kb nb=>My.law_fn T kb nb⟩     -- if «.of_eq rfl» comes too early: refine' ⟨_,?b,fun O8 kb nb=>My.law_fn T kb nb⟩;exact fun s u=>.of_eq rfl
 case S=>exact fun w H a ns hl hO hS=>..
 case C=>exact ..
(the tactic k_is has no namespace: write k_is) -/
namespace L2
open PySem PySem.Spec PyProof.Rows
def Zn (s:Stmt) (j:Nat):Stmt:=match s with
 | .ClassDef _ _ _ body _ _ _ _ _ _ _=>body.getD j (.Pass ⟨0,0,0,0⟩)
 | _=>.Pass ⟨0,0,0,0⟩
def Jv (s:Stmt):Arguments:=match s with
 | .FunctionDef _ a _ _ _ _ _ _ _ _=>a
 | _=>{ posonlyargs:=[],args:=[],vararg:=none,kwonlyargs:=[],kw_defaults:=[],kwarg:=none,defaults:=[] }
def ZB (s:Stmt):List Stmt:=match s with
 | .FunctionDef _ _ b _ _ _ _ _ _ _=>b
 | _=>[]
def Qo (s:Stmt):Scope:=match s with
 | .FunctionDef _ _ _ _ _ _ sc _ _ _=>sc
 | _=>{ kind:=.function,names:=[],isGenerator:=false,isCoroutine:=false }
abbrev CX0:CXT:=fun _ _ _ _ _ _=>False
abbrev E0:XK:=fun _ _ _=>False
def Qw:Yn CX0 X E0:=fun _ _ _ _ _ _ _ h=>h.elim
structure Fun (K:Aa) (x qual:Str) (st:Stmt) (f:Addr) (fd:FuncData):Prop where
 ex:∃ (oc:Value) (od:Option Addr) (kV doc pm:Value) (an:Option Addr) (cdv ct:Value) (osl:Array (Option Value)),
  fd=PySem.W.fnOf x qual (Jv st) (ZB st) (Qo st) .none kV doc pm an cdv ct/\K.lookup f=some ⟨oc,od,.func fd,osl⟩/\PySem.W.codeIn K cdv qual=true
 kp:PySem.W.keepIn K (.ref f)=true
section
variable {P:Program} {w:World} {K:Aa} {mg:Ei} {O8:Heap}
theorem Fun.ok {x qual:Str} {st:Stmt} {f:Addr} {fd:FuncData} {N ps:List Str} {k:Nat} {sp:Sp} (F:Fun K x qual st f fd) (S:Qt N ps (Qo st)) (len:∀ vs H Q E,sp vs H Q E->vs.length=ps.length)
  (hbody:∀ (cdv:Value) (A:Around) (outer:List Env) (s:Shared) (H:Hp) (vs:List V) (Q:VK) (E:XK),Room k (A.deeper (envOfC qual (Qo st) s.heap.objs.size f cdv))->sp vs H Q E ->
   ∃ t,PSs (xZ CX0 P w K mg O8 N qual (Qo st) f cdv A outer s H E).nox (ZB st) t/\t { nx:=fun _ H'=>Q .non H',rt:=Q } (start N vs) H):qD P w K mg O8 CX0 (k+1) f fd ps sp:=by
 obtain ⟨oc,od,kV,doc,pm,an,cdv,ct,osl,rfl,lk,hcd⟩:=F.ex
 refine QgD lk hcd S len fun A outer s H vs Q E hr hsp=>?_
 obtain ⟨t,h,q⟩:=hbody cdv A outer s H vs Q E hr hsp
 exact ⟨t,h.nox,q⟩
theorem Fun.binds {x qual:Str} {st:Stmt} {f:Addr} {fd:FuncData} {ps:List Str} (F:Fun K x qual st f fd)
  (h:∀ (kV doc pm:Value) (an:Option Addr) (cdv ct:Value) (us:List Value),us.length=ps.length->bindArgs (PySem.W.fnOf x qual (Jv st) (ZB st) (Qo st) .none kV doc pm an cdv ct) ⟨us,[]⟩=pure (ps.zip us)):Binds K fd ps []:=by
 obtain ⟨oc,od,kV,doc,pm,an,cdv,ct,osl,rfl,lk,hcd⟩:=F.ex
 exact .all (h kV doc pm an cdv ct)
theorem Kn {x qual:Str} {st:Stmt} {f:Addr} {oc:Value} {od an:Option Addr} {osl:Array (Option Value)} {kV doc pm cdv ct:Value} (l:K.lookup f=some ⟨oc,od,.func (PySem.W.fnOf x qual (Jv st) (ZB st) (Qo st) .none kV doc pm an cdv ct),osl⟩)
  (c:PySem.W.codeIn K cdv qual=true) (k:PySem.W.keepIn K (.ref f)=true):Fun K x qual st f (PySem.W.fnOf x qual (Jv st) (ZB st) (Qo st) .none kV doc pm an cdv ct):=⟨⟨oc,od,kV,doc,pm,an,cdv,ct,osl,rfl,l,c⟩,k⟩
end
theorem Zg {A:Around} {k:Nat} (hr:Room k A):A.units+1 < cLine:=By (Nat.add_le_add_left (by decide:1<=64) _) hr.units
section
variable {X:Cx}
end
theorem GO {A B:Prop} (h:B):if false=true then A else B:=by
 rw [C7 Bz]
 exact h
theorem GP {A B:Prop} (h:A):if true=true then A else B:=by
 rw [C8 rfl]
 exact h
end L2
set_option maxHeartbeats 4000000
namespace L2
open PySem PySem.Spec PyProof.Rows
section
variable {κ:Type} [DecidableEq κ]
def XI (kvs:List (κ×V)) (k:κ):Option V:=(kvs.find? fun kv=>decide (kv.1=k)).map (·.2)
def jF (kvs:List (κ×V)) (k:κ) (v:V):List (κ×V) :=
 if (kvs.any fun kv=>decide (kv.1=k))=true then kvs.map (fun kv=>if kv.1=k then (kv.1,v) else kv) else kvs++[(k,v)]
def jg (kvs:List (κ×V)) (k:κ):List (κ×V):=kvs.filter fun kv=>decide (kv.1≠k)
theorem VE {p:κ×V} {r:List (κ×V)} {k:κ} (e:p.1=k):XI (p::r) k=some p.2:=by simp [XI,B8,e]
theorem VD {p:κ×V} {r:List (κ×V)} {k:κ} (e:¬ p.1=k):XI (p::r) k=XI r k:=by simp [XI,B8,e]
theorem vp (k:κ):∀ kvs:List (κ×V),(kvs.any fun kv=>decide (kv.1=k))=(XI kvs k).isSome
  | []=>rfl
  | p::r=>by
    rw [List.any_cons]
    by_cases e:p.1=k
    . simp only [VE e,Ec e,Bool.true_or,Option.isSome_some]
    . rw [VD e,Ee e,Bool.false_or];exact vp k r
theorem xE (kvs:List (κ×V)) (k:κ) (v:V):(jF kvs k v).length<=kvs.length+1:=by
 unfold jF
 split
 ·rw [Br];lia
 ·rw [An,Ba,List.length_nil];lia
theorem RelO.isSome_eq {o:Option V} {u:Option Value} (r:RelO o u):o.isSome=u.isSome:=by
  cases o with
  | none=>cases u with
    | none=>rfl
    | some _=>exact (show False from r).elim
  | some _=>cases u with
    | none=>exact (show False from r).elim
    | some _=>rfl
theorem RelO.getD {o:Option V} {u:Option Value} (r:RelO o u) (rd:RelV d d'):RelV (o.getD d) (u.getD d'):=by
  cases o with
  | none=>cases u with
    | none=>exact rd
    | some _=>exact (show False from r).elim
  | some _=>cases u with
    | none=>exact (show False from r).elim
    | some _=>exact r
theorem KV.val {kvs:List (κ×V)} {vs:List (κ×Value)} (r:KV kvs vs) (k:κ):RelO (XI kvs k) (valueAt vs k):=by
  unfold KV at r
  induction r with
  | nil=>exact True.intro
  | @cons p q ps qs h t ih =>
    obtain ⟨h1,h2⟩:=h
    by_cases e:p.1=k
    . have e':q.1=k:=h1.symm.trans e
      have b:valueAt (q::qs) k=some q.2:=by simp [valueAt,B8,e']
      rw [VE e,b];exact h2
    . have e':¬ q.1=k:=fun z=>e (h1.trans z)
      have b:valueAt (q::qs) k=valueAt qs k:=by simp [valueAt,B8,e']
      rw [VD e,b];exact ih
theorem KV.any {kvs:List (κ×V)} {vs:List (κ×Value)} (r:KV kvs vs) (k:κ):(kvs.any fun kv=>decide (kv.1=k))=vs.any fun kv=>decide (kv.1=k):=by
 unfold KV at r
 induction r with
 | nil=>rfl
 | cons h t ih=>rw [List.any_cons,List.any_cons,ih,h.1]
theorem KV.repl {kvs:List (κ×V)} {vs:List (κ×Value)} (r:KV kvs vs) (k:κ) (ry:RelV y u):
    KV (kvs.map fun kv=>if kv.1=k then (kv.1,y) else kv) (vs.map fun kv=>if kv.1=k then (kv.1,u) else kv):=by
  unfold KV at r ⊢
  induction r with
  | nil=>exact .nil
  | @cons p q ps qs h t ih =>
    rw [Bb,Bb]
    refine .cons ?_ ih
    obtain ⟨h1,h2⟩:=h
    by_cases e:p.1=k
    . rw [C8 e,C8 (h1.symm.trans e)];exact ⟨h1,ry⟩
    . rw [C7 e,C7 (fun z=>e (h1.trans z))];exact ⟨h1,h2⟩
theorem KV.put {kvs:List (κ×V)} {vs:List (κ×Value)} (r:KV kvs vs) (k:κ) (ry:RelV y u):KV (jF kvs k y) (stored vs k u):=by
 unfold jF stored
 rw [r.any k]
 by_cases e:(vs.any fun kv=>decide (kv.1=k))=true
 ·rw [C8 e,C8 e];exact r.repl k ry
 ·rw [C7 e,C7 e];exact Paired.snoc r ⟨rfl,ry⟩
theorem KV.drop {kvs:List (κ×V)} {vs:List (κ×Value)} (r:KV kvs vs) (k:κ):KV (jg kvs k) (without vs k):=by
  unfold KV at r ⊢
  unfold jg without
  induction r with
  | nil=>exact .nil
  | @cons p q ps qs h t ih =>
    obtain ⟨h1,h2⟩:=h
    rw [As,As]
    by_cases e:p.1=k
    . have a:¬ decide (p.1≠k)=true:=by simp [e]
      have b:¬ decide (q.1≠k)=true:=by simp [h1.symm.trans e]
      rw [C7 a,C7 b];exact ih
    . have e':¬ q.1=k:=fun z=>e (h1.trans z)
      have a:decide (p.1≠k)=true:=by simp [e]
      have b:decide (q.1≠k)=true:=by simp [e']
      rw [C8 a,C8 b];exact .cons ⟨h1,h2⟩ ih
def KV.length {kvs:List (κ×V)} {vs:List (κ×Value)} (r:KV kvs vs):kvs.length=vs.length:=Paired.length r
def Gx (kvs:List (κ×V)) (k:κ):(jg kvs k).length<=kvs.length:=Cb _ _
end
theorem xB {w:World} (r:RelV (kV k) u):(ZD P w).is k u=true:=by
 cases k with
 | inl i=>obtain ⟨t,e⟩:=(show ∃ t,u=Value.int i t from r);subst e;exact GU P w i t
 | inr x=>obtain ⟨t,e⟩:=(show ∃ t,u=Value.str x t from r);subst e;exact GV P w x t
theorem Ut {w:World}:∀ {ks:List Key} {us:List Value},Vals (ks.map kV) us->ItemsAre (ZD P w) ks us
  | [],_,r=>by rw [List.map_nil] at r;cases r;exact .nil
  | k::ks,_,r=>by
    rw [Bb] at r
    cases r with
    | cons h t=>exact .cons (xB h) (Ut t)
abbrev KT (H:Hp):List (List Key×V)->List (List Key×Addr×Value)->Prop:=Paired fun p q=>p.1=q.1/\H q.2.1=some (.tup (p.1.map kV))/\RelV p.2 q.2.2
theorem KT.val {kvs:List (List Key×V)} {xs:List (List Key×Addr×Value)} (r:KT H kvs xs) (k:List Key):RelO (XI kvs k) ((atKey xs k).map (·.2)):=by
  induction r with
  | nil=>exact True.intro
  | @cons p q ps qs h t ih =>
    obtain ⟨h1,_,h2⟩:=h
    by_cases e:p.1=k
    . have e':q.1=k:=h1.symm.trans e
      have b:atKey (q::qs) k=some q.2:=by simp [atKey,B8,e']
      rw [VE e,b];exact h2
    . have e':¬ q.1=k:=fun z=>e (h1.trans z)
      have b:atKey (q::qs) k=atKey qs k:=by simp [atKey,B8,e']
      rw [VD e,b];exact ih
theorem KT.repl {kvs:List (List Key×V)} {xs:List (List Key×Addr×Value)} (r:KT H kvs xs) (k:List Key) (ry:RelV y u):
    KT H (kvs.map fun kv=>if kv.1=k then (kv.1,y) else kv) (xs.map (putAt k u)):=by
  induction r with
  | nil=>exact .nil
  | @cons p q ps qs h t ih =>
    rw [Bb,Bb]
    refine .cons ?_ ih
    obtain ⟨h1,h2,h3⟩:=h
    unfold putAt
    by_cases e:p.1=k
    . rw [C8 e,C8 (h1.symm.trans e)];exact ⟨h1,h2,ry⟩
    . rw [C7 e,C7 (fun z=>e (h1.trans z))];exact ⟨h1,h2,h3⟩
theorem KT.put {H:Hp} {kvs:List (List Key×V)} {xs:List (List Key×Addr×Value)} (r:KT H kvs xs) (k:List Key) {b:Addr} (hb:H b=some (.tup (k.map kV))) (ry:RelV y u):
  KT H (jF kvs k y) (storedH xs k b u):=by
 have e:(kvs.any fun kv=>decide (kv.1=k))=(atKey xs k).isSome:=by
  rw [vp,(r.val k).isSome_eq,Option.isSome_map]
 unfold jF storedH
 rw [e]
 by_cases q:(atKey xs k).isSome=true
 ·rw [C8 q,C8 q];exact r.repl k ry
 ·rw [C7 q,C7 q];exact Paired.snoc r ⟨rfl,hb,ry⟩
theorem KT.keeps {H H':Hp} {kvs:List (List Key×V)} {xs:List (List Key×Addr×Value)} (r:KT H kvs xs) (ht:∀ b ys,H b=some (.tup ys)->H' b=some (.tup ys)):KT H' kvs xs :=
 Paired.mapP r fun _ _ z=>⟨z.1,ht _ _ z.2.1,z.2.2⟩
section
variable {P:Program} {w:World} {H:Hp} {h:Heap} {a:Addr}
def QeL (ok:HOk P w H h) (e:Rd H a u):ObjOk P w H h a u:=e.ok ok
theorem Uk {kvs:List (Key×V)} (ok:HOk P w H h) (e:Rd H a (.dK kvs)):kvs.length<=sizeLine/\(a==sysModules)=false/\∃ vs,KV kvs vs/\h.DictOf (ZD P w) a vs :=
 show ObjOk P w H h a (.dK kvs) from QeL ok e
def Uj {kvs:List (Key×V)} (ok:HOk P w H h) (e:H a=some (.dK kvs)):kvs.length<=sizeLine/\(a==sysModules)=false/\∃ vs,KV kvs vs/\h.DictOf (ZD P w) a vs:=Uk ok (.inl e)
theorem yP {ks:List Key} (ok:HOk P w H h) (e:H a=some (.tup (ks.map kV))):(tupleKind (ZD P w)).is h ks a:=by
 obtain ⟨_,its,r,o,h1,h2,n,h3⟩:=(show ObjOk P w H h a (.tup (ks.map kV)) from ok a _ e)
 exact ⟨o,its.toArray,n,h1,h2,h3,by simpa using Ut r⟩
theorem Gy {kvs:List (List Key×V)} (ok:HOk P w H h) (e:Rd H a (.dT kvs)):kvs.length<=sizeLine/\(a==sysModules)=false /\
    ∃ xs,KT H kvs xs/\h.DictOfH (tupleKind (ZD P w)) a xs:=by
  obtain ⟨z,y,xs,r,o,es,ep,h1,h2,h3,h4,h5⟩:=(show ObjOk P w H h a (.dT kvs) from QeL ok e)
  refine ⟨z,y,xs,r,o,es,ep,h1,h2,h3,h4,fun x hx=>?_,h5⟩
  have all:∀ {l:List (List Key×V)} {m:List (List Key×Addr×Value)},KT H l m->∀ x∈m,(tupleKind (ZD P w)).is h x.1 x.2.1:=by
    intro l m q
    induction q with
    | nil=>intro x hx;exact nomatch hx
    | @cons p q ps qs hq t ih =>
      intro x hx
      rcases Bk.mp hx with e | hx
      . subst e
        exact yP ok (by rw [<- hq.1];exact hq.2.1)
      . exact ih x hx
  exact all r x hx
theorem Yb {kvs:List (List Key×V)} (ok:HOk P w H h) (e:H a=some (.dT kvs)):kvs.length<=sizeLine/\(a==sysModules)=false /\
  ∃ xs,KT H kvs xs/\h.DictOfH (tupleKind (ZD P w)) a xs:=Gy ok (.inl e)
end
def DGet (H:Hp) (a:Addr) (y:V) (r:Option V):Prop :=
 (∃ kvs k,Rd H a (.dK kvs)/\y=kV k/\r=XI kvs k)∨∃ kvs k b,Rd H a (.dT kvs)/\y=.ref b/\H b=some (.tup (k.map kV))/\r=XI kvs k
def DPut (H:Hp) (a:Addr) (y v:V) (H':Hp):Prop :=
 (∃ kvs k,H a=some (.dK kvs)/\y=kV k/\kvs.length < sizeLine/\H'=upd H a (.dK (jF kvs k v))) ∨
 ∃ kvs k b,H a=some (.dT kvs)/\y=.ref b/\H b=some (.tup (k.map kV))/\kvs.length < sizeLine/\H'=upd H a (.dT (jF kvs k v))
def DGet.k {H:Hp} {a:Addr} {kvs:List (Key×V)} {k:Key} (e:H a=some (.dK kvs)):DGet H a (kV k) (XI kvs k):=.inl ⟨kvs,k,.inl e,rfl,rfl⟩
def DPut.k {H:Hp} {a:Addr} {kvs:List (Key×V)} {k:Key} {v:V} (e:H a=some (.dK kvs)) (hl:kvs.length < sizeLine):DPut H a (kV k) v (upd H a (.dK (jF kvs k v))):=.inl ⟨kvs,k,e,rfl,hl,rfl⟩
section
variable {X:Cx} {O9:Eh} {σ:St} {H:Hp} {s:Shared} {a:Addr} {y v:V} {u r:Value} {o:Option V} {A:Around} {E:Eg}
theorem Inv.big (I:Inv X O9 σ H s):sysModules < s.heap.objs.size:=by
 have h:mainGlobals < s.heap.objs.size:=(I.mod.glob.keeps I.bk).lt
 exact Nat.lt_trans (by decide) h
theorem kY {Q:Eg} (hu:A.units+1 < cLine) (I:Inv X O9 σ H s) (g:DGet H a y (some v)) (ry:RelV y u) (h:∀ w' s',Inv X O9 σ H s'->RelV v w'->Q w' s'):
  wpAny (model X.prog X.w) A (getItem (.ref a) u) Q E s:=by
 rcases g with ⟨kvs,k,e,ey,l⟩ | ⟨kvs,k,b,e,ey,eb,l⟩
 ·subst ey
  obtain ⟨z,hd,vs,rel,dd⟩:=Uk I.hok e
  obtain ⟨w',hw,rw'⟩:=RelO.some_of (v:=v) (o:=valueAt vs k) (by rw [l];exact rel.val k)
  exact wpAny_getItem_of (xB ry) dd.mapOf hw (h w' _ (I.tok _) rw')
 ·subst ey
  cases (show u=Value.ref b from ry)
  obtain ⟨z,hd,xs,rel,dd⟩:=Gy I.hok e
  obtain ⟨w',hw,rw'⟩:=RelO.some_of (v:=v) (o:=(atKey xs k).map (·.2)) (by rw [l];exact rel.val k)
  obtain ⟨p,U,hp2⟩:=Cg.mp hw
  refine wpAny_getItem_heap (tupleKind_room_in1 hu) (yP I.hok eb) dd U ?_
  rw [hp2]
  exact h w' _ (I.tok _) rw'
theorem yd {h':Heap} {t':Nat} (I:Inv X O9 σ H s) (mu:Mut (H a)) (hs:Heap.SameBut a s.heap h') (he:∃ q,h'.get? a=some q) (new:ObjOk X.prog X.w (upd H a ob) h' a ob):
  Inv X O9 σ (upd H a ob) { s with heap:=h',toks:=t' } :=
 I.write (x:=a) (e:=a) mu (.inl rfl) (fun b q hb z=>(hs.2 b hb).trans z) he new
theorem vR {w:World} {H':Hp} {h':Heap} {kvs:List (Key×V)} {vs:List (Key×Value)} (z:kvs.length<=sizeLine) (hd:(a==sysModules)=false) (rel:KV kvs vs) (dd:h'.DictOf (ZD P w) a vs):
  ObjOk P w H' h' a (.dK kvs):=⟨z,hd,vs,rel,dd⟩
theorem kZ {Q:Unit->Shared->Prop} (hu:A.units+1 < cLine) (I:Inv X O9 σ H s) (g:DPut H a y v H') (ry:RelV y u) (rv:RelV v r) (h:∀ s',Inv X O9 σ H' s'->Q () s'):
  wpAny (model X.prog X.w) A (setItem (.ref a) u r) Q E s:=by
 rcases g with ⟨kvs,k,e,ey,l,eH⟩ | ⟨kvs,k,b,e,ey,eb,l,eH⟩
 ·subst ey eH
  obtain ⟨z,hd,vs,rel,dd⟩:=Uj I.hok e
  have hz:vs.length<=sizeLine:=by rw [<- rel.length];exact z
  have hl:(jF kvs k v).length<=sizeLine:=by have:=xE kvs k v;lia
  refine wpAny_setItem_pairs (hsz:=hz) (xB ry) dd fun h' dd' hs=>h _ ?_
  have he:∃ q,h'.get? a=some q:=let ⟨q,_,_,hq,_⟩:=dd';⟨q,hq⟩
  exact yd I (by rw [e];exact True.intro) hs he (vR hl hd (rel.put k rv) dd')
 ·subst ey eH
  cases (show u=Value.ref b from ry)
  obtain ⟨z,hd,xs,rel,dd⟩:=Yb I.hok e
  have hz:xs.length<=sizeLine:=by rw [<- Paired.length rel];exact z
  have hl:(jF kvs k v).length<=sizeLine:=by have:=xE kvs k v;lia
  refine wpAny_setItem_heap (hsz:=hz) (tupleKind_room_in1 hu) (yP I.hok eb) dd fun h' dd' hs=>h _ ?_
  obtain ⟨q,es,ep,hq,h2,h3,h4,_,h5⟩:=dd'
  refine yd I (by rw [e];exact True.intro) hs ⟨q,hq⟩ ⟨hl,hd,_,(rel.put k eb rv).keeps fun c ys ec=>?_,q,es,ep,hq,h2,h3,h4,h5⟩
  rw [QI (QgU ec e (fun z=>nomatch z))]
  exact ec
end
section
variable {X:Cx} {O9:Eh} {σ:St} {H:Hp} {s:Shared} {a:Addr} {kvs:List (Key×V)} {k:Key} {u:Value} {A:Around} {E:Eg}
theorem Qgo {Q:Unit->Shared->Prop} (I:Inv X O9 σ H s) (e:H a=some (.dK kvs)) (ry:RelV (kV k) u) (l:(XI kvs k).isSome=true) (h:∀ s',Inv X O9 σ (upd H a (.dK (jg kvs k))) s'->Q () s'):
  wpAny (model X.prog X.w) A (delItem (.ref a) u) Q E s:=by
 obtain ⟨z,hd,vs,rel,dd⟩:=Uj I.hok e
 refine wpAny_delItem_slot dd.typeIs (by decide) PySem.F.slot_dict_delitem
  (call_meetsIn PySem.F.slot_dict_delitem dd.typeIs PySem.F.entry_dict_delitem (PySem.F.args_dict_delitem_2 _ _) (meets_dict_delitem_pairs (ZD X.prog X.w) a (xB ry)) ⟨vs,dd,by rw [<- rel.length];exact z,by rw [<- (rel.val k).isSome_eq];exact l,fun h' dd' hs=>h _ ?_⟩)
 have he:∃ q,h'.get? a=some q:=let ⟨q,_,_,hq,_⟩:=dd';⟨q,hq⟩
 exact yd I (by rw [e];exact True.intro) hs he (vR (Bj (Gx kvs k) z) hd (rel.drop k) dd')
theorem Qew {more:List Value} {Q:Eg} (I:Inv X O9 σ H s) (e:H a=some (.dK kvs)) (ry:RelV (kV k) u) (l:XI kvs k=some v) (hm:more=[]∨∃ x,more=[x])
  (h:∀ w' s',Inv X O9 σ (upd H a (.dK (jg kvs k))) s'->RelV v w'->Q w' s'):wpAny (model X.prog X.w) A (call (.builtin "dict.pop") (.ref a::u::more)) Q E s:=by
 obtain ⟨z,hd,vs,rel,dd⟩:=Uj I.hok e
 obtain ⟨w',hw,rw'⟩:=RelO.some_of (v:=v) (o:=valueAt vs k) (by rw [<- l];exact rel.val k)
 have U:(keyPart u).isSome=true:=by
  cases k with
  | inl i=>obtain ⟨t,q⟩:=(show ∃ t,u=Value.int i t from ry);subst q;rfl
  | inr x=>obtain ⟨t,q⟩:=(show ∃ t,u=Value.str x t from ry);subst q;rfl
 have ha:argsOk "dict.pop" ⟨.ref a::u::more,[]⟩:=by
  rcases hm with q | ⟨x,q⟩
  ·subst q;exact PySem.F.args_dict_pop_2 _ _
  ·subst q;exact PySem.F.args_dict_pop_3 _ _ _
 refine call_meetsIn PySem.F.slot_dict_pop dd.typeIs PySem.F.entry_dict_pop ha (meets_dict_pop_there (ZD X.prog X.w) a (xB ry) more hm U)
  ⟨vs,w',dd,by rw [<- rel.length];exact z,hw,fun h' dd' hs=>h w' _ ?_ rw'⟩
 have he:∃ q,h'.get? a=some q:=let ⟨q,_,_,hq,_⟩:=dd';⟨q,hq⟩
 exact yd I (by rw [e];exact True.intro) hs he (vR (Bj (Gx kvs k) z) hd (rel.drop k) dd')
theorem QeZ {Q:Eg} (I:Inv X O9 σ H s) (e:H a=some (.dK kvs)) (ry:RelV (kV k) u) (l:XI kvs k=none) (h:∀ s',Inv X O9 σ H s'->Q r s'):
  wpAny (model X.prog X.w) A (call (.builtin "dict.pop") [.ref a,u,r]) Q E s:=by
 obtain ⟨z,hd,vs,rel,dd⟩:=Uj I.hok e
 have hn:valueAt vs k=none:=RelO.none_of (by rw [<- l];exact rel.val k)
 have U:(keyPart u).isSome=true:=by
  cases k with
  | inl i=>obtain ⟨t,q⟩:=(show ∃ t,u=Value.int i t from ry);subst q;rfl
  | inr x=>obtain ⟨t,q⟩:=(show ∃ t,u=Value.str x t from ry);subst q;rfl
 exact call_meetsIn PySem.F.slot_dict_pop dd.typeIs PySem.F.entry_dict_pop (PySem.F.args_dict_pop_3 _ _ _) (meets_dict_pop_default (ZD X.prog X.w) a (xB ry) hd U r) ⟨vs,dd,hn,h _ (I.tok _)⟩
theorem Qgx {Q:Eg} (I:Inv X O9 σ H s) (e:Rd H a (.dK kvs)) (h:∀ t s',Inv X O9 σ H s'->Q (.int kvs.length t) s'):wpAny (model X.prog X.w) A (call (.builtin "len") [.ref a]) Q E s:=by
 obtain ⟨z,hd,vs,rel,dd⟩:=Uk I.hok e
 refine call_len_dict hd dd (by rw [<- rel.length];rw [sizeLine_eq] at z;lia) ?_
 rw [<- rel.length]
 exact h _ _ (I.tok _)
end
theorem Gu {s:Shared} {a:Addr} {o:Option V} (I:Inv X O9 σ H s) (g:DGet H a y o):s.TypeIs (.ref a) "dict" := by
 rcases g with ⟨kvs,k,e,_,_⟩ | ⟨kvs,k,b,e,_,_,_⟩
 ·obtain ⟨_,_,vs,_,dd⟩:=Uk I.hok e
  exact dd.typeIs
 ·obtain ⟨_,_,xs,_,dd⟩:=Gy I.hok e
  exact dd.typeIs
section
variable {X:Cx} {o i e value:Expr} {pos pos' tpos:Pos} {td ty tv:TE}
end
theorem Qbj {w:World} (h:Heap) (hb:sysModules < h.objs.size):ObjOk P w H (h.push { cls:=.type "dict", data:=.dict #[] }) h.objs.size (.dK []) :=
 ⟨Be _,beq_eq_false_iff_ne.mpr (Ne.symm (Bf hb)),[],.nil,Heap.DictOf.new h⟩
section
variable {X:Cx} {pos:Pos}
end
section
variable {X:Cx} {O9:Eh} {σ:St} {H:Hp} {s:Shared} {a:Addr} {y d:V} {u r:Value} {o:Option V} {A:Around} {E:Eg}
theorem QeX {Q:Eg} (hu:A.units+1 < cLine) (I:Inv X O9 σ H s) (g:DGet H a y o) (ry:RelV y u) (h:∀ w' s',Inv X O9 σ H s'->RelV (o.getD .non) w'->Q w' s'):
  wpAny (model X.prog X.w) A (call (.builtin "dict.get") [.ref a,u]) Q E s:=by
 rcases g with ⟨kvs,k,e,ey,l⟩ | ⟨kvs,k,b,e,ey,eb,l⟩
 ·subst ey
  obtain ⟨z,hd,vs,rel,dd⟩:=Uk I.hok e
  refine call_meetsIn PySem.F.slot_dict_get dd.typeIs PySem.F.entry_dict_get (PySem.F.args_dict_get_2 _ _) (meets_dict_get (ZD X.prog X.w) a (xB ry) hd) ⟨_,dd.mapOf,h _ _ (I.tok _) ?_⟩
  rw [l]
  exact (rel.val k).getD rfl
 ·subst ey
  cases (show u=Value.ref b from ry)
  obtain ⟨z,hd,xs,rel,dd⟩:=Gy I.hok e
  refine call_meetsIn PySem.F.slot_dict_get dd.typeIs PySem.F.entry_dict_get (PySem.F.args_dict_get_2 _ _) (meetsH_dict_get (tupleKind (ZD X.prog X.w)) a b hd) ⟨tupleKind_room_in1 hu,k,xs,yP I.hok eb,dd,h _ _ (I.tok _) ?_⟩
  rw [l]
  exact (rel.val k).getD rfl
theorem QeY {Q:Eg} (hu:A.units+1 < cLine) (I:Inv X O9 σ H s) (g:DGet H a y o) (ry:RelV y u) (rd:RelV d r) (h:∀ w' s',Inv X O9 σ H s'->RelV (o.getD d) w'->Q w' s'):
  wpAny (model X.prog X.w) A (call (.builtin "dict.get") [.ref a,u,r]) Q E s:=by
 rcases g with ⟨kvs,k,e,ey,l⟩ | ⟨kvs,k,b,e,ey,eb,l⟩
 ·subst ey
  obtain ⟨z,hd,vs,rel,dd⟩:=Uk I.hok e
  refine call_meetsIn PySem.F.slot_dict_get dd.typeIs PySem.F.entry_dict_get (PySem.F.args_dict_get_3 _ _ _) (meets_dict_get_default (ZD X.prog X.w) a (xB ry) hd r) ⟨_,dd.mapOf,h _ _ (I.tok _) ?_⟩
  rw [l]
  exact (rel.val k).getD rd
 ·subst ey
  cases (show u=Value.ref b from ry)
  obtain ⟨z,hd,xs,rel,dd⟩:=Gy I.hok e
  refine call_meetsIn PySem.F.slot_dict_get dd.typeIs PySem.F.entry_dict_get (PySem.F.args_dict_get_3 _ _ _) (meetsH_dict_get_default (tupleKind (ZD X.prog X.w)) a b hd r) ⟨tupleKind_room_in1 hu,k,xs,yP I.hok eb,dd,h _ _ (I.tok _) ?_⟩
  rw [l]
  exact (rel.val k).getD rd
end
section
variable {X:Cx} {o e f:Expr} {apos cpos:Pos} {td ty tx:TE}
end
section
variable {X:Cx} {O9:Eh} {σ:St} {H:Hp} {s:Shared} {a:Addr} {kvs:List (Key×V)} {A:Around} {E:Eg}
end
section
variable {X:Cx} {O9:Eh} {σ:St} {H:Hp} {s:Shared} {a:Addr} {y:V} {u:Value} {A:Around} {E:Eg}
end
section
variable {X:Cx}
theorem kR:CallR X (.builtin "len") (fun xs H Q=>∃ a kvs,xs=[V.ref a]/\H a=some (.dK kvs)/\Q (.int kvs.length) H):=by
 intro O9 s σ H xs us Q I r h
 obtain ⟨a,kvs,rfl,ha,q⟩:=h
 obtain ⟨u,rfl,ru⟩:=VF r
 cases ru
 exact Qgx I (.inl ha) fun t s' I'=>⟨.int kvs.length,H,I',⟨t,rfl⟩,q⟩
end
section
variable {κ:Type} [DecidableEq κ]
end
end L2
namespace D
open PySem PySem.Spec PyProof.Rows L2
abbrev St:=L2.St
inductive DV where
 | non | bl (b:Bool) | int (i:Int) | str (x:Str) | tup (xs:List DV) | lst (xs:List DV) | ref (i:Nat)
inductive OV where
 | lst (xs:List DV)
 | dic (kvs:List (Key×DV))
 | ins (c:Str) (fs:List (Str×DV))
abbrev Hs:=List OV
abbrev M:=StateT Hs Option
abbrev Ep:=List DV->M DV
mutual
def RepV (K:Aa) (ρ:Eo) (B:Em) (H:Hp):DV->V->Prop
 | .non,v=>v=.non
 | .bl b,v=>v=.bl b
 | .int i,v=>v=.int i
 | .str x,v=>v=.str x
 | .tup ds,v=>∃ a xs,v=.ref a/\¬ B a/\SqT K H a xs/\RepL K ρ B H ds xs
 | .lst ds,v=>∃ a xs,v=.ref a/\¬ B a/\SqL K H a xs/\RepL K ρ B H ds xs
 | .ref i,v=>∃ a,v=.ref a/\ρ[i]?=some a
def RepL (K:Aa) (ρ:Eo) (B:Em) (H:Hp):List DV->List V->Prop
 | [],xs=>xs=[]
 | d::ds,xs=>∃ x r,xs=x::r/\RepV K ρ B H d x/\RepL K ρ B H ds r
end
def ORep (K:Aa) (ρ:Eo) (B:Em) (H:Hp) (a:Addr):OV->Prop
 | .lst ds=>∃ xs,H a=some (.lst xs)/\RepL K ρ B H ds xs
 | .dic kvs=>∃ xs:List (Key×V),H a=some (.dK xs)/\xs.map (·.1)=kvs.map (·.1)/\RepL K ρ B H (kvs.map (·.2)) (xs.map (·.2))
 | .ins c fs=>∃ (C dx:Addr) (xs:List (Str×V)),PySem.W.nsIn K mainGlobals c=some (some (.ref C))/\H a=some (.ins C dx xs)/\xs.map (·.1)=fs.map (·.1)/\RepL K ρ B H (fs.map (·.2)) (xs.map (·.2))
structure Gr (K:Aa) (ρ:Eo) (B:Em) (H:Hp) (ρ':Eo) (B':Em) (H':Hp):Prop where
 pre:ρ <+: ρ'
 ban:∀ a,B a->B' a
 new:∀ a,B' a->B a∨(H a=none/\K.lookup a=none)
 rnew:∀ a∈ρ',a∈ρ∨H a=none
 keep:∀ a o,a∉ρ->H a=some o->H' a=some o
 trk:∀ a,H' a=none->H a=none
structure WOk (K:Aa) (ρ:Eo) (B:Em) (U:Hs) (H:Hp):Prop where
 len:ρ.length=U.length
 nd:ρ.Nodup
 obj:∀ (i:Nat) (a:Addr) (o:OV),ρ[i]?=some a->U[i]?=some o->ORep K ρ B H a o
 rb:∀ a∈ρ,B a
 bt:∀ a,B a->H a≠none
 bk:∀ a,B a->K.lookup a=none
section
variable {K:Aa} {ρ ρ' ρ'':Eo} {B B' B'':Em} {H H' H'':Hp}
def Gr.refl:Gr K ρ B H ρ B H:=⟨Cm,fun _ h=>h,fun _ h=>.inl h,fun _ h=>.inl h,fun _ _ _ h=>h,fun _ h=>h⟩
theorem Gr.trans (a:Gr K ρ B H ρ' B' H') (b:Gr K ρ' B' H' ρ'' B'' H''):Gr K ρ B H ρ'' B'' H'' where
 pre:=a.pre.trans b.pre
 ban:=fun x h=>b.ban x (a.ban x h)
 new:=fun x h=>(b.new x h).elim (a.new x) fun z=>.inr ⟨a.trk x z.1,z.2⟩
 rnew:=fun x h=>(b.rnew x h).elim (a.rnew x) fun z=>.inr (a.trk x z)
 keep:=fun x o hn h=>b.keep x o (fun z=>(a.rnew x z).elim hn (fun z=>by rw [h] at z;cases z)) (a.keep x o hn h)
 trk:=fun x h=>a.trk x (b.trk x h)
structure Gs (K:Aa) (ρ:Eo) (B:Em) (H:Hp) (ρ':Eo) (B':Em) (H':Hp):Prop where
 pre:ρ <+: ρ'
 new:∀ a,B' a->B a∨(H a=none/\K.lookup a=none)
 keep:∀ a o,¬ B a->H a=some o->H' a=some o
 trk:∀ a,H' a=none->H a=none
def Gr.gs (rb:∀ a∈ρ,B a) (g:Gr K ρ B H ρ' B' H'):Gs K ρ B H ρ' B' H':=⟨g.pre,g.new,fun a o nb h=>g.keep a o (fun z=>nb (rb a z)) h,g.trk⟩
def Gs.refl:Gs K ρ B H ρ B H:=⟨Cm,fun _ h=>.inl h,fun _ _ _ h=>h,fun _ h=>h⟩
theorem Gs.trans (a:Gs K ρ B H ρ' B' H') (b:Gs K ρ' B' H' ρ'' B'' H''):Gs K ρ B H ρ'' B'' H'' where
 pre:=a.pre.trans b.pre
 new:=fun x h=>(b.new x h).elim (a.new x) fun z=>.inr ⟨a.trk x z.1,z.2⟩
 keep:=fun x o nb h=>b.keep x o (fun z=>(a.new x z).elim nb fun q=>by rw [h] at q;cases q.1) (a.keep x o nb h)
 trk:=fun x h=>a.trk x (b.trk x h)
theorem SqT.trk {a:Addr} (h:SqT K H a xs):H a≠none∨∃ o,K.lookup a=some o:=by
 rcases h with (h | ⟨o,h⟩) | ⟨o,_,_,h,_⟩
 ·exact .inl (by rw [h];simp)
 ·exact .inl (by rw [h];simp)
 ·exact .inr ⟨o,h⟩
theorem SqL.trk {a:Addr} (h:SqL K H a xs):H a≠none∨∃ o,K.lookup a=some o:=by
 rcases h with (h | ⟨o,h⟩) | ⟨o,_,_,h,_⟩
 ·exact .inl (by rw [h];simp)
 ·exact .inl (by rw [h];simp)
 ·exact .inr ⟨o,h⟩
theorem Gs.ok {a:Addr} (g:Gs K ρ B H ρ' B' H') (hb:¬ B a) (t:H a≠none∨∃ o,K.lookup a=some o):¬ B' a:=fun z =>
 (g.new a z).elim hb fun ⟨n,k⟩=>t.elim (fun q=>q n) fun ⟨o,q⟩=>by rw [k] at q;cases q
theorem Gs.sqT {a:Addr} (g:Gs K ρ B H ρ' B' H') (hr:¬ B a) (h:SqT K H a xs):SqT K H' a xs:=by
 rcases h with (h | ⟨o,h⟩) | h
 ·exact .inl (.inl (g.keep _ _ hr h))
 ·exact .inl (.inr ⟨o,g.keep _ _ hr h⟩)
 ·exact .inr h
theorem Gs.sqL {a:Addr} (g:Gs K ρ B H ρ' B' H') (hr:¬ B a) (h:SqL K H a xs):SqL K H' a xs:=by
 rcases h with (h | ⟨o,h⟩) | h
 ·exact .inl (.inl (g.keep _ _ hr h))
 ·exact .inl (.inr ⟨o,g.keep _ _ hr h⟩)
 ·exact .inr h
theorem gX {i:Nat} {a:Addr} (p:ρ <+: ρ') (h:ρ[i]?=some a):ρ'[i]?=some a:=by
 obtain ⟨t,rfl⟩:=p
 rw [Ah (Ac.mp h).1];exact h
mutual
theorem RepV.gs (g:Gs K ρ B H ρ' B' H'):∀ (d:DV) (v:V),RepV K ρ B H d v->RepV K ρ' B' H' d v
  | .non,_,h=>by unfold RepV at h ⊢;exact h
  | .bl _,_,h=>by unfold RepV at h ⊢;exact h
  | .int _,_,h=>by unfold RepV at h ⊢;exact h
  | .str _,_,h=>by unfold RepV at h ⊢;exact h
  | .ref _,_,h=>by
    unfold RepV at h ⊢
    obtain ⟨a,e,h⟩:=h
    exact ⟨a,e,gX g.pre h⟩
  | .tup ds,_,h=>by
    unfold RepV at h ⊢
    obtain ⟨a,xs,e,nb,sq,rl⟩:=h
    exact ⟨a,xs,e,g.ok nb (SqT.trk sq),g.sqT nb sq,RepL.gs g ds xs rl⟩
  | .lst ds,_,h=>by
    unfold RepV at h ⊢
    obtain ⟨a,xs,e,nb,sq,rl⟩:=h
    exact ⟨a,xs,e,g.ok nb (SqL.trk sq),g.sqL nb sq,RepL.gs g ds xs rl⟩
theorem RepL.gs (g:Gs K ρ B H ρ' B' H'):∀ (ds:List DV) (xs:List V),RepL K ρ B H ds xs->RepL K ρ' B' H' ds xs
  | [],_,h=>by unfold RepL at h ⊢;exact h
  | d::ds,_,h=>by
    unfold RepL at h ⊢
    obtain ⟨x,r,e,h1,h2⟩:=h
    exact ⟨x,r,e,RepV.gs g d x h1,RepL.gs g ds r h2⟩
end
def RepV.grow (rb:∀ a∈ρ,B a) (g:Gr K ρ B H ρ' B' H') (d:DV) (v:V) (h:RepV K ρ B H d v):RepV K ρ' B' H' d v:=RepV.gs (g.gs rb) d v h
def RepL.grow (rb:∀ a∈ρ,B a) (g:Gr K ρ B H ρ' B' H') (ds:List DV) (xs:List V) (h:RepL K ρ B H ds xs):RepL K ρ' B' H' ds xs:=RepL.gs (g.gs rb) ds xs h
theorem RepL.length:∀ {ds:List DV} {xs:List V},RepL K ρ B H ds xs->ds.length=xs.length
  | [],_,h=>by unfold RepL at h;subst h;rfl
  | d::ds,_,h=>by
    unfold RepL at h
    obtain ⟨x,r,rfl,_,h2⟩:=h
    simp [RepL.length h2]
theorem RepL.get:∀ {ds:List DV} {xs:List V} {i:Nat} {d:DV},RepL K ρ B H ds xs->ds[i]?=some d->∃ x,xs[i]?=some x/\RepV K ρ B H d x
  | [],_,_,_,_,e=>by simp at e
  | d::ds,_,0,_,h,e=>by
    unfold RepL at h
    obtain ⟨x,r,rfl,h1,_⟩:=h
    simp at e;subst e
    exact ⟨x,rfl,h1⟩
  | d::ds,_,i+1,_,h,e=>by
    unfold RepL at h
    obtain ⟨x,r,rfl,_,h2⟩:=h
    obtain ⟨y,h3,h4⟩:=RepL.get h2 (by simpa using e)
    exact ⟨y,by simpa using h3,h4⟩
theorem RepL.nil:RepL K ρ B H [] []:=by unfold RepL;rfl
theorem RepL.cons {d:DV} {x:V} (h:RepV K ρ B H d x) (t:RepL K ρ B H ds xs):RepL K ρ B H (d::ds) (x::xs):=by
 unfold RepL;exact ⟨x,xs,rfl,h,t⟩
theorem RepL.append:∀ {ds es:List DV} {xs ys:List V},RepL K ρ B H ds xs->RepL K ρ B H es ys->RepL K ρ B H (ds++es) (xs++ys)
  | [],_,_,_,h,t=>by unfold RepL at h;subst h;exact t
  | d::ds,_,_,_,h,t=>by
    unfold RepL at h
    obtain ⟨x,r,rfl,h1,h2⟩:=h
    exact RepL.cons h1 (RepL.append h2 t)
def RepL.one (h:RepV K ρ B H d x):RepL K ρ B H [d] [x]:=RepL.cons h RepL.nil
theorem RepL.take:∀ (n:Nat) {ds:List DV} {xs:List V},RepL K ρ B H ds xs->RepL K ρ B H (ds.take n) (xs.take n)
  | 0,_,_,_=>by simp;exact RepL.nil
  | _+1,[],_,h=>by unfold RepL at h;subst h;simp;exact RepL.nil
  | n+1,d::ds,_,h=>by
    unfold RepL at h
    obtain ⟨x,r,rfl,h1,h2⟩:=h
    exact RepL.cons h1 (RepL.take n h2)
theorem RepL.drop:∀ (n:Nat) {ds:List DV} {xs:List V},RepL K ρ B H ds xs->RepL K ρ B H (ds.drop n) (xs.drop n)
  | 0,_,_,h=>h
  | _+1,[],_,h=>by unfold RepL at h;subst h;simp;exact RepL.nil
  | n+1,d::ds,_,h=>by
    unfold RepL at h
    obtain ⟨x,r,rfl,h1,h2⟩:=h
    exact RepL.drop n h2
theorem Gr.laid {p:Addr} (h:H p=none):Gr K ρ B H ρ B (upd H p o) where
 pre:=Cm
 ban:=fun _ h=>h
 new:=fun _ h=>.inl h
 rnew:=fun _ h=>.inl h
 keep:=fun a u _ q=>by rw [QI (Zy q h)];exact q
 trk:=fun a q=>by
  by_cases e:a=p
  ·subst e;rw [Q3] at q;cases q
  ·rw [QI e] at q;exact q
theorem ORep.gs {a:Addr} (g:Gs K ρ B H ρ' B' H') (hk:H' a=H a) (h:ORep K ρ B H a o):ORep K ρ' B' H' a o:=by
  cases o with
  | lst ds =>
    obtain ⟨xs,e,rl⟩:=h
    exact ⟨xs,hk.trans e,RepL.gs g _ _ rl⟩
  | dic kvs =>
    obtain ⟨xs,e,ek,rl⟩:=h
    exact ⟨xs,hk.trans e,ek,RepL.gs g _ _ rl⟩
  | ins c fs =>
    obtain ⟨C,dx,xs,nc,e,ek,rl⟩:=h
    exact ⟨C,dx,xs,nc,hk.trans e,ek,RepL.gs g _ _ rl⟩
theorem WOk.laid {p:Addr} (W:WOk K ρ B U H) (h:H p=none):WOk K ρ B U (upd H p o) where
 len:=W.len
 nd:=W.nd
 obj:=fun i a u e q=>ORep.gs ((Gr.laid h).gs W.rb) (by
  have hb:=W.bt a (W.rb a (Aw e))
  exact QI (fun z=>hb (z▸h))) (W.obj i a u e q)
 rb:=W.rb
 bt:=fun a z q=>W.bt a z ((Gr.laid (K:=K) (ρ:=ρ) (B:=B) h).trk a q)
 bk:=W.bk
end
inductive Sl where
 | un | val (d:DV) | acc (ds:List DV)
abbrev En:=List Sl
structure Ent where
 ρ:List Addr
 B:Addr->Prop
 H:Hp
structure SOk (K:Aa) (Z:Ent) (env:En) (σ:St) (ρ:Eo) (B:Em) (U:Hs) (H:Hp):Prop where
 gr:Gr K Z.ρ Z.B Z.H ρ B H
 zb:∀ a,Z.B a->Z.H a≠none
 wo:WOk K ρ B U H
 slot:∀ (i:Nat) (d:DV),env[i]?=some (.val d)->∃ v,σ[i]?=some (some v)/\RepV K ρ B H d v
 accs:∀ (i:Nat) (ds:List DV),env[i]?=some (.acc ds)->∃ a xs,σ[i]?=some (some (.ref a))/\H a=some (.lst xs)/\Z.H a=none/\B a/\a∉ρ/\RepL K ρ B H ds xs
 adis:∀ (i j:Nat) (ds es:List DV) (a:Addr),env[i]?=some (.acc ds)->env[j]?=some (.acc es)->σ[i]?=some (some (.ref a))->σ[j]?=some (some (.ref a))->i=j
 len:σ.length=env.length
theorem SOk.grow {K:Aa} {Z:Ent} (S:SOk K Z env σ ρ B U H) (g:Gr K ρ B H ρ' B' H') (W:WOk K ρ' B' hp' H'):SOk K Z env σ ρ' B' hp' H' where
 gr:=S.gr.trans g
 zb:=S.zb
 wo:=W
 slot:=fun i d e=>let ⟨v,h1,h2⟩:=S.slot i d e;⟨v,h1,RepV.grow S.wo.rb g d v h2⟩
 accs:=fun i ds e=>by
  obtain ⟨a,xs,h1,h2,h3,h4,h5,h6⟩:=S.accs i ds e
  refine ⟨a,xs,h1,g.keep a _ h5 h2,h3,g.ban a h4,fun z=>?_,RepL.grow S.wo.rb g ds xs h6⟩
  rcases g.rnew a z with q | q
  ·exact h5 q
  ·rw [h2] at q;cases q
 adis:=S.adis
 len:=S.len
abbrev DEx:=En->M DV
abbrev DTx:=En->M Bool
abbrev DAx:=En->M (List DV)
inductive Fl where
 | nx | rt (d:DV) | bk | ct
abbrev DSx:=En->M (Fl×En)
def Fol (K:Aa) (ρ:Eo) (B:Em) (H:Hp) (d:DV) (hp':Hs) (Q:VK):Prop :=
 ∀ v ρ' B' H',Gr K ρ B H ρ' B' H'->WOk K ρ' B' hp' H'->RepV K ρ' B' H' d v->Q v H'
def Qgp (K:Aa) (ρ:Eo) (B:Em) (H:Hp) (hp':Hs) (Q:Hp->Prop):Prop :=
 ∀ ρ' B' H',Gr K ρ B H ρ' B' H'->WOk K ρ' B' hp' H'->Q H'
def Qhv (K:Aa) (ρ:Eo) (B:Em) (H:Hp) (ds:List DV) (hp':Hs) (Q:List V->Hp->Prop):Prop :=
 ∀ vs ρ' B' H',Gr K ρ B H ρ' B' H'->WOk K ρ' B' hp' H'->RepL K ρ' B' H' ds vs->Q vs H'
def tD (K:Aa) (f:DEx):TE:=fun σ H Q=>∃ Z env ρ B U d hp',SOk K Z env σ ρ B U H/\f env U=some (d,hp')/\Fol K ρ B H d hp' Q
def tDT (K:Aa) (f:DTx):TT:=fun σ H Q=>∃ Z env ρ B U d hp',SOk K Z env σ ρ B U H/\f env U=some (d,hp')/\Qgp K ρ B H hp' (Q d)
def tDA (K:Aa) (f:DAx):TA:=fun σ H Q=>∃ Z env ρ B U ds hp',SOk K Z env σ ρ B U H/\f env U=some (ds,hp')/\Qhv K ρ B H ds hp' Q
def DE (X:Cx) (e:Expr) (f:DEx):Prop:=PE X e (tD X.K f)
def DT (X:Cx) (e:Expr) (f:DTx):Prop:=PT X e (tDT X.K f)
def DW (X:Cx) (e:Expr) (f:DTx):Prop:=PW X e (tDT X.K f)
def DA (X:Cx) (es:List Expr) (f:DAx):Prop:=PA X es (tDA X.K f)
def FolS (K:Aa) (Z:Ent) (ρ:Eo) (B:Em) (H:Hp) (fl:Fl) (env':En) (hp':Hs) (D:U5):Prop :=
  ∀ σ' ρ' B' H', Gs K ρ B H ρ' B' H' -> SOk K Z env' σ' ρ' B' hp' H' -> match fl with
    | .nx=>D.nx σ' H'
    | .bk=>D.bk σ' H'
    | .ct=>D.ct σ' H'
    | .rt d=>∀ v,RepV K ρ' B' H' d v->D.rt v H'
def tDS (K:Aa) (f:DSx):TS:=fun D σ H=>∃ Z env ρ B U fl env' hp',SOk K Z env σ ρ B U H/\f env U=some ((fl,env'),hp')/\FolS K Z ρ B H fl env' hp' D
def DS (X:Cx) (st:Stmt) (f:DSx):Prop:=PS X st (tDS X.K f)
def DSs (X:Cx) (st:List Stmt) (f:DSx):Prop:=PSs X st (tDS X.K f)
section
variable {X:Cx}
def _root_.L2.PE.imp {t t':TE} (h:PE X e t) (i:∀ σ H Q,t' σ H Q->t σ H Q):PE X e t':=fun O9 s σ H Q I q=>h O9 s σ H Q I (i σ H Q q)
def _root_.L2.PT.imp {t t':TT} (h:PT X e t) (i:∀ σ H Q,t' σ H Q->t σ H Q):PT X e t':=fun O9 s σ H Q I q=>h O9 s σ H Q I (i σ H Q q)
def _root_.L2.PW.imp {t t':TT} (h:PW X e t) (i:∀ σ H Q,t' σ H Q->t σ H Q):PW X e t':=fun wh O9 s σ H Q I q=>h wh O9 s σ H Q I (i σ H Q q)
def _root_.L2.PA.imp {es:List Expr} {t t':TA} (h:PA X es t) (i:∀ σ H Q,t' σ H Q->t σ H Q):PA X es t':=fun pos O9 s σ H Q I q=>h pos O9 s σ H Q I (i σ H Q q)
def _root_.L2.PS.imp {st:Stmt} {t t':TS} (h:PS X st t) (i:∀ Dn σ H,t' Dn σ H->t Dn σ H):PS X st t':=fun O9 s σ H Dn I q=>h O9 s σ H Dn I (i Dn σ H q)
def _root_.L2.PSs.imp {st:List Stmt} {t t':TS} (h:PSs X st t) (i:∀ Dn σ H,t' Dn σ H->t Dn σ H):PSs X st t':=fun O9 s σ H Dn I q=>h O9 s σ H Dn I (i Dn σ H q)
def uT (K:Aa) (H:Hp):Prop:=∀ a o,H a=some o->K.lookup a=none
theorem Inv.kfree (I:Inv X O9 σ H s):uT X.K H:=fun a o e=>by
  cases q:X.K.lookup a with
  | none=>rfl
  | some ob =>
    have:=(I.bs a ob (I.ok.mod.kin a ob q)).2
    rw [e] at this;cases this
theorem _root_.L2.PE.kf {t:TE} (h:PE X e t):PE X e (fun σ H Q=>t σ H fun v H'=>uT X.K H'->Q v H'):=fun O9 s σ H Q I q =>
 thn (h O9 s σ H _ I q) fun u s' ⟨v,H',I',r,z⟩=>⟨v,H',I',r,z (Inv.kfree I')⟩
theorem Qe {α β:Type} {f:M α} {g:α->M β} {y:β} (h:(f >>= g) U=some (y,hp')):∃ x hp1,f U=some (x,hp1)/\g x hp1=some (y,hp'):=by
 change (f U).bind (fun p=>g p.1 p.2)=some (y,hp') at h
 cases q:f U with
 | none=>rw [q] at h;cases h
 | some p=>rw [q] at h;exact ⟨p.1,p.2,rfl,h⟩
theorem Qh {α:Type} {x y:α} {U hp':Hs} (h:(pure x:M α) U=some (y,hp')):x=y/\U=hp':=by
 change some (x,U)=some (y,hp') at h
 cases h;exact ⟨rfl,rfl⟩
theorem tD.run {K:Aa} {f:DEx} {Z:Ent} {Q:VK} (S:SOk K Z env σ ρ B U H) (e:f env U=some (d,hp1))
  (k:∀ v ρ' B' H',Gr K ρ B H ρ' B' H'->SOk K Z env σ ρ' B' hp1 H'->RepV K ρ' B' H' d v->Q v H'):tD K f σ H Q :=
 ⟨Z,env,ρ,B,U,d,hp1,S,e,fun v ρ' B' H' g W r=>k v ρ' B' H' g (S.grow g W) r⟩
def Qd (i:Nat):DEx:=fun env=>match env[i]? with
 | some (.val d)=>pure d
 | _=>failure
def eC (d:DV):DEx:=fun _=>pure d
theorem Qac {i:Nat} {env:En} {U hp':Hs} (h:Qd i env U=some (d,hp')):env[i]?=some (.val d)/\U=hp':=by
  unfold Qd at h
  cases q:env[i]? with
  | none=>rw [q] at h;cases h
  | some z =>
    rw [q] at h
    cases z with
    | val x=>obtain ⟨rfl,rfl⟩:=Qh h;exact ⟨rfl,rfl⟩
    | un=>cases h
    | acc _=>cases h
theorem Qa (i:Nat) {x:Str} {pos:Pos} (hN:X.N[i]?=some x:=by rfl) (hv:Vis X.env.scope x:=by first | exact Or.inl rfl | exact Or.inr (Or.inl rfl) | exact Or.inr (Or.inr rfl)) (hd:(x==("__debug__" : Str))=false:=by decide)
  (hcd:(x==("__classdict__" : Str))=false:=by decide):DE X (.Name x pos) (Qd i) :=
 (QfJ hN hv hd hcd).imp fun σ H Q zz1=>by
  obtain ⟨Z,env,ρ,B,U,d,hp',S,e,k⟩:=zz1
  obtain ⟨e1,rfl⟩:=Qac e
  obtain ⟨v,h1,h2⟩:=S.slot i d e1
  exact ⟨v,h1,k v ρ B H Gr.refl S.wo h2⟩
theorem qE (h:PE X e (tC v)) (r:∀ K ρ B H,RepV K ρ B H d v):DE X e (eC d) :=
 h.imp fun σ H Q zz1=>by
  obtain ⟨Z,env,ρ,B,U,d',hp',S,e,k⟩:=zz1
  obtain ⟨rfl,rfl⟩:=Qh e
  exact k v ρ B H Gr.refl S.wo (r _ _ _ _)
theorem Qp {i:Int} {j pos}:DE X (.Constant (.int i) j pos) (eC (.int i)):=qE QfE fun _ _ _ _=>by unfold RepV;rfl
theorem Xi {b:Bool} {j pos}:DE X (.Constant (.bool b) j pos) (eC (.bl b)):=qE Qg5 fun _ _ _ _=>by unfold RepV;rfl
theorem ZG {j pos}:DE X (.Constant .none j pos) (eC .non):=qE QfF fun _ _ _ _=>by unfold RepV;rfl
theorem Je {x:Str} {j pos}:DE X (.Constant (.str x) j pos) (eC (.str x)):=qE QfI fun _ _ _ _=>by unfold RepV;rfl
theorem Q8 {x:Str} {i:Int} {t:Tok} {pos:Pos} (hg:Gl X x) (hm:X.mg x=some (.int i t)) (hd:(x==("__debug__" : Str))=false:=by decide):DE X (.Name x pos) (eC (.int i)) :=
 qE (gR (v:=.int i) hg hm ⟨t,rfl⟩ hd) fun _ _ _ _=>by unfold RepV;rfl
def tP2 (K:Aa) (g:DV->DV->M DV):R2:=fun x y H Q=>∃ ρ B U dx dy d hp',WOk K ρ B U H/\RepV K ρ B H dx x/\RepV K ρ B H dy y/\g dx dy U=some (d,hp')/\Fol K ρ B H d hp' Q
def P2 (X:Cx) (f:Value->Value->Sem Value) (g:DV->DV->M DV):Prop:=OpR X f (tP2 X.K g)
def Qk (g:DV->DV->M DV) (a b:DEx):DEx:=fun env=>do let x <- a env;let y <- b env;g x y
variable {a b c:Expr} {fa fb fc:DEx} {pos:Pos}
theorem qF {K:Aa} {g:DV->DV->M DV} (h:tD K (Qk g fa fb) σ H Q):tOp (tP2 K g) (tD K fa) (tD K fb) σ H Q:=by
 obtain ⟨Z,env,ρ,B,U,d,hp',S,e,k⟩:=h
 obtain ⟨x,hp1,e1,e2⟩:=Qe e
 obtain ⟨y,hp2,e3,e4⟩:=Qe e2
 refine tD.run S e1 fun v ρ1 B1 H1 g1 S1 r1=>tD.run S1 e3 fun u ρ2 B2 H2 g2 S2 r2=>?_
 exact ⟨ρ2,B2,hp2,x,y,d,hp',S2.wo,RepV.grow S1.wo.rb g2 _ _ r1,r2,e4,fun w ρ' B' H' g W r=>k w ρ' B' H' (g1.trans (g2.trans g)) W r⟩
theorem QA {op:Operator} {g:DV->DV->M DV} (ho:P2 X (binaryOp op) g) (ha:DE X a fa) (hb:DE X b fb):DE X (.BinOp a op b pos) (Qk g fa fb) :=
 (Qg7 ho ha hb).imp fun _ _ _ h=>qF h
theorem j7 {op:CmpOp} {g:DV->DV->M DV} (ho:P2 X (compareOp op) g) (ha:DE X a fa) (hb:DE X b fb) (hm:behindInMarks op b=false):DE X (.Compare a [op] [b] pos) (Qk g fa fb) :=
 (QdG ho ha hb hm).imp fun _ _ _ h=>qF h
def asB:DV->M Bool
 | .bl b=>pure b
 | _=>failure
def eB (f:DEx):DTx:=fun env=>do asB (<- f env)
theorem Yz {d:DV} {c:Bool} {U hp':Hs} (h:asB d U=some (c,hp')):d=.bl c/\U=hp':=by
 cases d with
 | bl b=>obtain ⟨rfl,rfl⟩:=Qh h;exact ⟨rfl,rfl⟩
 | _=>cases h
theorem RepV.blI {K:Aa} {b:Bool} {v:V} (h:RepV K ρ B H (.bl b) v):v=.bl b:=by unfold RepV at h;exact h
theorem RepV.intI {K:Aa} {b:Int} {v:V} (h:RepV K ρ B H (.int b) v):v=.int b:=by unfold RepV at h;exact h
theorem RepV.strI {K:Aa} {b:Str} {v:V} (h:RepV K ρ B H (.str b) v):v=.str b:=by unfold RepV at h;exact h
theorem RepV.nonI {K:Aa} {v:V} (h:RepV K ρ B H .non v):v=.non:=by unfold RepV at h;exact h
theorem RepV.tupI {K:Aa} {B:Em} {v:V} (h:RepV K ρ B H (.tup ds) v):∃ a xs,v=.ref a/\¬ B a/\SqT K H a xs/\RepL K ρ B H ds xs:=by unfold RepV at h;exact h
theorem RepV.lstI {K:Aa} {B:Em} {v:V} (h:RepV K ρ B H (.lst ds) v):∃ a xs,v=.ref a/\¬ B a/\SqL K H a xs/\RepL K ρ B H ds xs:=by unfold RepV at h;exact h
theorem RepV.refI {K:Aa} {ρ:Eo} {i:Nat} {v:V} (h:RepV K ρ B H (.ref i) v):∃ a,v=.ref a/\ρ[i]?=some a:=by unfold RepV at h;exact h
section
variable {K:Aa} {ρ:Eo} {B:Em} {H:Hp}
theorem ZH {b:Bool}:RepV K ρ B H (.bl b) (.bl b):=by unfold RepV;rfl
theorem JQ {b:Int}:RepV K ρ B H (.int b) (.int b):=by unfold RepV;rfl
theorem zd:RepV K ρ B H .non .non:=by unfold RepV;rfl
theorem Ye {a:Addr} (h1:¬ B a) (h2:SqT K H a xs) (h3:RepL K ρ B H ds xs):RepV K ρ B H (.tup ds) (.ref a):=by unfold RepV;exact ⟨a,xs,rfl,h1,h2,h3⟩
theorem KL {a:Addr} (h1:¬ B a) (h2:SqL K H a xs) (h3:RepL K ρ B H ds xs):RepV K ρ B H (.lst ds) (.ref a):=by unfold RepV;exact ⟨a,xs,rfl,h1,h2,h3⟩
end
theorem Yb {e:Expr} (h:DE X e f) (he:∀ whole,isTrue e X.env whole=(do let v <- whole;standAt e.pos;holding [v] (truthy v)):=by intro _;rfl):DT X e (eB f) :=
 (Qf0 h he).imp fun σ H Q zz1=>by
  obtain ⟨Z,env,ρ,B,U,d,hp',S,e,k⟩:=zz1
  obtain ⟨x,hp1,e1,e2⟩:=Qe e
  obtain ⟨rfl,rfl⟩:=Yz e2
  exact tD.run S e1 fun v ρ1 B1 H1 g1 S1 r1=>⟨d,r1.blI,k ρ1 B1 H1 g1 S1.wo⟩
theorem Q6 {op:CmpOp} {g:DV->DV->M DV} (ho:P2 X (compareOp op) g) (ha:DE X a fa) (hb:DE X b fb) (hm:behindInMarks op b=false):DT X (.Compare a [op] [b] pos) (eB (Qk g fa fb)) :=
 (QdW ho ha hb hm).imp fun σ H Q zz1=>by
  obtain ⟨Z,env,ρ,B,U,d,hp',S,e,k⟩:=zz1
  obtain ⟨x,hp1,e1,e2⟩:=Qe e
  obtain ⟨rfl,rfl⟩:=Yz e2
  exact qF (tD.run S e1 fun v ρ1 B1 H1 g1 S1 r1=>⟨d,r1.blI,k ρ1 B1 H1 g1 S1.wo⟩)
def Xx (f g:DTx):DTx:=fun env=>do if <- f env then g env else pure false
def eOr (f g:DTx):DTx:=fun env=>do if <- f env then pure true else g env
def Xf (f:DTx):DTx:=fun env=>do let b <- f env;pure (!b)
def JX (f g:DEx):DEx:=fun env=>do if <- asB (<- f env) then g env else pure (.bl false)
def ji (f g:DEx):DEx:=fun env=>do if <- asB (<- f env) then pure (.bl true) else g env
def XN (f:DEx):DEx:=fun env=>do let b <- asB (<- f env);pure (.bl (!b))
def eIf (c:DTx) (f g:DEx):DEx:=fun env=>do if <- c env then f env else g env
theorem tDT.run {K:Aa} {f:DTx} {Z:Ent} {d:Bool} {Q:Bool->Hp->Prop} (S:SOk K Z env σ ρ B U H) (e:f env U=some (d,hp1))
  (k:∀ ρ' B' H',Gr K ρ B H ρ' B' H'->SOk K Z env σ ρ' B' hp1 H'->Q d H'):tDT K f σ H Q :=
 ⟨Z,env,ρ,B,U,d,hp1,S,e,fun ρ' B' H' g W=>k ρ' B' H' g (S.grow g W)⟩
variable {ca cb:DTx} {rest:List Expr}
def Kl (h:DT X a ca):DW X (.BoolOp .And [a] pos) ca:=Qd0 h
def yE (h:DT X a ca):DW X (.BoolOp .Or [a] pos) ca:=Qf3 h
theorem vV (ha:DT X a ca) (hb:DW X (.BoolOp .And (b::rest) pos) cb):DW X (.BoolOp .And (a::b::rest) pos) (Xx ca cb) :=
  (Qf2 ha hb).imp fun σ H Q zz1=>by
    obtain ⟨Z,env,ρ,B,U,d,hp',S,e,k⟩:=zz1
    obtain ⟨x,hp1,e1,e2⟩:=Qe e
    refine tDT.run S e1 fun ρ1 B1 H1 g1 S1=>?_
    cases x with
    | true=>exact GP (tDT.run S1 e2 fun ρ2 B2 H2 g2 S2=>k ρ2 B2 H2 (g1.trans g2) S2.wo)
    | false =>
      obtain ⟨rfl,rfl⟩:=Qh e2
      exact GO (k ρ1 B1 H1 g1 S1.wo)
theorem yD (ha:DT X a ca) (hb:DW X (.BoolOp .Or (b::rest) pos) cb):DW X (.BoolOp .Or (a::b::rest) pos) (eOr ca cb) :=
  (Qg9 ha hb).imp fun σ H Q zz1=>by
    obtain ⟨Z,env,ρ,B,U,d,hp',S,e,k⟩:=zz1
    obtain ⟨x,hp1,e1,e2⟩:=Qe e
    refine tDT.run S e1 fun ρ1 B1 H1 g1 S1=>?_
    cases x with
    | false=>exact GO (tDT.run S1 e2 fun ρ2 B2 H2 g2 S2=>k ρ2 B2 H2 (g1.trans g2) S2.wo)
    | true =>
      obtain ⟨rfl,rfl⟩:=Qh e2
      exact GP (k ρ1 B1 H1 g1 S1.wo)
def DW.pt (h:DW X e f):DT X e f:=h _
theorem Y8 (h:DT X a ca):DT X (.UnaryOp .Not a pos) (Xf ca) :=
 (QfZ h).imp fun σ H Q zz1=>by
  obtain ⟨Z,env,ρ,B,U,d,hp',S,e,k⟩:=zz1
  obtain ⟨x,hp1,e1,e2⟩:=Qe e
  obtain ⟨rfl,rfl⟩:=Qh e2
  exact tDT.run S e1 fun ρ1 B1 H1 g1 S1=>k ρ1 B1 H1 g1 S1.wo
def Qbd {op:BoolOp} (h:DE X a fa):DE X (.BoolOp op [a] pos) fa:=QfH h
theorem vN (ha:DE X a fa) (hb:DE X (.BoolOp .And (b::rest) pos) fb):DE X (.BoolOp .And (a::b::rest) pos) (JX fa fb) :=
  (QfC ha hb).imp fun σ H Q zz1=>by
    obtain ⟨Z,env,ρ,B,U,d,hp',S,e,k⟩:=zz1
    obtain ⟨x,hp1,e1,e2⟩:=Qe e
    obtain ⟨c,hp2,e3,e4⟩:=Qe e2
    obtain ⟨rfl,rfl⟩:=Yz e3
    refine tD.run S e1 fun v ρ1 B1 H1 g1 S1 r1=>⟨c,r1.blI,?_⟩
    cases c with
    | true=>exact GP (tD.run S1 e4 fun v ρ2 B2 H2 g2 S2 r2=>k v ρ2 B2 H2 (g1.trans g2) S2.wo r2)
    | false =>
      obtain ⟨rfl,rfl⟩:=Qh e4
      exact GO (k _ ρ1 B1 H1 g1 S1.wo ZH)
theorem Qe0 (ha:DE X a fa):DE X (.UnaryOp .Not a pos) (XN fa) :=
 (QfG ha).imp fun σ H Q zz1=>by
  obtain ⟨Z,env,ρ,B,U,d,hp',S,e,k⟩:=zz1
  obtain ⟨x,hp1,e1,e2⟩:=Qe e
  obtain ⟨c,hp2,e3,e4⟩:=Qe e2
  obtain ⟨rfl,rfl⟩:=Yz e3
  obtain ⟨rfl,rfl⟩:=Qh e4
  exact tD.run S e1 fun v ρ1 B1 H1 g1 S1 r1=>⟨c,r1.blI,k _ ρ1 B1 H1 g1 S1.wo ZH⟩
theorem Qex (hc:DT X c ca) (ha:DE X a fa) (hb:DE X b fb):DE X (.IfExp c a b pos) (eIf ca fa fb) :=
 (QbZ hc ha hb).imp fun σ H Q zz1=>by
  obtain ⟨Z,env,ρ,B,U,d,hp',S,e,k⟩:=zz1
  obtain ⟨x,hp1,e1,e2⟩:=Qe e
  refine tDT.run S e1 fun ρ1 B1 H1 g1 S1=>?_
  cases x with
  | true=>exact GP (tD.run S1 e2 fun v ρ2 B2 H2 g2 S2 r2=>k v ρ2 B2 H2 (g1.trans g2) S2.wo r2)
  | false=>exact GO (tD.run S1 e2 fun v ρ2 B2 H2 g2 S2 r2=>k v ρ2 B2 H2 (g1.trans g2) S2.wo r2)
def Qn:DAx:=fun _=>pure []
def Qc (f:DEx) (g:DAx):DAx:=fun env=>do let x <- f env;let xs <- g env;pure (x::xs)
theorem tDA.run {K:Aa} {f:DAx} {Z:Ent} {Q:List V->Hp->Prop} (S:SOk K Z env σ ρ B U H) (e:f env U=some (ds,hp1))
  (k:∀ vs ρ' B' H',Gr K ρ B H ρ' B' H'->SOk K Z env σ ρ' B' hp1 H'->RepL K ρ' B' H' ds vs->Q vs H'):tDA K f σ H Q :=
 ⟨Z,env,ρ,B,U,ds,hp1,S,e,fun vs ρ' B' H' g W r=>k vs ρ' B' H' g (S.grow g W) r⟩
theorem Qm:DA X [] Qn:=pa_nil.imp fun σ H Q zz1=>by
 obtain ⟨Z,env,ρ,B,U,ds,hp',S,e,k⟩:=zz1
 obtain ⟨rfl,rfl⟩:=Qh e
 exact k [] ρ B H Gr.refl S.wo RepL.nil
theorem Qb {e:Expr} {es:List Expr} (ha:DE X e f) (hr:DA X es g) (hs:starEach (e::es) X.env=(false,eval e X.env)::starEach es X.env:=by rfl):DA X (e::es) (Qc f g) :=
 (JJ ha hr hs).imp fun σ H Q zz1=>by
  obtain ⟨Z,env,ρ,B,U,ds,hp',S,e,k⟩:=zz1
  obtain ⟨x,hp1,e1,e2⟩:=Qe e
  obtain ⟨xs,hp2,e3,e4⟩:=Qe e2
  obtain ⟨rfl,rfl⟩:=Qh e4
  exact tD.run S e1 fun v ρ1 B1 H1 g1 S1 r1=>tDA.run S1 e3 fun vs ρ2 B2 H2 g2 S2 r2=>k _ ρ2 B2 H2 (g1.trans g2) S2.wo (RepL.cons (RepV.grow S1.wo.rb g2 _ _ r1) r2)
def lim:Nat:=100000
theorem KB:lim<=sizeLine:=by decide
def Qx (c:Bool):M Unit:=if c then pure () else failure
theorem QH {c:Bool} {U hp':Hs} {u:Unit} (h:Qx c U=some (u,hp')):c=true/\U=hp':=by
 cases c with
 | true=>obtain ⟨_,rfl⟩:=Qh (show (pure ():M Unit) U=some (u,hp') from h);exact ⟨rfl,rfl⟩
 | false=>cases h
def YT (ds:List DV):Bool:=decide (ds.length<=lim)
def qV {ds:List DV} (h:YT ds=true):ds.length<=sizeLine:=Bj (Ed h) KB
def Zt (f:DAx):DEx:=fun env=>do let xs <- f env;Qx (YT xs);pure (.tup xs)
def YG (f:DAx):DEx:=fun env=>do let xs <- f env;Qx (YT xs);pure (.lst xs)
theorem jn {K:Aa} {H:Hp} {Q:VK} (W:WOk K ρ B U H) (r:RepL K ρ B H ds xs) (k:Fol K ρ B H (.tup ds) U Q):∀ p,H p=none->Q (.ref p) (upd H p (.tup xs)):=fun p hp' =>
 k _ ρ B _ (Gr.laid hp') (W.laid hp') (Ye (fun z=>W.bt p z hp') (SqT.of Q3) (RepL.grow W.rb (Gr.laid hp') _ _ r))
theorem jm {K:Aa} {H:Hp} {Q:VK} (W:WOk K ρ B U H) (r:RepL K ρ B H ds xs) (k:Fol K ρ B H (.lst ds) U Q):∀ p,H p=none->Q (.ref p) (upd H p (.lst xs)):=fun p hp' =>
 k _ ρ B _ (Gr.laid hp') (W.laid hp') (KL (fun z=>W.bt p z hp') (SqL.of Q3) (RepL.grow W.rb (Gr.laid hp') _ _ r))
def Fol.after {K:Aa} (g:Gr K ρ B H ρ1 B1 H1) (k:Fol K ρ B H d hp' Q):Fol K ρ1 B1 H1 d hp' Q:=fun v ρ' B' H' g' W r=>k v ρ' B' H' (g.trans g') W r
theorem Zj {es:List Expr} {x1} (h:DA X es f):DE X (.Tuple es x1 pos) (Zt f) :=
 (Qb3 h).imp fun σ H Q zz1=>by
  obtain ⟨Z,env,ρ,B,U,d,hp',S,e,k⟩:=zz1
  obtain ⟨xs,hp1,e1,e2⟩:=Qe e
  obtain ⟨_,hp2,e3,e4⟩:=Qe e2
  obtain ⟨hs,rfl⟩:=QH e3
  obtain ⟨rfl,rfl⟩:=Qh e4
  exact tDA.run S e1 fun vs ρ1 B1 H1 g1 S1 r1=>⟨by rw [<- r1.length];exact qV hs,jn S1.wo r1 (k.after g1)⟩
theorem vO {es:List Expr} (h:DA X es f):DE X (.List es pos) (YG f) :=
 (Qb0 h).imp fun σ H Q zz1=>by
  obtain ⟨Z,env,ρ,B,U,d,hp',S,e,k⟩:=zz1
  obtain ⟨xs,hp1,e1,e2⟩:=Qe e
  obtain ⟨_,hp2,e3,e4⟩:=Qe e2
  obtain ⟨hs,rfl⟩:=QH e3
  obtain ⟨rfl,rfl⟩:=Qh e4
  exact tDA.run S e1 fun vs ρ1 B1 H1 g1 S1 r1=>⟨by rw [<- r1.length];exact qV hs,jm S1.wo r1 (k.after g1)⟩
end
end D
namespace L2
open PySem PySem.Spec PyProof.Rows
def XE (X:Cx) (scope:Scope) (cl:List (Str×Addr)) (C:Addr) (N:List Str) (s₀:Shared) (H₀:Hp) (ex:Eo):Cx where
 prog:=X.prog
 w:=X.w
 K:=X.K
 mg:=X.mg
 O8:=X.O8
 A:=X.A
 N:=N
 s₀:=s₀
 H₀:=H₀
 env:=compEnvC scope cl C X.env
 outer:=X.stack
 stack:=X.stack
 ex:=ex
 fn:=fun _=>false
 calm:=X.calm
 pn:=[]
 xe:=fun _ _=>False
def AllP {α:Type} (P:α->Prop):List α->Prop
 | []=>True
 | x::r=>P x/\AllP P r
theorem AllP.mem {α:Type} {P:α->Prop}:∀ {l:List α} {x:α},AllP P l->x∈l->P x
 | [],_,_,h=>nomatch h
 | y::r,x,⟨h1,h2⟩,h=>(Bk.mp h).elim (fun e=>e▸h1) fun e=>AllP.mem h2 e
def Caps (X:Cx) (scope:Scope) (cl:List (Str×Addr)):List Str->List Nat->Prop
  | [],[]=>True
  | y :: ys, i :: is => X.N[i]? = some y /\ (X.env.kindOf y = some .cell ∨ X.env.kindOf y = some .free) /\ (∃ c, cl.lookup y = some c) /\
      (relabel scope X.env).names.lookup y≠some .local/\Caps X scope cl ys is
  | _,_=>False
theorem Caps.get {cl:List (Str×Addr)}:∀ {ys:List Str} {is:List Nat} {j:Nat} {y:Str},Caps X scope cl ys is->ys[j]?=some y ->
    ∃ i,is[j]?=some i/\X.N[i]?=some y/\(X.env.kindOf y=some .cell∨X.env.kindOf y=some .free)/\(∃ c,cl.lookup y=some c)/\(relabel scope X.env).names.lookup y≠some .local
  | [],_,_,_,_,h=>by simp at h
  | y::ys,[],_,_,h,_=>by simp [Caps] at h
  | y::ys,i::is,0,z,⟨h1,h2,h3,h4,_⟩,h=>by simp at h;subst h;exact ⟨i,rfl,h1,h2,h3,h4⟩
  | y::ys,i::is,j+1,z,⟨_,_,_,_,h5⟩,h=>by
    obtain ⟨k,a,b⟩:=Caps.get h5 (by simpa using h)
    exact ⟨k,by simpa using a,b⟩
theorem Caps.length {cl:List (Str×Addr)}:∀ {ys:List Str} {is:List Nat},Caps X scope cl ys is->ys.length=is.length
 | [],[],_=>rfl
 | [],_::_,h=>by simp [Caps] at h
 | _::_,[],h=>by simp [Caps] at h
 | _::ys,_::is,⟨_,_,_,_,h⟩=>by simp [Caps.length h]
structure K5 (X:Cx) (x:Str) (scope:Scope) (cl:List (Str×Addr)) (caps:List Str) (idx:List Nat):Prop where
 clos:closureFor scope X.env=pure cl
 cell:∀ y∈scope.names,y.2≠.cell
 kind:scope.kind=.function
 names:∀ y∈scope.names,y.2=.local->scope.names.lookup y.1=some .local
 hx:scope.names.lookup x=some .local
 cls:AllP (fun p:Str×Addr=>X.env.cells.lookup p.1=some p.2) cl
 has:((relabel scope X.env).names.all fun p=>!(p.2==.cell||p.2==.free)||(cl.lookup p.1).isSome)=true
 cps:Caps X scope cl caps idx
 nd:(x::caps).Nodup
def cσ (idx:List Nat) (σ:St) (o:Option V):St:=o::idx.map fun i=>(σ[i]?).join
def PTs (X:Cx) (ifs:List Expr) (t:TT):Prop :=
  ∀ (O9 : List (Addr × Obj)) (s : Shared) (σ : St) (H : Hp) (Q : Bool -> Hp -> Prop), Inv X O9 σ H s -> t σ H Q ->
    wpAny (model X.prog X.w) X.A (forIn ifs true fun c r=>if r=true then do let ok <- isTrue c X.env (eval c X.env);pure (ForInStep.yield ok) else pure (ForInStep.yield r)) (TP X O9 σ Q) X.xe s
def QdX:PTs X [] (fun _ H Q=>Q true H):=fun O9 s σ H Q I h=>wpAny_tests_nil ⟨H,I,h⟩
def QdY {t:TT} (h:PT X c t):PTs X [c] t:=fun O9 s σ H Q I q=>wpAny_tests_one (h O9 s σ H Q I q)
section
variable {prog:Program} {w:World} {A:Around} {R:Result->Shared->Prop} {s:Shared}
theorem Ki {elt target iter:Expr} {ifs:List Expr} {scope:Scope} {pos:Pos} {it acc:Value} {env:Env} (I:Nat->Shared->Prop)
    (turn:∀ n s,I n s->wpAny (model prog w) A (pyNext it) (fun r s₁=>match r with
      | none=>R (.ok .next) s₁
      | some v=>wpAny (model prog w) A (letOwnedTupleGo target it v) (fun _ s₁'=>wpAny (model prog w) A (assign target env v) (fun _ s₂ =>
          wpAny (model prog w) A (forIn ifs true fun c r=>if r=true then do let ok <- isTrue c env (eval c env);pure (ForInStep.yield ok) else pure (ForInStep.yield r)) (fun ok s₃ =>
            if ok=true then wpAny (model prog w) A (eval elt env) (fun x s₄ =>
              wpAny (model prog w) A (call (.builtin "list.append") [acc,x]) (fun _ s₅=>∃ m,m < n/\I m s₅) (fun _ _=>False) s₄) (fun _ _=>False) s₃
            else ∃ m,m < n/\I m s₃) (fun _ _=>False) s₂) (fun _ _=>False) s₁') (fun _ _=>False) s₁) (fun _ _=>False) s)
    (n:Nat) (h:I n s) :
    codeAny (model prog w) A (.compLoop (.ListComp elt [⟨target,iter,ifs,0⟩] scope pos) 0 it acc env) R s:=by
  refine codeAny_loop rfl I (fun n s hI=>?_) n h
  show wpAny _ A ((compTurn (.ListComp elt [⟨target,iter,ifs,0⟩] scope pos) 0 it acc env).onRaise (fun x=>do noteFrame x env;theTreesLotGoes x)) _ _ s
  refine wpAny_noted ?_
  rw [compTurn_list]
  refine C6 (wpAny_standAt (C6 (wpAny_mono (turn n s hI) (fun r s₁ h₁=>?_) fun _ _ h'=>h'.elim)))
  cases r with
  | none=>exact C9 h₁
  | some v =>
    refine C6 (wpAny_mono h₁ (fun _ s₁' h₁'=>?_) fun _ _ h'=>h'.elim)
    refine C6 (wpAny_mono h₁' (fun _ s₂ h₂=>C6 (wpAny_mono h₂ (fun ok s₃ h₃=>?_) fun _ _ h'=>h'.elim)) fun _ _ h'=>h'.elim)
    cases ok with
    | false=>exact C9 ⟨rfl,h₃⟩
    | true =>
      exact C6 (C6 (wpAny_mono h₃ (fun x s₄ h₄=>C6 (wpAny_mono h₄ (fun _ s₅ h₅=>C9 (C9 ⟨rfl,h₅⟩)) fun _ _ h'=>h'.elim)) fun _ _ h'=>h'.elim))
end
def kA (K:Aa) (wi:TI) (tt:TT) (te:TE) (idx:List Nat):TE:=fun σ H Q=>wi σ H fun J H1=>∀ D,H1 D=none->K.lookup D=none->∃ W:Nat->Nat->List V->Hp->Prop,(∃ m,W 0 m [] (upd H1 D (.lst []))) /\
  ∀ i m ys H, W i m ys H -> H D = some (.lst ys) /\ ((J.stop i H /\ Q (.ref D) H) ∨ (J.go i H /\ ∀ x H', J.yld i H x H' -> tt (cσ idx σ (some x)) H' fun b H2 =>
    if b=true then te (cσ idx σ (some x)) H2 fun y H3=>H3 D=some (.lst ys)/\ys.length < sizeLine/\∃ m',m' < m/\W (i+1) m' (ys++[y]) (upd H3 D (.lst (ys++[y])))
    else ∃ m',m' < m/\W (i+1) m' ys H2))
section
variable {X:Cx} {elt iter:Expr} {x:Str} {px:Pos} {ifs:List Expr} {scope:Scope} {cl:List (Str×Addr)} {pos:Pos} {caps:List Str} {idx:List Nat} {wi:TI} {tt:TT} {te:TE}
theorem Gk {E:Eg} {use:Option (Value->Sem Unit)} {QQ:Eg} {newpos:Pos} (S:K5 X x scope cl caps idx) (hc:X.calm=true) (hi:PI X (.Name x px) iter wi)
    (ht:∀ C s₀ H₀ ex,PTs (XE X scope cl C (x::caps) s₀ H₀ ex) ifs tt) (he:∀ C s₀ H₀ ex,PE (XE X scope cl C (x::caps) s₀ H₀ ex) elt te)
    {O9:Eh} {s:Shared} {σ:St} {H:Hp} {Q:VK} (I:Inv X O9 σ H s) (h:kA X.K wi tt te idx σ H Q)
    (hE:X.xe=E)
    (hend:∀ (D C:Addr) (H':Hp) (s':Shared) (m:Ei),Inv X O9 σ H' s'->Q (.ref D) H'->s'.heap.Ns C m->H' C=none->C≠X.env.locals->X.s₀.heap.objs.size<=C->(∀ x c,X.env.cells.lookup x=some c->c≠C)->(∀ p∈X.pn++O9,p.1≠C) ->
      compPost (model X.prog X.w) X.A E use QQ (.ref D) C (.ok .next) s')
    (hs:∀ x,foldedSetIterable iter X.env x=pure x:=by intro _;rfl) :
    wpAny (model X.prog X.w) X.A (comprehension (.ListComp elt [⟨.Name x px,iter,ifs,0⟩] scope pos) scope X.env newpos (newList []) false (eval iter X.env) use) QQ E s:=by
  subst hE
  refine wpAny_comprehension_free (use:=use) rfl hs S.clos S.kind S.names (thn (hi O9 s σ H _ I h) fun xv s1 h1=>thn h1 fun itv s2 h2=>?_)
  obtain ⟨it,fp,tn,J,H2,rfl,I2,T,st2,f2,hQ⟩:=h2
  refine wpAny_newObj_type (wpAny_newFunctionEnv S.cell (by intro y hy;simp at hy) (fun h₁ hns₁ hsb₁=>?_) S.kind)
  dsimp only at hns₁ hsb₁ ⊢
  generalize hH2:s2.heap.push { cls:=.type "list", dict:=none,data:=.seq ([]:List Value).toArray }=hp3 at hns₁ hsb₁ ⊢
  have hC:hp3.objs.size=s2.heap.objs.size+1:=by rw [<- hH2,Co]
  have keep3:∀ b o,s2.heap.get? b=some o->hp3.get? b=some o:=fun b o e=>hH2▸Ad _ e
  have hDf:H2 s2.heap.objs.size=none:=I2.hok.fresh (Ae _)
  have I3:Inv X O9 σ (upd H2 s2.heap.objs.size (.lst [])) { s2 with heap:=hp3 } :=
    I2.laid (t':=s2.toks) keep3 (Ae _) ⟨Be _,[],_,.nil,hH2▸Av _ rfl⟩
  have hDk:X.K.lookup s2.heap.objs.size=none:=by
    cases q:X.K.lookup s2.heap.objs.size with
    | none=>rfl
    | some o=>exact absurd (Ap (I2.kIn _ o q)) (Cv _)
  obtain ⟨W,⟨m0,w0⟩,turn⟩:=hQ _ hDf hDk
  generalize hDd:s2.heap.objs.size=D at *
  generalize hCc:hp3.objs.size=C at *
  have ltC:∀ b o,hp3.get? b=some o->b≠C:=fun b o e=>by rw [<- hCc];exact Bf (Ap e)
  have keep4:∀ b o,hp3.get? b=some o->h₁.get? b=some o:=fun b o e=>hsb₁.extBut b o (ltC b o e) (Ad _ e)
  have s3sz:({ s2 with heap:=hp3 }:Shared).heap.objs.size=C:=hCc
  have clE:∀ y c,cl.lookup y=some c->X.env.cells.lookup y=some c:=fun y c e=>S.cls.mem (PySem.mem_of_lookup e)
  have fpLt:∀ b∈fp,∃ o,s2.heap.get? b=some o:=fun b hb=>let ⟨o,e,_⟩:=T.obj _ _ st2 b hb;⟨o,e⟩
  have fpC:∀ b∈fp,b≠C:=fun b hb=>let ⟨o,e⟩:=fpLt b hb;ltC b o (keep3 b o e)
  have fpD:∀ b∈fp,b≠D:=fun b hb=>let ⟨o,e⟩:=fpLt b hb;by rw [<- hDd];exact Bf (Ap e)
  have fr3:∀ b∈fp,(upd H2 D (.lst [])) b=none:=fun b hb=>by rw [QI (fpD b hb)];exact (f2 b hb).1
  have cellLt:∀ y c,X.env.cells.lookup y=some c->c≠C:=fun y c e=>let ⟨v,o,ho,_⟩:=I3.cell y c e;ltC c o ho
  have fpStk:∀ b∈fp,b∉frs X.stack:=fun b hb z=>(Bk.mp (I2.stkSub b z)).elim (f2 b hb).2.1 (f2 b hb).2.2.1
  let X':=XE X scope cl C (x::caps) { s2 with heap:=hp3 } (upd H2 D (.lst [])) fp
  have ok':X'.Ok:=by
    refine ⟨I3.ok.mod,by show (relabel scope X.env).kind=_;exact S.kind,I3.ok.glob,I3.ok.blt,by show hp3.objs.size<=C;rw [hCc];exact Ae _,fun y z c h1 h2=>I3.ok.inj y z c (clE y c h1) (clE z c h2),fun y hy=>?_,
      fun y c z=>(by cases z),I3.ok.hd,I3.ok.frames,.inl rfl,fun b hb=>⟨fpC b hb,fun y c e=>(f2 b hb).2.2.2.2.1 y c (clE y c e)⟩,I3.bs,Bj I3.ok.bsz I3.sz,
      fun b o e hb=>?_,fun b hb=>fpStk b hb,I3.stack,I3.stkFree⟩
    . have hy':(relabel scope X.env).names.lookup y=some .cell∨(relabel scope X.env).names.lookup y=some .free:=hy
      have q:=S.has
      rw [List.all_eq_true] at q
      have:(cl.lookup y).isSome=true:=by
        rcases hy' with z | z
        . have q:=q _ (PySem.mem_of_lookup z);simpa using q
        . have q:=q _ (PySem.mem_of_lookup z);simpa using q
      exact Option.isSome_iff_exists.mp this
    . have:=(f2 b hb).2.2.2.1
      have e3:=(I2.ok.bs b o e).1
      rcases this with z | z
      . exact I2.ok.noex b o e z
      . exact absurd (Ay (Ap e3) z) (Cv _)
  have capsLen:=S.cps.length
  have I4:Inv X' [] (cσ idx σ none) (upd H2 D (.lst [])) { s2 with heap:=h₁,toks:=s2.toks+([]:List (Str×Value)).length }:=by
    refine ⟨ok',rfl,I3.bare,Un.kept keep4,⟨_,hns₁,fun i y v e1 e2 e3=>?_⟩,fun y c e=>?_,?_,fun y c e=>I3.freeC y c (clE y c e),fun p U=>absurd (show p∈([]:Eh) from U) (by simp),I3.hok.kept keep4,?_⟩
    . cases i with
      | zero=>exact absurd e2 (by simp [cσ])
      | succ j =>
        obtain ⟨k,h1,h2,h3,⟨c,h4⟩,h5⟩:=S.cps.get (show caps[j]?=some y by have e1':(x::caps)[j+1]?=some y:=e1;simpa using e1')
        have e2':(σ[k]?).join=some v:=by simpa [cσ,h1] using e2
        have e2'':σ[k]?=some (some v):=by
          cases q:σ[k]? with
          | none=>rw [q] at e2';cases e2'
          | some z=>rw [q] at e2';exact congrArg some e2'
        obtain ⟨mL,hnL,hl⟩:=I3.loc
        have vis:Vis X.env.scope y:=by rcases h3 with z | z;exact .inr (.inl z);exact .inr (.inr z)
        obtain ⟨u,r,l⟩:=hl k y v h2 e2'' vis
        refine ⟨u,r,.inr ⟨?_,c,h4,?_⟩⟩
        . have e3':(relabel scope X.env).names.lookup y=some .local∨(relabel scope X.env).names.lookup y=some .cell∨(relabel scope X.env).names.lookup y=some .free:=e3
          rcases e3' with z | z | z
          . exact absurd z h5
          . exact .inl z
          . exact .inr z
        . rcases l with ⟨z,_⟩ | ⟨_,c',e,z⟩
          . rcases h3 with q | q <;> · rw [q] at z;cases z
          . rw [clE y c h4] at e;cases e
            obtain ⟨o,ho,hd⟩:=z
            exact ⟨o,keep4 _ _ ho,hd⟩
    . obtain ⟨v,o,ho,hd⟩:=I3.cell y c (clE y c e)
      exact ⟨v,o,keep4 _ _ ho,hd⟩
    . exact I3.hok.fresh (by show hp3.objs.size<=C;rw [hCc];exact Ae _)
    . simp [cσ,X',XE,capsLen]
  have st4:tn 0 h₁:=T.keep _ _ _ st2 fun b _ o e=>keep4 b o (keep3 b o e)
  have fpX:∀ {H':Hp} {pins':Eh},(∀ b∈fp,H' b=none)->(pins'=[])->∀ b∈fp,xU X' pins' H' b:=fun hn e b hb=>by
    subst e
    exact ⟨hn b hb,fpC b hb,fpStk b hb,.inl hb,fun y c e=>(f2 b hb).2.2.2.2.1 y c (clE y c e),fun p U=>absurd (show p∈([]:Eh) from U) (by simp)⟩
  have loop:∀ s₃:Shared,s₃={ s2 with heap:=h₁,toks:=s2.toks+([]:List (Str×Value)).length } ->
      codeAny (model X.prog X.w) X.A (.compLoop (.ListComp elt [⟨.Name x px,iter,ifs,0⟩] scope pos) 0 (.ref it) (.ref D) (compEnvC scope cl C X.env)) (compPost (model X.prog X.w) X.A X.xe use QQ (.ref D) C) s₃:=by
    rintro s₃ rfl
    refine Ki (fun n s'=>∃ i o H' ys,Inv X' [] (cσ idx σ o) H' s'/\tn i s'.heap/\(∀ b∈fp,H' b=none)/\W i n ys H') ?_ m0 ⟨0,none,_,[],I4,st4,fr3,w0⟩
    rintro n s5 ⟨i,o,H5,ys,I5,st5,fr5,w5⟩
    obtain ⟨hD,tw⟩:=turn i n ys H5 w5
    rcases tw with ⟨stop,q⟩ | ⟨go,step⟩
    . refine thn (T.done X' rfl rfl rfl hc i [] s5 _ H5 _ I5 (fpX fr5 rfl) st5 stop) fun r s6 ⟨hr,I6⟩=>?_
      subst hr
      obtain ⟨m6,hn6,_⟩:=I6.loc
      have I7:Inv X O9 σ H5 s6:=I3.call' (s':=s6) (ch:=fp) I6.os I6.O8 I6.hok I6.bare fun b hb=>⟨(f2 b hb).2.2.2.1,(f2 b hb).2.1,(f2 b hb).2.2.2.2.1,(f2 b hb).2.2.2.2.2⟩
      refine hend D C H5 s6 m6 I7 q hn6 I6.free ?_ ?_ cellLt fun p U=>?_
      . rw [<- hCc];exact C4 I3.lt
      . rw [<- hCc];exact I3.sz
      . exact ltC p.1 p.2 (I3.pin p U).1
    . refine thn (T.item X' rfl rfl rfl hc i [] s5 _ H5 _ I5 (fpX fr5 rfl) st5 go) fun r s6 ⟨u,hr,h6⟩=>?_
      subst hr
      refine thn h6 fun _ s7 ⟨y,H7,I7,r7,y7,st7,fr7⟩=>?_
      have I7':=I7.pinned (fpX fr7 rfl) (T.obj _ _ st7)
      refine thn (KK (X:=X') (i:=0) S.nd rfl (.inl (lookup_relabel_local S.hx)) (.inr (lookup_relabel_local S.hx)) _ s7 _ H7 y u (fun σ' H'=>σ'=cσ idx σ (some y)/\H'=H7) I7' r7 ⟨rfl,rfl⟩) fun _ s8 ⟨σ8,H8,I8,e8,e8'⟩=>?_
      subst e8
      subst e8'
      have again:∀ {H9:Hp} {s9:Shared} {ys':List V},Inv X' ([]++Va fp s7.heap) (cσ idx σ (some y)) H9 s9->(∃ m',m' < n/\W (i+1) m' ys' H9) ->
          ∃ m,m < n/\∃ i o H' ys,Inv X' [] (cσ idx σ o) H' s9/\tn i s9.heap/\(∀ b∈fp,H' b=none)/\W i m ys H':=fun {H9 s9 ys'} I9 ⟨m',hm,w9⟩=>by
        refine ⟨m',hm,i+1,some y,H9,ys',I9.unpinned,T.keep _ _ _ st7 fun b hb o e=>(I9.pin (b,o) (Aj _ (Aj _ (qe hb e)))).1,fun b hb=>?_,w9⟩
        obtain ⟨o,e,d⟩:=T.obj _ _ st7 b hb
        exact (I9.pin (b,o) (Aj _ (Aj _ (qe hb e)))).2.1
      refine thn (ht _ _ _ _ _ s8 _ H8 _ I8 (step y H8 y7)) fun ok s9 ⟨H9,I9,q9⟩=>?_
      cases ok with
      | false=>exact again I9 (by rw [C7 Bz] at q9;exact q9)
      | true =>
        rw [C8 rfl] at q9 ⊢
        refine thn (he _ _ _ _ _ s9 _ H9 _ I9 q9) fun v s10 zz1=>?_
        obtain ⟨z,H10,I10,r10,hD10,hlen,m',hm,w10⟩:=zz1
        refine thn (Ux (X:=X') _ s10 _ H10 (.ref D) [z] (.ref D) [v] (fun _ H'=>H'=upd H10 D (.lst (ys++[z]))) I10 rfl (.cons r10 .nil) ⟨D,ys,z,rfl,rfl,hD10,hlen,rfl⟩) fun _ s11 ⟨_,H11,I11,_,e11⟩=>?_
        subst e11
        exact again I11 ⟨m',hm,w10⟩
  exact codeAny_compStart_list (loop _ rfl) (T.self X.A 0 _ _ _ st4 (loop _ rfl))
end
section
variable {X:Cx} {elt iter:Expr} {x:Str} {px:Pos} {ifs:List Expr} {scope:Scope} {cl:List (Str×Addr)} {pos:Pos} {caps:List Str} {idx:List Nat} {wi:TI} {tt:TT} {te:TE}
theorem QdH (S:K5 X x scope cl caps idx) (hc:X.calm=true) (hi:PI X (.Name x px) iter wi)
  (ht:∀ C s₀ H₀ ex,PTs (XE X scope cl C (x::caps) s₀ H₀ ex) ifs tt) (he:∀ C s₀ H₀ ex,PE (XE X scope cl C (x::caps) s₀ H₀ ex) elt te)
  (hs:∀ x,foldedSetIterable iter X.env x=pure x:=by intro _;rfl):PE X (.ListComp elt [⟨.Name x px,iter,ifs,0⟩] scope pos) (kA X.K wi tt te idx):=by
 intro O9 s σ H Q I h
 rw [eval_ListComp]
 refine Gk (use:=none) S hc hi ht he I h rfl (fun D C H' s' m I' q hn hC h1 h2 h3 h4=>?_) hs
 show ∃ m,s'.heap.Ns C m/\∀ h',Heap.SameBut C s'.heap h'->EP X O9 σ Q (.ref D) { s' with heap:=h' }
 exact ⟨m,hn,fun h' hs=>⟨.ref D,H',I'.turned (t':=s'.toks) (fun b o hb e=>hs.extBut b o hb e) hC (Ne.symm (Ne.symm h1)) (.inr h2) h3 h4,rfl,q⟩⟩
theorem QdT {i:Nat} {y:Str} {py spos:Pos} (S:K5 X x scope cl caps idx) (hc:X.calm=true) (hi:PI X (.Name x px) iter wi)
  (ht:∀ C s₀ H₀ ex,PTs (XE X scope cl C (x::caps) s₀ H₀ ex) ifs tt) (he:∀ C s₀ H₀ ex,PE (XE X scope cl C (x::caps) s₀ H₀ ex) elt te)
  (hN:X.N.Nodup) (hy:X.N[i]?=some y) (hx:Loc X.env.scope y) (hsw:swapsWith (.ListComp elt [⟨.Name x px,iter,ifs,0⟩] scope pos) (some (.Name y py)) spos.line X.env=pure true)
  (hf:X.fn y=true∨X.env.scope.names.lookup y=some .local:=by first | exact .inl rfl | exact .inr rfl | assumption)
  (hs:∀ x,foldedSetIterable iter X.env x=pure x:=by intro _;rfl):PS X (.Assign [.Name y py] (.ListComp elt [⟨.Name x px,iter,ifs,0⟩] scope pos) spos) (Qej (kA X.K wi tt te idx) (gD i)):=by
 intro O9 s σ H D I h
 rw [exec_Assign_Name_used _ _ _ _ hsw]
 refine C6 (wpAny_standAt (C6 ?_))
 show wpAny _ X.A (do let _ <- comprehension (.ListComp elt [⟨.Name x px,iter,ifs,0⟩] scope pos) scope X.env _ (newList []) false (eval iter X.env) (some (assign (.Name y py) X.env))) _ _ s
 refine C6 (wpAny_mono (Gk (use:=some (assign (.Name y py) X.env)) (QQ:=fun _ s'=>SP X O9 D .next s') S hc hi ht he I h rfl (fun Da C H' s' m I' q hn hC h1 h2 h3 h4=>?_) hs) (fun _ s' hq=>C9 (C9 hq)) fun _ _ e=>e)
 show wpAny _ X.A (assign (.Name y py) X.env (.ref Da)) (fun _ s''=>∃ m,s''.heap.Ns C m/\∀ h',Heap.SameBut C s''.heap h'->SP X O9 D .next { s'' with heap:=h' }) _ s'
 refine wpAny_assign_Name (UY I' hN hy hx (v:=.ref Da) rfl (fun s'' I'' ⟨a,hs,ha⟩=>?_) hf)
 refine ⟨m,hn.sameBut hs ?_,fun h' hs'=>⟨_,H',I''.turned (t':=s''.toks) (fun b o hb e=>hs'.extBut b o hb e) hC h1 (.inr h2) h3 h4,q⟩⟩
 rcases ha with rfl | ha
 ·exact h1
 ·exact Ne.symm (h3 _ _ ha)
end
end L2
namespace D
open PySem PySem.Spec PyProof.Rows L2
section
variable {K:Aa} {Z:Ent} {env:En} {σ:St} {ρ ρ':Eo} {B B':Em} {U hp':Hs} {H H':Hp}
theorem SOk.set {i:Nat} (S:SOk K Z env σ ρ B U H) (r:RepV K ρ B H d v):SOk K Z (env.set i (.val d)) (σ.set i (some v)) ρ B U H where
 gr:=S.gr
 zb:=S.zb
 wo:=S.wo
 slot:=fun j e h=>by
  by_cases hj:j=i
  ·subst hj
   have hl:j < env.length:=by have:=(Ac.mp h).1;simpa using this
   rw [Au hl] at h;cases h
   exact ⟨v,Au (by rw [S.len];exact hl),r⟩
  ·rw [Am (Ne.symm hj)] at h ⊢
   exact S.slot j e h
 accs:=fun j ds h=>by
  by_cases hj:j=i
  ·subst hj
   have hl:j < env.length:=by have:=(Ac.mp h).1;simpa using this
   rw [Au hl] at h;cases h
  ·rw [Am (Ne.symm hj)] at h ⊢
   exact S.accs j ds h
 adis:=fun j k ds es a h1 h2 h3 h4=>by
  have nj:∀ {j:Nat} {ds:List DV},(env.set i (.val d))[j]?=some (.acc ds)->j≠i:=fun {j ds} h e=>by
   subst e
   have hl:j < env.length:=by have:=(Ac.mp h).1;simpa using this
   rw [Au hl] at h;cases h
  have hj:=nj h1
  have hk:=nj h2
  rw [Am (Ne.symm hj)] at h1 h3
  rw [Am (Ne.symm hk)] at h2 h4
  exact S.adis j k ds es a h1 h2 h3 h4
 len:=by simp [S.len]
end
section
variable {X:Cx} {e a b c:Expr} {f fa fb:DEx} {ca cb:DTx} {pos:Pos} {st:Stmt} {sts rest:List Stmt} {s s':DSx}
theorem FolS.after {K:Aa} {Z:Ent} {fl:Fl} {D:U5} (g:Gs K ρ B H ρ1 B1 H1) (k:FolS K Z ρ B H fl env' hp' D):FolS K Z ρ1 B1 H1 fl env' hp' D :=
 fun σ' ρ' B' H' g' S=>k σ' ρ' B' H' (g.trans g') S
def Zo:DSx:=fun env=>pure (.nx,env)
def Qs (f g:DSx):DSx:=fun env=>do
 let r <- f env
 match r.1 with
 | .nx=>g r.2
 | _=>pure r
def sIf (c:DTx) (f g:DSx):DSx:=fun env=>do if <- c env then f env else g env
def QJ (f:DEx):DSx:=fun env=>do let d <- f env;pure (.rt d,env)
def Yg:DSx:=fun env=>pure (.rt .non,env)
def Ji (f:DEx):DSx:=fun env=>do let _ <- f env;pure (.nx,env)
def QU (i:Nat) (f:DEx):DSx:=fun env=>do let d <- f env;pure (.nx,env.set i (.val d))
theorem QT:DSs X [] Zo:=pss_nil.imp fun D σ H zz1=>by
 obtain ⟨Z,env,ρ,B,U,fl,env',hp',S,e,k⟩:=zz1
 obtain ⟨e1,rfl⟩:=Qh e
 cases e1
 exact k σ ρ B H Gs.refl S
theorem Qcl {K:Aa} {D:U5} (h:tDS K (Qs s s') D σ H):Qhq (tDS K s) (tDS K s') D σ H:=by
 obtain ⟨Z,env,ρ,B,U,fl,env',hp',S,e,k⟩:=h
 obtain ⟨⟨f1,env1⟩,hp1,e1,e2⟩:=Qe e
 refine ⟨Z,env,ρ,B,U,f1,env1,hp1,S,e1,fun σ' ρ' B' H' g S'=>?_⟩
 cases f1 with
 | nx=>exact ⟨Z,env1,ρ',B',hp1,fl,env',hp',S',e2,k.after g⟩
 | rt d=>obtain ⟨z,rfl⟩:=Qh e2;cases z;exact k σ' ρ' B' H' g S'
 | bk=>obtain ⟨z,rfl⟩:=Qh e2;cases z;exact k σ' ρ' B' H' g S'
 | ct=>obtain ⟨z,rfl⟩:=Qh e2;cases z;exact k σ' ρ' B' H' g S'
def Qi (h1:DS X st s) (h2:DSs X rest s'):DSs X (st::rest) (Qs s s'):=(Qcb h1 h2).imp fun _ _ _ h=>Qcl h
def Qq (h1:DS X st s):DSs X [st] s:=QdV h1
theorem Zz {x y:List Stmt} (hc:DT X c ca) (h1:DSs X x s) (h2:DSs X y s'):DS X (.If c x y pos) (sIf ca s s') :=
 (Qg8 hc h1 h2).imp fun D σ H zz1=>by
  obtain ⟨Z,env,ρ,B,U,fl,env',hp',S,e,k⟩:=zz1
  obtain ⟨x,hp1,e1,e2⟩:=Qe e
  refine tDT.run S e1 fun ρ1 B1 H1 g1 S1=>?_
  cases x with
  | true=>exact GP ⟨Z,env,ρ1,B1,hp1,fl,env',hp',S1,e2,k.after (g1.gs S.wo.rb)⟩
  | false=>exact GO ⟨Z,env,ρ1,B1,hp1,fl,env',hp',S1,e2,k.after (g1.gs S.wo.rb)⟩
theorem Qu (h:DE X e f):DS X (.Return (some e) pos) (QJ f) :=
 (QfX h).imp fun D σ H zz1=>by
  obtain ⟨Z,env,ρ,B,U,fl,env',hp',S,e,k⟩:=zz1
  obtain ⟨d,hp1,e1,e2⟩:=Qe e
  obtain ⟨z,rfl⟩:=Qh e2;cases z
  exact tD.run S e1 fun v ρ1 B1 H1 g1 S1 r1=>k σ ρ1 B1 H1 (g1.gs S.wo.rb) S1 v r1
theorem J2 (h:DE X e f) (hs:swapsWith e none pos.line X.env=pure false:=by rfl):DS X (.Expr e pos) (Ji f) :=
 (QdU h hs).imp fun D σ H zz1=>by
  obtain ⟨Z,env,ρ,B,U,fl,env',hp',S,e,k⟩:=zz1
  obtain ⟨d,hp1,e1,e2⟩:=Qe e
  obtain ⟨z,rfl⟩:=Qh e2;cases z
  exact tD.run S e1 fun v ρ1 B1 H1 g1 S1 r1=>k σ ρ1 B1 H1 (g1.gs S.wo.rb) S1
theorem G9 {K:Aa} {D:U5} {σ:St} {i:Nat} {t:TE} (ht:∀ σ H Q,tD K f σ H Q->t σ H Q) (h:tDS K (QU i f) D σ H):Qej t (gD i) D σ H:=by
 obtain ⟨Z,env,ρ,B,U,fl,env',hp',S,e,k⟩:=h
 obtain ⟨d,hp1,e1,e2⟩:=Qe e
 obtain ⟨z,rfl⟩:=Qh e2;cases z
 exact ht _ _ _ (tD.run S e1 fun v ρ1 B1 H1 g1 S1 r1=>k _ ρ1 B1 H1 (g1.gs S.wo.rb) (S1.set r1))
theorem QM (i:Nat) {x:Str} {pos':Pos} (hN:X.N.Nodup) (he:DE X e f) (hi:X.N[i]?=some x:=by rfl) (hx:Loc X.env.scope x:=by first | exact Or.inl rfl | exact Or.inr rfl) (hs:swapsWith e (some (.Name x pos')) pos.line X.env=pure false:=by rfl)
  (hf:X.fn x=true∨X.env.scope.names.lookup x=some .local:=by first | exact .inl rfl | exact .inr rfl | assumption):DS X (.Assign [.Name x pos'] e pos) (QU i f) :=
 (QfY hN hi hx he hs hf).imp fun _ _ _ h=>G9 (fun _ _ _ q=>q) h
abbrev DGx:=DV->En->M En
def tDG (K:Aa) (g:DGx):TG:=fun v σ H Q=>∃ Z env ρ B U d env' hp',SOk K Z env σ ρ B U H/\RepV K ρ B H d v/\g d env U=some (env',hp')/\∀ σ' ρ' B' H',Gs K ρ B H ρ' B' H'->SOk K Z env' σ' ρ' B' hp' H'->Q σ' H'
def gN (i:Nat):DGx:=fun d env=>pure (env.set i (.val d))
theorem gm (i:Nat) {x:Str} (hN:X.N.Nodup) (hi:X.N[i]?=some x:=by rfl) (hx:Loc X.env.scope x:=by first | exact Or.inl rfl | exact Or.inr rfl) (hf:X.fn x=true∨X.env.scope.names.lookup x=some .local:=by first | exact .inl rfl | exact .inr rfl | assumption):PG X (.Name x pos) (tDG X.K (gN i)):=by
 intro O9 s σ H v u Q I r h
 refine KK hN hi hx hf O9 s σ H v u Q I r ?_
 obtain ⟨Z,env,ρ,B,U,d,env',hp',S,rd,e,k⟩:=h
 obtain ⟨rfl,rfl⟩:=Qh e
 exact k _ ρ B H Gs.refl (S.set rd)
def kJ (K:Aa) (ρ:Eo) (B:Em) (H:Hp) (ds:List DV) (J:It):Prop :=
 ∀ ρ1 B1 H1,Gs K ρ B H ρ1 B1 H1->(∀ b∈ρ1,B1 b)->(∀ a,B1 a->H1 a≠none)->(∀ (i:Nat) (d:DV),ds[i]?=some d->J.go i H1/\∀ x H',J.yld i H1 x H'->RepV K ρ1 B1 H' d x/\(H'=H1∨∃ p o,H1 p=none/\H'=upd H1 p o))/\J.stop ds.length H1
abbrev DIx:=En->M (List DV)
def tDI (K:Aa) (f:DIx):TI:=fun σ H R=>∃ Z env ρ B U ds hp',SOk K Z env σ ρ B U H/\f env U=some (ds,hp')/\∀ J ρ' B' H',Gr K ρ B H ρ' B' H'->WOk K ρ' B' hp' H'->kJ K ρ' B' H' ds J->R J H'
def DI (X:Cx) (tg iter:Expr) (f:DIx):Prop:=PI X tg iter (tDI X.K f)
def ya:DV->M (List DV)
 | .tup ds=>pure ds
 | _=>failure
def iTp (f:DEx):DIx:=fun env=>do ya (<- f env)
theorem XW {d:DV} {U hp':Hs} (h:ya d U=some (ds,hp')):d=.tup ds/\U=hp':=by
 cases d with
 | tup xs=>obtain ⟨rfl,rfl⟩:=Qh h;exact ⟨rfl,rfl⟩
 | _=>cases h
theorem Qdn {K:Aa} {B:Em} {a:Addr} (nb:¬ B a) (sq:SqL K H a xs) (rl:RepL K ρ B H ds xs):kJ K ρ B H ds (Itl K a):=fun ρ1 B1 H1 g _ _=>by
 have sq1:=g.sqL nb sq
 have rl1:=RepL.gs g _ _ rl
 refine ⟨fun i d e=>?_,xs,sq1,by rw [rl1.length];exact Ae _⟩
 obtain ⟨x,hx,r⟩:=rl1.get e
 refine ⟨⟨xs,x,sq1,hx⟩,fun y H' ⟨e',q⟩=>?_⟩
 subst e'
 have:=q xs sq1
 rw [hx] at this;cases this
 exact ⟨r,.inl rfl⟩
theorem Qe8 {K:Aa} {B:Em} {a:Addr} (nb:¬ B a) (sq:SqT K H a xs) (rl:RepL K ρ B H ds xs):kJ K ρ B H ds (Itt K a):=fun ρ1 B1 H1 g _ _=>by
 have sq1:=g.sqT nb sq
 have rl1:=RepL.gs g _ _ rl
 refine ⟨fun i d e=>?_,xs,sq1,by rw [rl1.length];exact Ae _⟩
 obtain ⟨x,hx,r⟩:=rl1.get e
 refine ⟨⟨xs,x,sq1,hx⟩,fun y H' ⟨e',q⟩=>?_⟩
 subst e'
 have:=q xs sq1
 rw [hx] at this;cases this
 exact ⟨r,.inl rfl⟩
def Jf (lo:Int) (n:Nat):List DV:=(List.range n).map fun (i:Nat)=>.int (lo+(i:Int))
theorem QbC {K:Aa} {lo:Int} {n:Nat}:kJ K ρ B H (Jf lo n) (Itr lo n):=fun ρ1 B1 H1 g _ _=>by
 refine ⟨fun i d e=>?_,by show n<=_;simp [Jf]⟩
 have hi:i < n:=by have:=(Ac.mp e).1;simpa [Jf] using this
 refine ⟨hi,fun y H' ⟨e',q⟩=>?_⟩
 subst e' q
 have:d=.int (lo+i):=by simp [Jf,hi] at e;exact e.symm
 subst this
 exact ⟨JQ,.inl rfl⟩
variable {tg iter:Expr}
def _root_.L2.PI.imp {wi wi':TI} (h:PI X tg iter wi) (i:∀ σ H R,wi' σ H R->wi σ H R):PI X tg iter wi':=fun O9 s σ H R I q=>h O9 s σ H R I (i σ H R q)
theorem Qbh (h:DE X iter f):DI X tg iter (iTp f):=(QfQ h).imp fun σ H R zz1=>by
 obtain ⟨Z,env,ρ,B,U,ds,hp',S,e,k⟩:=zz1
 obtain ⟨d,hp1,e1,e2⟩:=Qe e
 obtain ⟨rfl,rfl⟩:=XW e2
 refine tD.run S e1 fun v ρ1 B1 H1 g1 S1 r1=>?_
 obtain ⟨a,xs,rfl,nb,sq,rl⟩:=r1.tupI
 exact ⟨a,rfl,⟨xs,sq⟩,k _ ρ1 B1 H1 g1 S1.wo (Qe8 nb sq rl)⟩
def Vx (j:Int):Bool:=decide (-(2 ^ 62)<=j/\j < 2 ^ 62)
def QaC:List DV->M (List DV)
 | [.int j]=>do Qx (Vx j);pure (Jf 0 j.toNat)
 | _=>failure
def Qdi (f:DAx):DIx:=fun env=>do QaC (<- f env)
theorem QaD {ds out:List DV} {U hp':Hs} (h:QaC ds U=some (out,hp')):∃ j:Int,ds=[.int j]/\Vx j=true/\out=Jf 0 j.toNat/\U=hp':=by
 unfold QaC at h
 split at h
 ·obtain ⟨u,hp1,e1,e2⟩:=Qe h
  obtain ⟨h1,rfl⟩:=QH e1
  obtain ⟨rfl,rfl⟩:=Qh e2
  exact ⟨_,rfl,h1,rfl,rfl⟩
 ·cases h
theorem RepL.ints1 {K:Aa} {j:Int} {vs:List V} (h:RepL K ρ B H [.int j] vs):vs=[.int j]:=by
 unfold RepL at h
 obtain ⟨x,r,rfl,h1,h2⟩:=h
 unfold RepL at h2
 rw [h1.intI,h2]
theorem RepL.ints2 {K:Aa} {i j:Int} {vs:List V} (h:RepL K ρ B H [.int i,.int j] vs):vs=[.int i,.int j]:=by
 unfold RepL at h
 obtain ⟨x,r,rfl,h1,h2⟩:=h
 rw [h1.intI,h2.ints1]
theorem Qaa {x:Expr} {p:Pos} {f:DAx} (hg:Gl X "range") (hm:X.mg "range" = none) (ha:DA X [x] f) (hs:starEach [x] X.env=[(false,eval x X.env)]:=by rfl):DI X tg (.Call (.Name "range" p) [x] [] pos) (Qdi f) :=
 (Qay hg hm ha hs).imp fun σ H R zz1=>by
  obtain ⟨Z,env,ρ,B,U,ds,hp',S,e,k⟩:=zz1
  obtain ⟨d,hp1,e1,e2⟩:=Qe e
  obtain ⟨j,rfl,h1,rfl,rfl⟩:=QaD e2
  refine tDA.run S e1 fun vs ρ1 B1 H1 g1 S1 r1=>?_
  have h1':=Ed h1
  exact ⟨j,r1.ints1,h1'.1,h1'.2,k _ ρ1 B1 H1 g1 S1.wo QbC⟩
def Qbu (b:DV->DSx):List DV->DSx
  | [],env=>pure (.nx,env)
  | d::ds,env=>do
    let r <- b d env
    match r.1 with
    | .nx=>Qbu b ds r.2
    | .ct=>Qbu b ds r.2
    | .bk=>pure (.nx,r.2)
    | .rt x=>pure (.rt x,r.2)
def uP {K:Aa} {B:Em} {H:Hp} {p:Addr} (rb:∀ a∈ρ,B a) (h:H p=none):Gs K ρ B H ρ B (upd H p o):=(Gr.laid h).gs rb
def XJ (c:DTx) (b:DSx):Nat->DSx
  | 0,_=>failure
  | n+1,env=>do
    if <- c env then
      let r <- b env
      match r.1 with
      | .nx=>XJ c b n r.2
      | .ct=>XJ c b n r.2
      | .bk=>pure (.nx,r.2)
      | .rt x=>pure (.rt x,r.2)
    else pure (.nx,env)
theorem Qbm (n:Nat) {body:List Stmt} (U:PassesOwn (model X.prog X.w) X.A X.env X.xe) (hc:DT X c ca) (hb:DSs X body sb):DS X (.While c body [] pos) (XJ ca sb n) :=
  (Qca U hc hb).imp fun D σ H zz1=>by
    obtain ⟨Z,env,ρ,B,U,fl,env',hp',S,e,k⟩:=zz1
    refine ⟨fun m σ H1=>∃ env1 ρ1 B1 hp1,SOk X.K Z env1 σ ρ1 B1 hp1 H1/\Gs X.K ρ B H ρ1 B1 H1/\XJ ca sb m env1 hp1=some ((fl,env'),hp'),⟨n,env,ρ,B,U,S,Gs.refl,e⟩,?_⟩
    rintro m σ H1 ⟨env1,ρ1,B1,hp1,S1,g1,e1⟩
    cases m with
    | zero=>cases e1
    | succ m =>
      obtain ⟨x,hp2,e2,e3⟩:=Qe e1
      refine tDT.run S1 e2 fun ρ2 B2 H2 g2 S2=>?_
      have G2:=g1.trans (g2.gs S1.wo.rb)
      cases x with
      | false =>
        obtain ⟨z,rfl⟩:=Qh e3;cases z
        exact GO (k σ ρ2 B2 H2 G2 S2)
      | true =>
        obtain ⟨⟨f1,env4⟩,hp4,e4,e5⟩:=Qe e3
        refine GP ⟨fun σ' H'=>∃ env1 ρ1 B1 hp1,SOk X.K Z env1 σ' ρ1 B1 hp1 H'/\Gs X.K ρ B H ρ1 B1 H'/\XJ ca sb m env1 hp1=some ((fl,env'),hp'),fun σ' H' q=>⟨m,C0 m,q⟩,?_⟩
        refine ⟨Z,env1,ρ2,B2,hp2,f1,env4,hp4,S2,e4,fun σ6 ρ6 B6 H6 g6 S6=>?_⟩
        have G6:=G2.trans g6
        cases f1 with
        | nx=>exact ⟨env4,ρ6,B6,hp4,S6,G6,e5⟩
        | ct=>exact ⟨env4,ρ6,B6,hp4,S6,G6,e5⟩
        | bk=>obtain ⟨z,rfl⟩:=Qh e5;cases z;exact k σ6 ρ6 B6 H6 G6 S6
        | rt d=>obtain ⟨z,rfl⟩:=Qh e5;cases z;exact k σ6 ρ6 B6 H6 G6 S6
end
section
variable {K:Aa} {Z:Ent} {env:En} {σ:St} {ρ ρ':Eo} {B B':Em} {U hp':Hs} {H H':Hp}
def xX (B:Em) (p:Addr):Addr->Prop:=fun a=>B a∨a=p
theorem Gr.banned {p:Addr} (h:H p=none) (kf:K.lookup p=none):Gr K ρ B H ρ (xX B p) (upd H p o) where
 pre:=Cm
 ban:=fun _ h=>.inl h
 new:=fun a z=>z.elim .inl fun e=>.inr (e▸⟨h,kf⟩)
 rnew:=fun _ h=>.inl h
 keep:=fun a u _ q=>by rw [QI (Zy q h)];exact q
 trk:=(Gr.laid (K:=K) (ρ:=ρ) (B:=B) h).trk
theorem WOk.banned {p:Addr} (W:WOk K ρ B U H) (h:H p=none) (kf:K.lookup p=none):WOk K ρ (xX B p) U (upd H p o) where
 len:=W.len
 nd:=W.nd
 obj:=fun i a u e q=>ORep.gs ((Gr.banned h kf).gs W.rb) (QI (fun z=>W.bt a (W.rb a (Aw e)) (z▸h))) (W.obj i a u e q)
 rb:=fun a h=>.inl (W.rb a h)
 bt:=fun a z q=>by
  have q':=(Gr.laid (K:=K) (ρ:=ρ) (B:=B) h).trk a q
  rcases z with z | rfl
  ·exact W.bt a z q'
  ·rw [Q3] at q;cases q
 bk:=fun a z=>z.elim (W.bk a) fun e=>e▸kf
end
section
variable {X:Cx} {e a b c:Expr} {f fa fb:DEx} {ca cb:DTx} {pos:Pos} {st:Stmt} {sts rest:List Stmt} {s s':DSx}
def jG (i:Nat):DSx:=fun env=>pure (.nx,env.set i (.acc []))
def zJ (i:Nat) (env:En):En:=match env[i]? with
 | some (.acc ds)=>env.set i (.val (.lst ds))
 | _=>env
def jI (i:Nat) (f:DSx):DSx:=fun env=>f (zJ i env)
def jH (i:Nat) (f:DEx):DSx:=fun env=>do
 let d <- f env
 match env[i]? with
 | some (.acc ds)=>if ds.length < lim then pure (.nx,env.set i (.acc (ds++[d]))) else failure
 | _=>failure
def Qa8:Sl->Sl
 | .val d=>.val d
 | _=>.un
def cE (idx:List Nat) (env:En) (d:DV):En:=.val d::idx.map fun i=>Qa8 ((env[i]?).getD .un)
def Qga:DTx:=fun _=>pure true
variable {elt iter:Expr} {x:Str} {px:Pos} {ifs:List Expr} {scope:Scope} {cl:List (Str×Addr)} {caps:List Str} {idx:List Nat} {src:DIx} {te:DTx}
theorem cσ_ok {K:Aa} {Z:Ent} (S:SOk K Z env σ ρ B U H) (g:Gs K ρ B H ρ1 B1 H1) (W:WOk K ρ1 B1 hp1 H1) (r:RepV K ρ1 B1 H1 d v):
    SOk K ⟨ρ1,B1,H1⟩ (cE idx env d) (cσ idx σ (some v)) ρ1 B1 hp1 H1:=by
  refine ⟨Gr.refl,W.bt,W,fun i e h=>?_,fun i es h=>?_,fun i j es es' a h=>?_,by simp [cE,cσ]⟩
  . cases i with
    | zero =>
      have:d=e:=by simpa [cE] using h
      subst this
      exact ⟨v,by simp [cσ],r⟩
    | succ i =>
      cases q:idx[i]? with
      | none=>simp [cE,q] at h
      | some k =>
        have h':Qa8 ((env[k]?).getD .un)=.val e:=by simpa [cE,q] using h
        cases z:env[k]? with
        | none=>rw [z] at h';cases h'
        | some sl =>
          rw [z] at h'
          cases sl with
          | un=>cases h'
          | acc _=>cases h'
          | val e' =>
            have:e'=e:=by simpa [Qa8] using h'
            subst this
            obtain ⟨u,h1,h2⟩:=S.slot k e' z
            exact ⟨u,by simp [cσ,q,h1],RepV.gs g _ _ h2⟩
  . exfalso
    cases i with
    | zero=>simp [cE] at h
    | succ i =>
      cases q:idx[i]? with
      | none=>simp [cE,q] at h
      | some k =>
        have h':Qa8 ((env[k]?).getD .un)=.acc es:=by simpa [cE,q] using h
        cases z:(env[k]?).getD .un with
        | un=>rw [z] at h';cases h'
        | acc _=>rw [z] at h';cases h'
        | val _=>rw [z] at h';cases h'
  . exfalso
    cases i with
    | zero=>simp [cE] at h
    | succ i =>
      cases q:idx[i]? with
      | none=>simp [cE,q] at h
      | some k =>
        have h':Qa8 ((env[k]?).getD .un)=.acc es:=by simpa [cE,q] using h
        cases z:(env[k]?).getD .un with
        | un=>rw [z] at h';cases h'
        | acc _=>rw [z] at h';cases h'
        | val _=>rw [z] at h';cases h'
def DTs (X:Cx) (ifs:List Expr) (t:DTx):Prop:=PTs X ifs (tDT X.K t)
theorem Qc9:DTs X [] Qga:=fun O9 s σ H Q I zz1=>by
 obtain ⟨Z,env,ρ,B,U,d,hp',S,e,k⟩:=zz1
 obtain ⟨rfl,rfl⟩:=Qh e
 exact QdX O9 s σ H Q I (k ρ B H Gr.refl S.wo)
def yf (h:DT X c te):DTs X [c] te:=QdY h
def Q2 (n:Nat) (body:DSx):List DV->M DV:=fun ds=>do
 let r <- body (ds.map .val++List.replicate (n - ds.length) .un)
 match r.1 with
 | .nx=>pure .non
 | .rt d=>pure d
 | _=>failure
def spD (K:Aa) (n:Nat) (F:Ep):Sp:=fun vs H Q _=>vs.length=n/\∃ ρ B U ds d hp',WOk K ρ B U H/\RepL K ρ B H ds vs/\F ds U=some (d,hp')/\Fol K ρ B H d hp' Q
structure Has (P:Program) (w:World) (K:Aa) (mg:Ei) (O8:Heap) (x:Str) (k n:Nat) (F:Ep):Prop where
 ex:∃ (g:Addr) (fd:FuncData) (ps:List Str),qD P w K mg O8 CX0 k g fd ps (spD K n F)/\Binds K fd ps []/\PySem.W.keepIn K (.ref g)=true/\mg x=some (.ref g)
theorem xr {K:Aa} {N:List Str} (W:WOk K ρ B U H) (r:RepL K ρ B H ds vs):
  SOk K ⟨ρ,B,H⟩ (ds.map .val++List.replicate (N.length - ds.length) .un) (L2.start N vs) ρ B U H:=by
 have hl:=r.length
 have at_:∀ {i:Nat} {z:Sl},(ds.map Sl.val++List.replicate (N.length - ds.length) Sl.un)[i]?=some z->z=.un∨∃ d,ds[i]?=some d/\z=.val d:=fun {i z} h=>by
  by_cases hi:i < ds.length
  ·rw [Ah (by simpa using hi),Bu,Ab hi] at h
   cases h
   exact .inr ⟨_,Ab hi,rfl⟩
  ·rw [Aq (by simpa using hi),List.getElem?_replicate] at h
   split at h
   ·cases h;exact .inl rfl
   ·cases h
 refine ⟨Gr.refl,W.bt,W,fun i d h=>?_,fun i es h=>?_,fun i j es es' a h=>?_,by unfold L2.start;simp;lia⟩
 ·rcases at_ h with z | ⟨d',q,z⟩
  ·cases z
  ·cases z
   obtain ⟨v,h1,h2⟩:=r.get q
   refine ⟨v,?_,h2⟩
   unfold L2.start
   have hi:i < vs.length:=(Ac.mp h1).1
   rw [Ah (by simpa using hi),Bu,h1]
   rfl
 ·rcases at_ h with z | ⟨d',q,z⟩<;>cases z
 ·rcases at_ h with z | ⟨d',q,z⟩<;>cases z
theorem Qe5 {P:Program} {w:World} {K:Aa} {mg:Ei} {O8:Heap} {x:Str} {g:Addr} {k:Nat} {body:DSx} (F:Fun K x x stm g fd) (Sc:Qt N ps (Qo stm)) (hm:mg x=some (.ref g))
  (hb:∀ (kV doc pm:Value) (an:Option Addr) (cdv ct:Value) (us:List Value),us.length=ps.length->bindArgs (PySem.W.fnOf x x (Jv stm) (ZB stm) (Qo stm) .none kV doc pm an cdv ct) ⟨us,[]⟩=pure (ps.zip us))
  (h:∀ (cdv:Value) (A:Around) (outer:List Env) (s:Shared) (H:Hp) (E:XK),Room k (A.deeper (envOfC x (Qo stm) s.heap.objs.size g cdv))->DSs (xZ CX0 P w K mg O8 N x (Qo stm) g cdv A outer s H E).nox (ZB stm) body) :
  Has P w K mg O8 x (k+1) ps.length (Q2 N.length body):=by
 refine ⟨g,fd,ps,F.ok Sc (fun vs H Q E h=>h.1) (fun cdv A outer s H vs Q E hr sp=>?_),F.binds hb,F.kp,hm⟩
 obtain ⟨hn,ρ,B,U,ds,d,hp',W,r,e,k⟩:=sp
 obtain ⟨⟨fl,env'⟩,hp1,e1,e2⟩:=Qe e
 refine ⟨_,h cdv A outer s H E hr,⟨ρ,B,H⟩,_,ρ,B,U,fl,env',hp1,xr W r,e1,fun σ' ρ' B' H' g' S'=>?_⟩
 cases fl with
 | nx=>obtain ⟨rfl,rfl⟩:=Qh e2;exact k .non ρ' B' H' S'.gr S'.wo zd
 | rt x=>obtain ⟨rfl,rfl⟩:=Qh e2;exact fun v rv=>k v ρ' B' H' S'.gr S'.wo rv
 | bk=>cases e2
 | ct=>cases e2
def Qv (n:Nat) (F:Ep) (a:DAx):DEx:=fun env=>do
 let ds <- a env
 Qx (decide (ds.length=n))
 F ds
theorem QF {y:Str} {k j n:Nat} {F:Ep} {e:Expr} {es:List Expr} {fa:DAx} {p:Pos} (h:Has X.prog X.w X.K X.mg X.O8 y j n F) (hr:Room k X.A) (hj:j<=k) (hx:Yn CX0 X E0) (ha:DA X (e::es) fa) (hg:Gl X y:=by rfl)
  (hdb:(y==("__debug__" : Str))=false:=by decide) (he:starEach (e::es) X.env=(false,eval e X.env)::starEach es X.env:=by rfl) (hpl:(backTo pos (starEach es X.env)).any (·.1)=false:=by rfl):DE X (.Call (.Name y p) (e::es) [] pos) (Qv n F fa):=by
 obtain ⟨g,fd,ps,F',hb,hk,hm⟩:=h.ex
 refine L2.PE.imp (QdF F' (hr.mono hj) hg hm hk hb .nil hx ha hdb he hpl) fun σ H Q zz1=>?_
 obtain ⟨Z,env,ρ,B,U,d,hp',S,e,k⟩:=zz1
 obtain ⟨ds,hp1,e1,e2⟩:=Qe e
 obtain ⟨_,hp2,e3,e4⟩:=Qe e2
 obtain ⟨hl,rfl⟩:=QH e3
 refine tDA.run S e1 fun vs ρ1 B1 H1 g1 S1 r1=>?_
 refine ⟨by rw [Bt,<- r1.length];exact Ed hl,ρ1,B1,hp1,ds,d,hp',S1.wo,by rw [Bt];exact r1,e4,k.after g1⟩
end
section
variable {X:Cx} {e a b c:Expr} {f fa fb fc:DEx} {ca cb:DTx} {pos:Pos}
def qx (C:Int->Int->Bool) (g:Int->Int->DV):DV->DV->M DV
 | .int i,.int j=>if C i j then pure (g i j) else failure
 | _,_=>failure
theorem xf {C:Int->Int->Bool} {g:Int->Int->DV} {x y d:DV} {U hp':Hs} (h:qx C g x y U=some (d,hp')):∃ i j,x=.int i/\y=.int j/\C i j=true/\d=g i j/\U=hp':=by
 unfold qx at h
 split at h
 ·rename_i i j
  by_cases hc:C i j=true
  ·rw [C8 hc] at h
   obtain ⟨rfl,rfl⟩:=Qh h
   exact ⟨i,j,rfl,rfl,hc,rfl,rfl⟩
  ·rw [C7 hc] at h;cases h
 ·cases h
theorem KH {g:Value->Value->Sem Value} {C:Int->Int->Bool} {P:Int->Int->Prop} {q:Int->Int->Int} (ho:OpR X g (rI P fun i j=>.int (q i j))) (hC:∀ i j,C i j=true->P i j):P2 X g (qx C fun i j=>.int (q i j)):=by
 intro O9 s σ H x y v u Q I rx ry h
 refine ho O9 s σ H x y v u Q I rx ry ?_
 obtain ⟨ρ,B,U,dx,dy,d,hp',W,r1,r2,e,k⟩:=h
 obtain ⟨i,j,rfl,rfl,hc,rfl,rfl⟩:=xf e
 exact ⟨i,j,r1.intI,r2.intI,hC i j hc,k _ ρ B H Gr.refl W JQ⟩
theorem QdB {g:Value->Value->Sem Value} {q:Int->Int->Int} (ho:OpR X g (rI0 fun i j=>.int (q i j))):P2 X g (qx (fun _ _=>true) fun i j=>.int (q i j)):=by
 intro O9 s σ H x y v u Q I rx ry h
 refine ho O9 s σ H x y v u Q I rx ry ?_
 obtain ⟨ρ,B,U,dx,dy,d,hp',W,r1,r2,e,k⟩:=h
 obtain ⟨i,j,rfl,rfl,hc,rfl,rfl⟩:=xf e
 exact ⟨i,j,r1.intI,r2.intI,k _ ρ B H Gr.refl W JQ⟩
theorem yj {g:Value->Value->Sem Value} {q:Int->Int->Bool} (ho:OpR X g (rI0 fun i j=>.bl (q i j))):P2 X g (qx (fun _ _=>true) fun i j=>.bl (q i j)):=by
 intro O9 s σ H x y v u Q I rx ry h
 refine ho O9 s σ H x y v u Q I rx ry ?_
 obtain ⟨ρ,B,U,dx,dy,d,hp',W,r1,r2,e,k⟩:=h
 obtain ⟨i,j,rfl,rfl,hc,rfl,rfl⟩:=xf e
 exact ⟨i,j,r1.intI,r2.intI,k _ ρ B H Gr.refl W ZH⟩
def QeU (i j:Int):Bool:=decide ((-(2 ^ 64) < i/\i < 2 ^ 64)∨(-(2 ^ 64) < j/\j < 2 ^ 64))
def Qgu (_ j:Int):Bool:=decide (0 < j/\j < 1073741824)
def Qgv (_ j:Int):Bool:=decide (0 < j)
def Qhy (i j:Int):Bool:=decide (0<=j/\j<=1000000/\i.natAbs < 2 ^ 64)
def V7:DV->DV->M DV:=qx (fun _ _=>true) fun i j=>.int (i - j)
def jw:DV->DV->M DV:=qx QeU fun i j=>.int (i * j)
def Qbi:DV->DV->M DV:=qx Qgu fun i j=>.int (i / j)
def yV:DV->DV->M DV:=qx Qgv fun i j=>.int (i % j)
def qQ:DV->DV->M DV:=qx Qhy fun i j=>.int (i ^ j.toNat)
def ltD:DV->DV->M DV:=qx (fun _ _=>true) fun i j=>.bl (decide (i < j))
def leD:DV->DV->M DV:=qx (fun _ _=>true) fun i j=>.bl (decide (i<=j))
def gtD:DV->DV->M DV:=qx (fun _ _=>true) fun i j=>.bl (decide (j < i))
def geD:DV->DV->M DV:=qx (fun _ _=>true) fun i j=>.bl (decide (j<=i))
def y6:P2 X (binaryOp .Sub) V7:=QdB QfA
def yZ:P2 X (binaryOp .Mult) jw:=KH Qfy fun i j h=>Ed (p:=(-(2 ^ 64) < i/\i < 2 ^ 64)∨(-(2 ^ 64) < j/\j < 2 ^ 64)) h
def QeG:P2 X (binaryOp .FloorDiv) Qbi:=KH Qdz fun i j h=>Ed (p:=0 < j/\j < 1073741824) h
def xH:P2 X (binaryOp .Mod) yV:=KH Qfx fun _ _ h=>Ed h
def zt:P2 X (binaryOp .Pow) qQ:=KH Qfz fun i j h=>Ed (p:=0<=j/\j<=1000000/\i.natAbs < 2 ^ 64) h
def KI:P2 X (compareOp .Lt) ltD:=yj Qg0
def QdE:P2 X (compareOp .LtE) leD:=yj QgZ
def QdD:P2 X (compareOp .Gt) gtD:=yj QgY
def Qg1:P2 X (compareOp .GtE) geD:=yj QgX
def QgV:DV->M DV
 | .int i=>pure (.int (-i))
 | _=>failure
def jh (f:DEx):DEx:=fun env=>do QgV (<- f env)
theorem QbV:OpR X (binaryOp .Add) (fun x y H Q=>∃ a b ys,x=.ref a/\y=.ref b/\SqT X.K H a []/\SqT X.K H b ys/\ys.length<=sizeLine/\Q (.ref b) H):=by
 intro O9 s σ H x y v u Q I rx ry h
 obtain ⟨a,b,ys,rfl,rfl,ha,hb,hz,q⟩:=h
 cases rx
 cases ry
 obtain ⟨its,r1,p1,_⟩:=I.tuple ha
 obtain ⟨its2,r2,p2,_⟩:=I.tuple hb
 obtain ⟨m,F⟩:=I.fr
 have z:its=[]:=by cases r1;rfl
 subst z
 exact add_tuples F (QbS (g:=X.O8) (L:=X.env.locals)) p1 p2 (fun _=>⟨.ref b,H,I,rfl,q⟩) (fun n=>absurd rfl n) (fun n=>absurd rfl n) (by have:=r2.length;simp;lia)
def Jd:DV->DV->M DV
 | .int i,.int j=>pure (.int (i+j))
 | .tup xs,.tup ys=>do Qx (YT (xs++ys));pure (.tup (xs++ys))
 | .lst xs,.lst ys=>do Qx (YT (xs++ys));pure (.lst (xs++ys))
 | _,_=>failure
theorem gY:OpR X (binaryOp .Add) (fun x y H Q=>∃ l b xs zs,x=.ref l/\y=.ref b/\SqL X.K H l xs/\SqL X.K H b zs/\xs.length+zs.length<=sizeLine/\∀ p,H p=none->Q (.ref p) (upd H p (.lst (xs++zs)))):=by
 intro O9 s σ H x y v u Q I rx ry h
 obtain ⟨l,b,xs,zs,rfl,rfl,hl,hb,hz,q⟩:=h
 cases rx
 cases ry
 obtain ⟨its,r1,⟨⟨k1,dd1,da1,sl1⟩,n1,e1,c1,d1,s1⟩,_⟩:=I.list hl
 obtain ⟨its2,r2,⟨⟨k2,dd2,da2,sl2⟩,n2,e2,c2,d2,s2⟩,_⟩:=I.list hb
 simp only at c1 d1 s1 c2 d2 s2
 subst c1 d1 s1 c2 d2 s2
 have ea:its.toArray++its2.toArray=(its++its2).toArray:=by simp
 have hz':its.length+its2.length<=sizeLine:=by rw [<- r1.length,<- r2.length];exact hz
 refine concat_meets (T := "list") ⟨_,e1,rfl⟩ ⟨_,e2,rfl⟩ noFill_list_add seq_list_add PySem.F.slot_list_add PySem.F.entry_list_add (PySem.F.args_list_add_2 _ _) (list_addW l b its.toArray its2.toArray n1 n2 none none sl1 sl2 (by simpa using hz')) ⟨e1,e2,?_⟩
 rw [ea]
 exact ⟨.ref _,_,I.lnew (t':=s.toks) (r1.append r2) (by rw [An];exact hz),rfl,q _ I.fresh⟩
theorem Jy:P2 X (binaryOp .Add) Jd:=by
 intro O9 s σ H x y v u Q I rx ry h
 obtain ⟨ρ,B,U,dx,dy,d,hp',W,r1,r2,e,k⟩:=h
 unfold Jd at e
 split at e
 ·obtain ⟨rfl,rfl⟩:=Qh e
  exact Qfv O9 s σ H x y v u Q I rx ry ⟨_,_,r1.intI,r2.intI,k _ ρ B H Gr.refl W JQ⟩
 ·rename_i xs ys
  obtain ⟨_,hp1,e1,e2⟩:=Qe e
  obtain ⟨hs,rfl⟩:=QH e1
  obtain ⟨rfl,rfl⟩:=Qh e2
  obtain ⟨a,vs,rfl,n1,q1,l1⟩:=r1.tupI
  obtain ⟨b,ws,rfl,n2,q2,l2⟩:=r2.tupI
  have hz:vs.length+ws.length<=sizeLine:=by
   have:=qV hs
   rw [An] at this
   rw [<- l1.length,<- l2.length];exact this
  by_cases hv:vs=[]
  ·subst hv
   have:xs=[]:=by have:=l1.length;cases xs with | nil=>rfl | cons _ _=>simp at this
   subst this
   exact QbV O9 s σ H _ _ v u Q I rx ry ⟨a,b,ws,rfl,rfl,q1,q2,by simp at hz;exact hz,k _ ρ B H Gr.refl W (Ye n2 q2 l2)⟩
  ·refine Qdy O9 s σ H _ _ v u Q I rx ry ⟨a,b,vs,ws,rfl,rfl,q1,q2,hv,hz,fun hw=>?_,fun hw=>jn W (RepL.append l1 l2) k⟩
   subst hw
   have:ys=[]:=by have:=l2.length;cases ys with | nil=>rfl | cons _ _=>simp at this
   subst this
   rw [Bt] at k
   exact k _ ρ B H Gr.refl W (Ye n1 q1 l1)
 ·rename_i xs ys
  obtain ⟨_,hp1,e1,e2⟩:=Qe e
  obtain ⟨hs,rfl⟩:=QH e1
  obtain ⟨rfl,rfl⟩:=Qh e2
  obtain ⟨a,vs,rfl,n1,q1,l1⟩:=r1.lstI
  obtain ⟨b,ws,rfl,n2,q2,l2⟩:=r2.lstI
  have hz:vs.length+ws.length<=sizeLine:=by
   have:=qV hs
   rw [An] at this
   rw [<- l1.length,<- l2.length];exact this
  exact gY O9 s σ H _ _ v u Q I rx ry ⟨a,b,vs,ws,rfl,rfl,q1,q2,hz,jm W (RepL.append l1 l2) k⟩
 ·cases e
def isN:DV->Bool
 | .non=>true
 | _=>false
theorem gG {K:Aa} {v:V} (r:RepV K ρ B H d v):decide (v=.non)=isN d:=by
 cases d with
 | non=>rw [r.nonI];rfl
 | bl b=>rw [r.blI];rfl
 | int b=>rw [r.intI];rfl
 | str b=>rw [r.strI];rfl
 | tup b=>obtain ⟨a,xs,rfl,_⟩:=r.tupI;rfl
 | lst b=>obtain ⟨a,xs,rfl,_⟩:=r.lstI;rfl
 | ref b=>obtain ⟨a,rfl,_⟩:=r.refI;rfl
def isD:DV->DV->M DV
 | x,.non=>pure (.bl (isN x))
 | .bl p,.bl q=>pure (.bl (p==q))
 | _,_=>failure
def jt:DV->DV->M DV
 | x,.non=>pure (.bl (!isN x))
 | .bl p,.bl q=>pure (.bl (p != q))
 | _,_=>failure
theorem GZ:P2 X (compareOp .Is) isD:=by
 intro O9 s σ H x y v u Q I rx ry h
 obtain ⟨ρ,B,U,dx,dy,d,hp',W,r1,r2,e,k⟩:=h
 unfold isD at e
 split at e
 ·obtain ⟨rfl,rfl⟩:=Qh e
  refine Qfw O9 s σ H x y v u Q I rx ry ⟨r2.nonI,?_⟩
  rw [gG r1]
  exact k _ ρ B H Gr.refl W ZH
 ·obtain ⟨rfl,rfl⟩:=Qh e
  obtain rfl:=r1.blI
  obtain rfl:=r2.blI
  cases rx;cases ry
  exact is_bool ⟨.bl _,H,I,rfl,k _ ρ B H Gr.refl W ZH⟩
 ·cases e
theorem xG:P2 X (compareOp .IsNot) jt:=by
 intro O9 s σ H x y v u Q I rx ry h
 obtain ⟨ρ,B,U,dx,dy,d,hp',W,r1,r2,e,k⟩:=h
 unfold jt at e
 split at e
 ·obtain ⟨rfl,rfl⟩:=Qh e
  refine QdA O9 s σ H x y v u Q I rx ry ⟨r2.nonI,?_⟩
  rw [gG r1]
  exact k _ ρ B H Gr.refl W ZH
 ·obtain ⟨rfl,rfl⟩:=Qh e
  obtain rfl:=r1.blI
  obtain rfl:=r2.blI
  cases rx;cases ry
  exact isnot_bool ⟨.bl _,H,I,rfl,k _ ρ B H Gr.refl W ZH⟩
 ·cases e
theorem Kb {K:Aa} {i:Int} (r:RepL K ρ B H ds xs) (h:atI ds i=some d):∃ x,atI xs i=some x/\RepV K ρ B H d x:=by
  unfold atI at h ⊢
  rw [<- r.length]
  cases q:ixN ds.length i with
  | none=>rw [q] at h;cases h
  | some j =>
    rw [q] at h
    exact r.get h
def ixD:DV->DV->M DV
  | .tup ds,.int i=>match atI ds i with
    | some d=>pure d
    | none=>failure
  | .lst ds,.int i=>match atI ds i with
    | some d=>pure d
    | none=>failure
  | _,_=>failure
theorem Qg2:IxR X (tP2 X.K ixD):=by
  intro value slice O9 s σ H x y v u Q I rx ry h hsub
  obtain ⟨ρ,B,U,dx,dy,d,hp',W,r1,r2,e,k⟩:=h
  unfold ixD at e
  split at e
  . rename_i ds i
    cases q:atI ds i with
    | none=>rw [q] at e;cases e
    | some d' =>
      rw [q] at e
      obtain ⟨rfl,rfl⟩:=Qh e
      obtain ⟨a,xs,rfl,n1,q1,l1⟩:=r1.tupI
      obtain ⟨z,hz,rz⟩:=Kb l1 q
      exact Qe9 value slice O9 s σ H _ _ v u Q I rx ry ⟨a,xs,i,z,rfl,r2.intI,q1,hz,k _ ρ B H Gr.refl W rz⟩ hsub
  . rename_i ds i
    cases q:atI ds i with
    | none=>rw [q] at e;cases e
    | some d' =>
      rw [q] at e
      obtain ⟨rfl,rfl⟩:=Qh e
      obtain ⟨a,xs,rfl,n1,q1,l1⟩:=r1.lstI
      obtain ⟨z,hz,rz⟩:=Kb l1 q
      exact gJ value slice O9 s σ H _ _ v u Q I rx ry ⟨a,xs,i,z,rfl,r2.intI,q1,hz,k _ ρ B H Gr.refl W rz⟩ hsub
  . cases e
theorem Ju (ha:DE X a fa) (hb:DE X b fb) (hs:U7 b:=by intro _ _;rfl):DE X (.Subscript a b pos) (Qk ixD fa fb):=L2.PE.imp (QeI Qg2 ha hb hs) fun _ _ _ h=>qF h
end
mutual
def toP:DV->PyData
 | .non=>.none
 | .bl b=>.bool b
 | .int i=>.int i
 | .str x=>.str x
 | .tup xs=>.tuple (toPs xs)
 | .lst xs=>.list (toPs xs)
 | .ref _=>.none
def toPs:List DV->List PyData
 | []=>[]
 | d::ds=>toP d::toPs ds
end
mutual
def Uy:DV->Bool
 | .ref _=>false
 | .tup xs=>noRefs xs
 | .lst xs=>noRefs xs
 | _=>true
def noRefs:List DV->Bool
 | []=>true
 | d::ds=>Uy d&&noRefs ds
end
section
variable {X:Cx} {O9:Eh} {σ:St} {H:Hp} {s:Shared} {ρ:Eo} {B:Em}
mutual
theorem Vd (I:Inv X O9 σ H s):∀ (d:DV) (v:V) (u:Value),RepV X.K ρ B H d v->RelV v u->Uy d=true->∃ as,Reads s.heap u (toP d) as
  | .non,_,_,r,ru,_=>by obtain rfl:=r.nonI;cases ru;exact ⟨[],by unfold toP;exact .none⟩
  | .bl b,_,_,r,ru,_=>by obtain rfl:=r.blI;cases ru;exact ⟨[],by unfold toP;exact .bool b⟩
  | .int i,_,_,r,ru,_=>by obtain rfl:=r.intI;obtain ⟨t,rfl⟩:=ru;exact ⟨[],by unfold toP;exact .int i t⟩
  | .str x,_,_,r,ru,_=>by obtain rfl:=r.strI;obtain ⟨t,rfl⟩:=ru;exact ⟨[],by unfold toP;exact .str x t⟩
  | .ref _,_,_,_,_,n=>by cases n
  | .tup ds,_,_,r,ru,n=>by
    obtain ⟨a,xs,rfl,_,sq,rl⟩:=r.tupI
    cases ru
    obtain ⟨its,rv,⟨o,e,hc,k,hd⟩,_⟩:=I.tuple sq
    obtain ⟨as,q⟩:=reads_all I ds xs its rl rv (by unfold Uy at n;exact n)
    exact ⟨_,by unfold toP;exact reads_tuple_at e hc hd (by simpa using q)⟩
  | .lst ds,_,_,r,ru,n=>by
    obtain ⟨a,xs,rfl,_,sq,rl⟩:=r.lstI
    cases ru
    obtain ⟨its,rv,⟨o,k,e,hc,_,hd⟩,_⟩:=I.list sq
    obtain ⟨as,q⟩:=reads_all I ds xs its rl rv (by unfold Uy at n;exact n)
    exact ⟨_,by unfold toP;exact reads_list_at e hc hd (by simpa using q)⟩
theorem reads_all (I:Inv X O9 σ H s):∀ (ds:List DV) (xs:List V) (us:List Value),RepL X.K ρ B H ds xs->Vals xs us->noRefs ds=true->∃ as,ReadsAll s.heap us (toPs ds) as
  | [],_,_,r,ru,_=>by unfold RepL at r;subst r;cases ru;exact ⟨[],by unfold toPs;exact .nil⟩
  | d::ds,_,_,r,ru,n=>by
    unfold RepL at r
    obtain ⟨x,xs,rfl,r1,r2⟩:=r
    cases ru with
    | cons q1 q2 =>
      unfold noRefs at n
      rw [Bc] at n
      obtain ⟨as,h1⟩:=Vd I d x _ r1 q1 n.1
      obtain ⟨bs,h2⟩:=reads_all I ds xs _ r2 q2 n.2
      exact ⟨_,by unfold toPs;exact .cons h1 h2⟩
end
end
def okP (d:DV):Bool:=Uy d&&SeqAt.shaped (toP d)
def eqD:DV->DV->M DV:=fun x y=>do Qx (okP x&&okP y);pure (.bl (PyData.eqv (toP x) (toP y)))
def neD:DV->DV->M DV:=fun x y=>do Qx (okP x&&okP y);pure (.bl (!PyData.eqv (toP x) (toP y)))
section
variable {X:Cx} {e a b c:Expr} {f fa fb fc:DEx} {ca cb:DTx} {pos:Pos}
theorem QdC (hu:X.A.units+64 < cLine):P2 X (compareOp .Eq) eqD:=by
 intro O9 s σ H x y v u Q I rx ry h
 obtain ⟨ρ,B,U,dx,dy,d,hp',W,r1,r2,e,k⟩:=h
 obtain ⟨_,hp1,e1,e2⟩:=Qe e
 obtain ⟨hs,rfl⟩:=QH e1
 obtain ⟨rfl,rfl⟩:=Qh e2
 simp only [okP,Bc] at hs
 obtain ⟨as,q1⟩:=Vd I dx x v r1 rx hs.1.1
 obtain ⟨bs,q2⟩:=Vd I dy y u r2 ry hs.2.1
 exact eq_dataH q1 q2 hs.1.2 hs.2.2 hu ⟨.bl _,H,I,rfl,k _ ρ B H Gr.refl W ZH⟩
def tPn (K:Aa) (g:Ep):List V->Hp->VK->Prop:=fun xs H Q=>∃ ρ B U ds d hp',WOk K ρ B U H/\RepL K ρ B H ds xs/\g ds U=some (d,hp')/\Fol K ρ B H d hp' Q
def ZW (g:Ep) (a:DAx):DEx:=fun env=>do g (<- a env)
theorem GA {K:Aa} {g:Ep} {fa:DAx} {σ:St} {H:Hp} {Q:VK} (h:tD K (ZW g fa) σ H Q):tCB (tPn K g) (tDA K fa) σ H Q:=by
 obtain ⟨Z,env,ρ,B,U,d,hp',S,e,k⟩:=h
 obtain ⟨ds,hp1,e1,e2⟩:=Qe e
 exact tDA.run S e1 fun vs ρ1 B1 H1 g1 S1 r1=>⟨ρ1,B1,hp1,ds,d,hp',S1.wo,r1,e2,k.after g1⟩
theorem JT {x:Str} {id:String} {g:Ep} {e:Expr} {es:List Expr} {fa:DAx} {p:Pos} (hc:CallR X (.builtin id) (tPn X.K g)) (hm:X.mg x=none) (hv:bootBuiltins x=some (.builtin id)) (ha:DA X (e::es) fa) (hg:Gl X x:=by rfl) (hn:x ≠ "__name__" := by decide) (hdb:(x==("__debug__" : Str))=false:=by decide)
  (he:starEach (e::es) X.env=(false,eval e X.env)::starEach es X.env:=by rfl) (hpl:(backTo pos (starEach es X.env)).any (·.1)=false:=by rfl):DE X (.Call (.Name x p) (e::es) [] pos) (ZW g fa) :=
 L2.PE.imp (y9 hc hg hm hv ha hn hdb he hpl) fun _ _ _ h=>GA h
theorem Qbe {x:Str} {T:String} {g:Ep} {e:Expr} {es:List Expr} {fa:DAx} {p:Pos} (hc:CallR X (.type T) (tPn X.K g)) (hm:X.mg x=none) (hv:bootBuiltins x=some (.type T)) (ha:DA X (e::es) fa) (hg:Gl X x:=by rfl) (hn:x ≠ "__name__" := by decide) (hdb:(x==("__debug__" : Str))=false:=by decide)
  (he:starEach (e::es) X.env=(false,eval e X.env)::starEach es X.env:=by rfl) (hpl:(backTo pos (starEach es X.env)).any (·.1)=false:=by rfl):DE X (.Call (.Name x p) (e::es) [] pos) (ZW g fa) :=
 L2.PE.imp (Qau hc hg hm hv ha hn hdb he hpl) fun _ _ _ h=>GA h
theorem RepL.oneI {K:Aa} {vs:List V} (h:RepL K ρ B H [d] vs):∃ v,vs=[v]/\RepV K ρ B H d v:=by
 unfold RepL at h
 obtain ⟨x,r,rfl,h1,h2⟩:=h
 unfold RepL at h2;subst h2
 exact ⟨x,rfl,h1⟩
def qd:List DV->M DV
 | [.tup ds]=>pure (.int ds.length)
 | [.lst ds]=>pure (.int ds.length)
 | _=>failure
theorem gc:CallR X (.builtin "len") (tPn X.K qd):=by
 intro O9 s σ H xs us Q I r h
 obtain ⟨ρ,B,U,ds,d,hp',W,rl,e,k⟩:=h
 unfold qd at e
 split at e
 ·obtain ⟨rfl,rfl⟩:=Qh e
  obtain ⟨v,rfl,rv⟩:=rl.oneI
  obtain ⟨a,ys,rfl,_,sq,l⟩:=rv.tupI
  exact Y6 O9 s σ H _ us Q I r ⟨a,ys,rfl,.inr sq,by rw [<- l.length];exact k _ ρ B H Gr.refl W JQ⟩
 ·obtain ⟨rfl,rfl⟩:=Qh e
  obtain ⟨v,rfl,rv⟩:=rl.oneI
  obtain ⟨a,ys,rfl,_,sq,l⟩:=rv.lstI
  exact Y6 O9 s σ H _ us Q I r ⟨a,ys,rfl,.inl sq,by rw [<- l.length];exact k _ ρ B H Gr.refl W JQ⟩
 ·cases e
def KD:List DV->M DV
 | [.int i,.int j]=>pure (.int (if j < i then j else i))
 | _=>failure
theorem Qa7 (hc:X.calm=true):CallR X (.builtin "min") (tPn X.K KD):=by
 intro O9 s σ H xs us Q I r h
 obtain ⟨ρ,B,U,ds,d,hp',W,rl,e,k⟩:=h
 unfold KD at e
 split at e
 ·obtain ⟨rfl,rfl⟩:=Qh e
  exact kS hc O9 s σ H xs us Q I r ⟨_,_,rl.ints2,k _ ρ B H Gr.refl W JQ⟩
 ·cases e
def Qge:List DV->M DV
 | [.lst ds]=>pure (.tup ds)
 | [.tup ds]=>pure (.tup ds)
 | _=>failure
theorem Qc0:CallR X (.type "tuple") (tPn X.K Qge):=by
 intro O9 s σ H xs us Q I r h
 obtain ⟨ρ,B,U,ds,d,hp',W,rl,e,k⟩:=h
 unfold Qge at e
 split at e
 ·obtain ⟨rfl,rfl⟩:=Qh e
  obtain ⟨v,rfl,rv⟩:=rl.oneI
  obtain ⟨a,ys,rfl,_,sq,l⟩:=rv.lstI
  exact Yp O9 s σ H _ us Q I r ⟨a,ys,rfl,.inl ⟨sq,jn W l k⟩⟩
 ·obtain ⟨rfl,rfl⟩:=Qh e
  obtain ⟨v,rfl,rv⟩:=rl.oneI
  obtain ⟨a,ys,rfl,nb,sq,l⟩:=rv.tupI
  exact Yp O9 s σ H _ us Q I r ⟨a,ys,rfl,.inr ⟨sq,k _ ρ B H Gr.refl W (Ye nb sq l)⟩⟩
 ·cases e
def VC:DV->Option String
 | .non=>some "NoneType"
 | .bl _=>some "bool"
 | .int _=>some "int"
 | .str _=>some "str"
 | .tup _=>some "tuple"
 | .lst _=>some "list"
 | .ref _=>none
def yM (t T:String):Bool:=t==T||(t == "bool" && T == "int")
theorem Qgw {T:String} (hT:T∈["int", "bool", "tuple", "str", "list"]):CallR X (.builtin "isinstance") (fun xs H Q=>∃ ρ B d x t,xs=[x,.ty T]/\RepV X.K ρ B H d x/\VC d=some t/\Q (.bl (yM t T)) H):=by
  intro O9 s σ H xs us Q I r h
  obtain ⟨ρ,B,d,x,t,rfl,rv,ht,q⟩:=h
  obtain ⟨u,w',rfl,ru,rw'⟩:=VG r
  cases rw'
  have fin:∀ tk,EP X O9 σ Q (.bool (yM t T)) { s with toks:=tk }:=fun tk=>⟨.bl _,H,I.tok _,rfl,q⟩
  have kit:PySem.W.kitOne X.K (.type t) (.type T)=some (yM t T):=by
    have:t∈["NoneType", "bool", "int", "str", "tuple", "list"]:=by
      cases d<;>cases ht<;>simp
    simp only [Bk,Cf,or_false] at this hT
    rcases this with rfl | rfl | rfl | rfl | rfl | rfl<;>rcases hT with rfl | rfl | rfl | rfl | rfl<;>first | rfl | decide | with_unfolding_all rfl | kernel_rfl
  cases d with
  | non=>obtain rfl:=rv.nonI;cases ht;cases ru;exact PySem.W.kia_one PySem.W.kitx_none I.kIn True.intro kit (fun z=>nomatch z) fin
  | bl b=>obtain rfl:=rv.blI;cases ht;cases ru;exact PySem.W.kia_one PySem.W.kitx_bool I.kIn True.intro kit (fun z=>nomatch z) fin
  | int b=>obtain rfl:=rv.intI;cases ht;obtain ⟨tk,rfl⟩:=ru;exact PySem.W.kia_one PySem.W.kitx_int I.kIn True.intro kit (fun z=>nomatch z) fin
  | str b=>obtain rfl:=rv.strI;cases ht;obtain ⟨tk,rfl⟩:=ru;exact PySem.W.kia_one PySem.W.kitx_str I.kIn True.intro kit (fun z=>nomatch z) fin
  | ref b=>cases ht
  | tup b =>
    cases ht
    obtain ⟨a,ys,rfl,_,sq,_⟩:=rv.tupI
    cases ru
    obtain ⟨its,_,⟨o,e1,e2,_⟩,_⟩:=I.tuple sq
    exact PySem.W.kia_one PySem.W.kitx_tuple I.kIn ⟨o,e1,e2⟩ kit (fun z=>nomatch z) fin
  | lst b =>
    cases ht
    obtain ⟨a,ys,rfl,_,sq,_⟩:=rv.lstI
    cases ru
    obtain ⟨its,_,⟨o,k,e1,e2,_⟩,_⟩:=I.list sq
    exact PySem.W.kia_one PySem.W.kitx_list I.kIn ⟨o,e1,e2⟩ kit (fun z=>nomatch z) fin
def Xm (g g':DV->DV->M DV) (fa fb fc:DEx):DEx:=fun env=>do
 let x <- fa env
 let y <- fb env
 let z <- g x y
 if <- asB z then
  let u <- fc env
  g' y u
 else pure (.bl false)
end
section
variable {X:Cx} {e a b c:Expr} {f fa fb fc:DEx} {ca cb:DTx} {pos:Pos}
theorem vX {K:Aa} {g g':DV->DV->M DV} (h:tD K (Xm g g' fa fb fc) σ H Q):QcG (tP2 K g) (tP2 K g') (tD K fa) (tD K fb) (tD K fc) σ H Q:=by
  obtain ⟨Z,env,ρ,B,U,d,hp',S,e,k⟩:=h
  obtain ⟨x,hp1,e1,e⟩:=Qe e
  obtain ⟨y,hp2,e2,e⟩:=Qe e
  obtain ⟨z,hp3,e3,e⟩:=Qe e
  obtain ⟨t,hp4,e4,e⟩:=Qe e
  obtain ⟨rfl,rfl⟩:=Yz e4
  refine tD.run S e1 fun v ρ1 B1 H1 g1 S1 r1=>tD.run S1 e2 fun u ρ2 B2 H2 g2 S2 r2=>?_
  refine ⟨ρ2,B2,hp2,x,y,_,_,S2.wo,RepV.grow S1.wo.rb g2 _ _ r1,r2,e3,fun w ρ3 B3 H3 g3 W3 r3=>⟨t,r3.blI,?_⟩⟩
  have S3:=S2.grow g3 W3
  cases t with
  | false =>
    obtain ⟨rfl,rfl⟩:=Qh e
    exact GO (k _ ρ3 B3 H3 (g1.trans (g2.trans g3)) W3 ZH)
  | true =>
    obtain ⟨q,hp5,e5,e6⟩:=Qe e
    refine GP (tD.run S3 e5 fun p ρ4 B4 H4 g4 S4 r4=>?_)
    exact ⟨ρ4,B4,hp5,y,q,d,hp',S4.wo,RepV.grow S3.wo.rb g4 _ _ (RepV.grow S2.wo.rb g3 _ _ r2),r4,e6,k.after (g1.trans (g2.trans (g3.trans g4)))⟩
theorem yC {op op':CmpOp} {g g':DV->DV->M DV} (ho:P2 X (compareOp op) g) (ho':P2 X (compareOp op') g') (ha:DE X a fa) (hb:DE X b fb) (hc:DE X c fc) (hm:lastMarks [op,op'] [b,c]=false:=by with_unfolding_all rfl):DT X (.Compare a [op,op'] [b,c] pos) (eB (Xm g g' fa fb fc)) :=
 L2.PT.imp (Qcc ho ho' ha hb hc hm) fun σ H Q zz1=>by
  obtain ⟨Z,env,ρ,B,U,d,hp',S,e,k⟩:=zz1
  obtain ⟨x,hp1,e1,e2⟩:=Qe e
  obtain ⟨rfl,rfl⟩:=Yz e2
  exact vX (tD.run S e1 fun v ρ1 B1 H1 g1 S1 r1=>⟨d,r1.blI,k ρ1 B1 H1 g1 S1.wo⟩)
abbrev DOx:=En->M (Option Int)
def tDO (K:Aa) (f:DOx):TO:=fun σ H Q=>∃ Z env ρ B U d hp',SOk K Z env σ ρ B U H/\f env U=some (d,hp')/\Qgp K ρ B H hp' (Q d)
def DO (X:Cx) (e:Option Expr) (f:DOx):Prop:=PO X e (tDO X.K f)
def ZQ:DOx:=fun _=>pure none
def asI:DV->M Int
 | .int i=>pure i
 | _=>failure
theorem yu {d:DV} {c:Int} {U hp':Hs} (h:asI d U=some (c,hp')):d=.int c/\U=hp':=by
 cases d with
 | int b=>obtain ⟨rfl,rfl⟩:=Qh h;exact ⟨rfl,rfl⟩
 | _=>cases h
def ZR (f:DEx):DOx:=fun env=>do let i <- asI (<- f env);pure (some i)
theorem JG:DO X none ZQ:=fun O9 s σ H Q I zz1=>by
 obtain ⟨Z,env,ρ,B,U,d,hp',S,e,k⟩:=zz1
 obtain ⟨rfl,rfl⟩:=Qh e
 exact QdQ O9 s σ H Q I (k ρ B H Gr.refl S.wo)
theorem JH (h:DE X e f):DO X (some e) (ZR f):=fun O9 s σ H Q I zz1=>by
 obtain ⟨Z,env,ρ,B,U,d,hp',S,e,k⟩:=zz1
 obtain ⟨x,hp1,e1,e2⟩:=Qe e
 obtain ⟨i,hp2,e3,e4⟩:=Qe e2
 obtain ⟨rfl,rfl⟩:=yu e3
 obtain ⟨rfl,rfl⟩:=Qh e4
 exact QdR h O9 s σ H Q I (tD.run S e1 fun v ρ1 B1 H1 g1 S1 r1=>⟨i,r1.intI,k ρ1 B1 H1 g1 S1.wo⟩)
theorem tDO.run {K:Aa} {f:DOx} {Z:Ent} {d:Option Int} {Q:Option Int->Hp->Prop} (S:SOk K Z env σ ρ B U H) (e:f env U=some (d,hp1))
  (k:∀ ρ' B' H',Gr K ρ B H ρ' B' H'->SOk K Z env σ ρ' B' hp1 H'->Q d H'):tDO K f σ H Q :=
 ⟨Z,env,ρ,B,U,d,hp1,S,e,fun ρ' B' H' g W=>k ρ' B' H' g (S.grow g W)⟩
def xY (ds:List DV) (lo hi:Option Int):List DV:=(ds.drop (HT.sIx ds.length 0 lo)).take (HT.sIx ds.length ds.length hi - HT.sIx ds.length 0 lo)
theorem Gm {K:Aa} {lo hi:Option Int} (r:RepL K ρ B H ds xs):RepL K ρ B H (xY ds lo hi) (Gn xs lo hi):=by
 unfold xY Gn
 rw [r.length]
 exact RepL.take _ (RepL.drop _ r)
def slD (d:DV) (lo hi:Option Int):M DV:=match d with
 | .lst ds=>pure (.lst (xY ds lo hi))
 | .tup ds=>pure (.tup (xY ds lo hi))
 | _=>failure
def eSl (f:DEx) (lo hi:DOx):DEx:=fun env=>do let d <- f env;let l <- lo env;let h <- hi env;slD d l h
def tPs (K:Aa):V->Option Int->Option Int->Hp->VK->Prop:=fun x lo hi H Q=>∃ ρ B U d r hp',WOk K ρ B U H/\RepV K ρ B H d x/\slD d lo hi U=some (r,hp')/\Fol K ρ B H r hp' Q
theorem vn {prog:Program} {w:World} {A:Around} {E:Eg} {s:Shared} {t sl:Addr} {items:Array Value} {lo hi:Option Int} {Q:Eg} (ht:IsTup s.heap t items) (hs:s.heap.IsSliceOf sl vl vu .none) (pl:IsPart vl lo) (pu:IsPart vu hi)
  (h0:HT.sIx items.size 0 lo=0) (h1:HT.sIx items.size items.size hi=items.size) (h:Q (.ref t) s):wpAny (model prog w) A (getItem (.ref t) (.ref sl)) Q E s:=by
 obtain ⟨os,hos,hcs,hds⟩:=id hs
 have hTs:s.TypeIs (.ref sl) "slice" := ⟨os,hos,hcs⟩
 unfold getItem
 try with_reducible refine wpAny_holding ?_
 first | refine C6 (C9 ?_) | skip
 refine C6 (wpAny_sequenceKey ht.typeIs (by decide) ?_)
 refine C6 (wpAny_callSpecial?_slot (name:=Str.ofString "__getitem__") ht.typeIs PyProof.Rows.slot_tuple_getitem (wpAny_call_entry PyProof.Rows.slot_tuple_getitem ht.typeIs entry_tuple_getitem ?_ (args_tuple_getitem _ _)))
 show wpAny _ _ (Builtin.Tuple.tupleItemsOf (.ref t) >>= _) _ _ s
 refine C6 (tupleItemsOf_ ht ?_)
 refine C6 (wpAny_typeOf hTs ?_)
 rw [C8 (by decide)]
 refine C6 (HT.sliceApplied_gen hs pl pu ?_)
 have yes:(((HT.sIx items.size 0 lo:Nat):Int)==0&&(1:Int)==1&&(HT.sIx items.size items.size hi - HT.sIx items.size 0 lo)==items.size)=true:=by rw [h0,h1];simp
 show wpAny _ _ (if (((HT.sIx items.size 0 lo:Nat):Int)==0&&(1:Int)==1&&(HT.sIx items.size items.size hi - HT.sIx items.size 0 lo)==items.size)=true then _ else _) _ _ s
 rw [C8 yes]
 have ex:∀ {Q':Bool->Shared->Prop} {A':Around} {E':Eg},Q' true s->wpAny (model prog w) A' (Builtin.Tuple.tupleIsExact (.ref t)) Q' E' s:=fun {Q' A' E'} q=>by
  unfold Builtin.Tuple.tupleIsExact
  exact C6 (wpAny_typeOf ht.typeIs (C9 (by rw [show (Value.type "tuple" == Value.type "tuple")=true from beq_self_eq_true _];exact q)))
 refine C6 (ex ?_)
 rw [C8 rfl]
 first
  | exact C6 (wpAny_rule (C9 ⟨_,rfl,C9 h⟩))
  | exact C6 (wpAny_rule (C6 (C9 (C9 ⟨_,rfl,C9 h⟩))))
theorem Qeg:SlR X (fun x lo hi H Q=>∃ a xs,x=.ref a/\SqT X.K H a xs/\(HT.sIx xs.length 0 lo=0/\HT.sIx xs.length xs.length hi=xs.length)/\Q (.ref a) H):=by
 intro O9 s σ H x v vl vu lo hi sl Q I rx hs pl pu h
 obtain ⟨a,xs,rfl,hx,⟨h0,h1⟩,q⟩:=h
 cases rx
 obtain ⟨its,r,ht,hz⟩:=I.tuple hx
 have hlen:its.toArray.size=xs.length:=by rw [Ao];exact r.length.symm
 exact ⟨"tuple", _,PyProof.Rows.slot_tuple_getitem.lookup,ht.typeIs,vn ht hs pl pu (by rw [hlen];exact h0) (by rw [hlen];exact h1) ⟨.ref a,H,I,rfl,q⟩⟩
theorem kX {α:Type} (ds:List α) (i j:Nat) (h0:i=0) (h1:j=ds.length):(ds.drop i).take (j - i)=ds:=by subst h0 h1;simp
theorem QhG:SlR X (tPs X.K):=by
  intro O9 s σ H x v vl vu lo hi sl Q I rx hs pl pu h
  obtain ⟨ρ,B,U,d,r,hp',W,rv,e,k⟩:=h
  cases d with
  | lst ds =>
    obtain ⟨rfl,rfl⟩:=Qh e
    obtain ⟨a,xs,rfl,nb,sq,rl⟩:=rv.lstI
    exact Qef O9 s σ H _ v vl vu lo hi sl Q I rx hs pl pu ⟨a,xs,rfl,sq,jm W (Gm rl) k⟩
  | tup ds =>
    obtain ⟨rfl,rfl⟩:=Qh e
    obtain ⟨a,xs,rfl,nb,sq,rl⟩:=rv.tupI
    by_cases hw:HT.sIx xs.length 0 lo=0/\HT.sIx xs.length xs.length hi=xs.length
    . refine Qeg O9 s σ H _ v vl vu lo hi sl Q I rx hs pl pu ⟨a,xs,rfl,sq,hw,?_⟩
      have:xY ds lo hi=ds:=by unfold xY;exact kX ds _ _ (by rw [rl.length];exact hw.1) (by rw [rl.length];exact hw.2)
      rw [this] at k
      exact k _ ρ B H Gr.refl W (Ye nb sq rl)
    . exact Qf7 O9 s σ H _ v vl vu lo hi sl Q I rx hs pl pu ⟨a,xs,rfl,sq,hw,jn W (Gm rl) k⟩
  | non=>cases e
  | bl _=>cases e
  | int _=>cases e
  | str _=>cases e
  | ref _=>cases e
theorem YD {lo hi:Option Expr} {ol oh:DOx} (h:DE X e f) (hl:DO X lo ol) (hh:DO X hi oh):DE X (.Subscript e (.Slice lo hi none p2) pos) (eSl f ol oh) :=
 L2.PE.imp (Qb2 QhG h hl hh) fun σ H Q zz1=>by
  obtain ⟨Z,env,ρ,B,U,d,hp',S,e,k⟩:=zz1
  obtain ⟨x,hp1,e1,e⟩:=Qe e
  obtain ⟨l,hp2,e2,e⟩:=Qe e
  obtain ⟨u,hp3,e3,e⟩:=Qe e
  refine tD.run S e1 fun v ρ1 B1 H1 g1 S1 r1=>tDO.run S1 e2 fun ρ2 B2 H2 g2 S2=>tDO.run S2 e3 fun ρ3 B3 H3 g3 S3=>?_
  exact ⟨ρ3,B3,hp3,x,d,hp',S3.wo,RepV.grow S1.wo.rb (g2.trans g3) _ _ r1,e,k.after (g1.trans (g2.trans g3))⟩
theorem QgE {P:Program} {w:World} {K:Aa} {mg:Ei} {O8:Heap} {x:Str} {g:Addr} {k:Nat} {body:DSx} (F:Fun K x x stm g fd) (Sc:Qt N ps (Qo stm))
  (h:∀ (cdv:Value) (A:Around) (outer:List Env) (s:Shared) (H:Hp) (E:XK),Room k (A.deeper (envOfC x (Qo stm) s.heap.objs.size g cdv))->DSs (xZ CX0 P w K mg O8 N x (Qo stm) g cdv A outer s H E).nox (ZB stm) body) :
  qD P w K mg O8 CX0 (k+1) g fd ps (spD K ps.length (Q2 N.length body)):=by
 refine F.ok Sc (fun vs H Q E h=>h.1) (fun cdv A outer s H vs Q E hr sp=>?_)
 obtain ⟨hn,ρ,B,U,ds,d,hp',W,r,e,k⟩:=sp
 obtain ⟨⟨fl,env'⟩,hp1,e1,e2⟩:=Qe e
 refine ⟨_,h cdv A outer s H E hr,⟨ρ,B,H⟩,_,ρ,B,U,fl,env',hp1,xr W r,e1,fun σ' ρ' B' H' g' S'=>?_⟩
 cases fl with
 | nx=>obtain ⟨rfl,rfl⟩:=Qh e2;exact k .non ρ' B' H' S'.gr S'.wo zd
 | rt x=>obtain ⟨rfl,rfl⟩:=Qh e2;exact fun v rv=>k v ρ' B' H' S'.gr S'.wo rv
 | bk=>cases e2
 | ct=>cases e2
theorem G7 {K:Aa}:∀ ns:List Int,RepL K ρ B H (ns.map DV.int) (ns.map V.int)
 | []=>RepL.nil
 | _::r=>RepL.cons JQ (G7 r)
theorem Qfg {K:Aa} {F:Ep} {a:Addr} {ns:List Int} (h:∃ hp',F [.lst (ns.map .int)] []=some (.bl true,hp')) (hS:SqL K H a (ns.map V.int)):spD K 1 F [.ref a] H (fun v _=>v=.bl true) E:=by
 obtain ⟨hp',h⟩:=h
 refine ⟨rfl,[],fun _=>False,[],[.lst (ns.map .int)],.bl true,hp',⟨rfl,List.nodup_nil,fun i a o h=>by simp at h,fun a h=>absurd h (by simp),fun a h=>absurd h (fun z=>z),fun a h=>h.elim⟩,RepL.one (KL (fun z=>z) hS (G7 ns)),h,fun v _ _ _ _ _ r=>r.blI⟩
end
end D
namespace L2
open PySem PySem.Spec PyProof.Rows
section
variable {prog:Program} {w:World} {A:Around} {E:Eg} {s:Shared}
theorem zf {p q:Addr} {n:Nat} {xs:Array Value} {Q:Eg} (a1:s.heap.IsTupleIter p q n) (a2:s.heap.IsTuple q xs) (a3:xs[n]?=some v)
  (k:∀ g,g.IsTupleIter p q (n+1)->Heap.SameBut p s.heap g->Q v { s with heap:=g }):wpAny (model prog w) A (Builtin.SmallTypes.nextOf (.ref p)) Q E s:=by
 obtain ⟨ob,b1,b2,b3⟩:=id a1
 obtain ⟨oq,b4,_,m,b5⟩:=a2
 unfold Builtin.SmallTypes.nextOf
 refine C6 (wpAny_callSpecial?_slot (name:=Str.ofString "__next__") a1.typeIs F.slot_tuple_iterator_next (wpAny_call_entry F.slot_tuple_iterator_next a1.typeIs F.entry_tuple_iterator_next ?_ (F.args_tuple_iterator_next_1 _)))
 show wpAny _ _ (field (.ref p) 0 >>= _) _ _ s
 refine C6 (wpAny_field b1 b3 (x:=.ref q) rfl ?_)
 show wpAny _ _ (if (Value.ref q==Value.none)=true then _ else _) _ _ s
 rw [C7 (show ¬ ((Value.ref q==Value.none)=true) from Bz)]
 show wpAny _ _ (field (.ref p) 1 >>= _) _ _ s
 refine C6 (wpAny_field b1 b3 (x:=.int n 0) rfl ?_)
 show wpAny _ _ (seqItems? (.ref q) >>= _) _ _ s
 refine C6 (wpAny_seqItems b4 b5 ?_)
 simp only [B7,a3]
 refine C6 (wpAny_setField b1 b3 (by simp) (C9 ⟨v,rfl,C9 (k _ ?_ (Heap.SameBut.update ..))⟩))
 exact ⟨_,Heap.get?_update_self _ b1 (Obj.isFreed_of_fields (Obj.data_mapFields b3 _)),(Obj.cls_mapFields ..).trans b2,by rw [Obj.data_mapFields b3];simp [rawInt]⟩
theorem K4 {p q:Addr} {n:Nat} {xs:Array Value} {Q:Eg} (hh:A.handled=none) (a1:s.heap.IsTupleIter p q n) (a2:s.heap.IsTuple q xs) (a3:xs[n]?=none)
  (k:∀ g x,Heap.ExtBut p s.heap g->(∃ o,g.get? x=some o/\o.cls=.type "StopIteration")->E (.ref x) { s with heap:=g }):wpAny (model prog w) A (Builtin.SmallTypes.nextOf (.ref p)) Q E s:=by
 obtain ⟨ob,b1,b2,b3⟩:=id a1
 obtain ⟨oq,b4,_,m,b5⟩:=a2
 unfold Builtin.SmallTypes.nextOf
 refine C6 (wpAny_callSpecial?_slot (name:=Str.ofString "__next__") a1.typeIs F.slot_tuple_iterator_next (wpAny_call_entry F.slot_tuple_iterator_next a1.typeIs F.entry_tuple_iterator_next ?_ (F.args_tuple_iterator_next_1 _)))
 show wpAny _ _ (field (.ref p) 0 >>= _) _ _ s
 refine C6 (wpAny_field b1 b3 (x:=.ref q) rfl ?_)
 show wpAny _ _ (if (Value.ref q==Value.none)=true then _ else _) _ _ s
 rw [C7 (show ¬ ((Value.ref q==Value.none)=true) from Bz)]
 show wpAny _ _ (field (.ref p) 1 >>= _) _ _ s
 refine C6 (wpAny_field b1 b3 (x:=.int n 0) rfl ?_)
 show wpAny _ _ (seqItems? (.ref q) >>= _) _ _ s
 refine C6 (wpAny_seqItems b4 b5 ?_)
 simp only [B7,a3]
 refine C6 (wpAny_rule (C6 (wpAny_setField b1 b3 (by simp) ?_)))
 show wpAny _ _ (newExc (.type "StopIteration") [] >>= _) _ _ _
 refine C6 ?_
 simp only [newExc,newTuple]
 refine C6 (wpAny_newObj_type ?_ (by size_fits))
 refine C6 (m:=firstArgMember _ _) (wpAny_of_eq (a:=Value.none) (by first | rfl | (simp only [firstArgMember];rfl)) ?_)
 refine wpAny_newObj_type ?_ (by size_fits)
 simp only [raiseNew]
 refine C6 (wpAny_handled ?_)
 first | rw [show A.in1.handled=none from hh] | rw [hh]
 refine C6 (C9 (wpAny_throw ?_))
 exact k _ _ (((Heap.SameBut.update ..).extBut.push _).push _) ⟨_,Av _ rfl,rfl⟩
structure ZA (z p o i j a b:Addr):Prop where
 pz:p≠z
 oz:o≠z
 iz:i≠z
 jz:j≠z
 po:p≠o
 pi:p≠i
 pj:p≠j
 oi:o≠i
 oj:o≠j
 ij:i≠j
 az:a≠z
 ao:a≠o
 ai:a≠i
 aj:a≠j
 bz:b≠z
 bo:b≠o
 bi:b≠i
 bj:b≠j
end
section
variable {X:Cx} {O9:Eh} {σ:L2.St} {H:Hp} {s:Shared} {h':Heap}
theorem Inv.turnL {t':Nat} {fp:Eo} (I:Inv X O9 σ H s) (hf:∀ b∈fp,xU X O9 H b) (k:∀ b o,b∉fp->s.heap.get? b=some o->h'.get? b=some o):Inv X O9 σ H { s with heap:=h',toks:=t' }:=by
 refine I.step (g':=s.gens) (d':=s.drawn) (ch:=fp) (fun b hb=>⟨(hf b hb).2.2.2.1,(hf b hb).2.1,(hf b hb).2.2.2.2.1,(hf b hb).2.2.2.2.2⟩) (fun b o _ _ hc e _=>k b o hc e) (fun b o _ _ hc e _=>⟨o.slots,k b o hc e⟩) (fun _ _ _ _ n=>n)
  (fun b o hc e=>⟨o,k b o hc e⟩) (fun _ _ e=>e) (fun _ _ _ e=>e) (fun b ps e=>⟨#[],by rw [e];simp⟩) (fun m hm=>?_) (fun b u e=>?_) I.bare
 ·obtain ⟨o,es,ep,ho,r⟩:=hm
  exact ⟨o,es,ep,k _ o (fun z=>(hf _ z).2.1 rfl) ho,r⟩
 ·have nf:∀ c u,H c=some u->c∉fp:=fun c u q z=>by rw [(hf c z).1] at q;cases q
  refine (I.hok b u e).stay (fun c v hc q=>k c v ?_ q) (fun _ q=>q) fun _ _ q=>q
  rcases hc with z | z
  ·rw [z];exact nf b u e
  ·exact nf c _ z
theorem Inv.turnNew {t':Nat} {fp:Eo} {vs:List V} {us:List Value} (I:Inv X O9 σ H s) (hf:∀ b∈fp,xU X O9 H b) (k:∀ b o,b∉fp->s.heap.get? b=some o->h'.get? b=some o)
  (hv:Vals vs us) (hz:vs.length<=sizeLine) (hT:IsTup h' s.heap.objs.size us.toArray):Inv X O9 σ (upd H s.heap.objs.size (.tup vs)) { s with heap:=h',toks:=t' }:=by
 have hn:H s.heap.objs.size=none:=I.hok.fresh (Ae _)
 refine I.step (g':=s.gens) (d':=s.drawn) (ch:=fp) (fun b hb=>⟨(hf b hb).2.2.2.1,(hf b hb).2.1,(hf b hb).2.2.2.2.1,(hf b hb).2.2.2.2.2⟩) (fun b o _ _ hc e _=>k b o hc e) (fun b o _ _ hc e _=>⟨o.slots,k b o hc e⟩)
  (fun b o _ e n=>by rw [QI (Bf (Ap e))];exact n) (fun b o hc e=>⟨o,k b o hc e⟩) (fun b xs e=>by rw [QI (Zy e hn)];exact e) (fun b o u e=>by rw [QI (Zy e hn)];exact e) (fun b ps e=>⟨#[],by rw [QI (Zy e hn),e];simp⟩) (fun m hm=>?_) (fun b u e=>?_) I.bare
 ·obtain ⟨o,es,ep,ho,r⟩:=hm
  exact ⟨o,es,ep,k _ o (fun z=>(hf _ z).2.1 rfl) ho,r⟩
 ·by_cases hb:b=s.heap.objs.size
  ·subst hb
   rw [Q3] at e;cases e
   exact ⟨hz,us,hv,hT⟩
  ·rw [QI hb] at e
   have nf:∀ c u,H c=some u->c∉fp:=fun c u q z=>by rw [(hf c z).1] at q;cases q
   refine (I.hok b u e).stay (fun c v hc q=>k c v ?_ q) (fun c q=>by rw [QI (Zy q hn)];exact q) fun c xs q=>by rw [QI (Zy q hn)];exact q
   rcases hc with z | z
   ·rw [z];exact nf b u e
   ·exact nf c _ z
end
def Itz (K:Aa) (a b:Addr):It :=
  ⟨fun i H=>∃ xs ys x y,SqT K H a xs/\SqT K H b ys/\xs[i]?=some x/\ys[i]?=some y,
   fun i H v H'=>∃ p x y,H p=none/\(∀ xs,SqT K H a xs->xs[i]?=some x)/\(∀ ys,SqT K H b ys->ys[i]?=some y)/\v=.ref p/\H'=upd H p (.tup [x,y]),
   fun i H=>∃ xs ys,SqT K H a xs/\SqT K H b ys/\(xs.length<=i∨ys.length<=i)⟩
abbrev zt1 (h:Heap) (a:Addr):Heap:=h.push { cls:=.type "tuple_iterator", data:=.fields #[.ref a,.int 0 0] }
abbrev zt2 (h:Heap) (a b:Addr):Heap:=(zt1 h a).push { cls:=.type "tuple_iterator", data:=.fields #[.ref b,.int 0 0] }
abbrev zt3 (h:Heap) (a b:Addr):Heap:=(zt2 h a b).push { cls:=.type "tuple", data:=.seq #[.ref h.objs.size,.ref (zt1 h a).objs.size] }
abbrev zt4 (h:Heap) (a b:Addr):Heap:=(zt3 h a b).push { cls:=.type "tuple", data:=.seq #[.none,.none] }
abbrev zt5 (h:Heap) (a b:Addr):Heap:=(zt4 h a b).push { cls:=.type "zip", data:=.fields #[.none,.bool false,.bool false,.ref (zt2 h a b).objs.size,.ref (zt3 h a b).objs.size] }
theorem Qet (a b:Addr) (xs ys:Array Value):Meets (Builtin.«zip.__new__» ⟨[.type "zip", .ref a,.ref b],[]⟩) (fun _ R s=>s.heap.IsTuple a xs/\s.heap.IsTuple b ys/\R (.ok (.ret (.ref (zt4 s.heap a b).objs.size))) { s with heap:=zt5 s.heap a b }) :=
 .of_wp fun prog w A R s h=>by
  obtain ⟨U,g,d,tk,os⟩:=s;obtain ⟨q1,q2,h⟩:=h
  have hsub:=sub_zip
  have t1:Heap.IsTuple (Shared.heap ⟨U,g,d,tk,os⟩) a xs:=q1
  have t2:Heap.IsTuple (Shared.heap ⟨U.push { cls:=.type "tuple_iterator", data:=.fields #[.ref a,.int 0 0] },g,d,tk,os⟩) b ys:=let ⟨ob,e,r⟩:=q2;⟨ob,Ad _ e,r⟩
  wp_walk using wpAny_pyIter_tuple t1,wpAny_pyIter_tuple t2
  exact ⟨_,rfl,h⟩
section
variable {X:Cx} {elts:List Expr} {kt:Nat} {p2:Pos}
def QgK (K:Aa) (ta:TA):TI:=fun σ H R=>ta σ H fun vs H1=>∃ a b xs ys,vs=[.ref a,.ref b]/\SqT K H1 a xs/\SqT K H1 b ys/\R (Itz K a b) H1
end
end L2
namespace D
open PySem PySem.Spec PyProof.Rows L2
def XS:List DV->List DV->List DV
 | x::xs,y::ys=>.tup [x,y]::XS xs ys
 | _,_=>[]
theorem VO:∀ {xs ys:List DV} {i:Nat} {d:DV},(XS xs ys)[i]?=some d->∃ x y,xs[i]?=some x/\ys[i]?=some y/\d=.tup [x,y]
  | x::xs,y::ys,0,d,h=>by simp [XS] at h;exact ⟨x,y,rfl,rfl,h.symm⟩
  | x::xs,y::ys,i+1,d,h=>by
    obtain ⟨a,b,h1,h2,h3⟩:=VO (xs:=xs) (ys:=ys) (i:=i) (by simpa [XS] using h)
    exact ⟨a,b,by simpa using h1,by simpa using h2,h3⟩
  | [],_,_,_,h=>by simp [XS] at h
  | _::_,[],_,_,h=>by simp [XS] at h
theorem VP:∀ (xs ys:List DV),(XS xs ys).length=min xs.length ys.length
 | x::xs,y::ys=>by simp only [XS,Ba,VP xs ys];lia
 | [],_=>by simp [XS]
 | _::_,[]=>by simp [XS]
def v7 (f g:DEx):DIx:=fun env=>do
 let x <- f env
 let xs <- ya x
 let y <- g env
 let ys <- ya y
 pure (XS xs ys)
theorem QbD {K:Aa} {B:Em} {a b:Addr} (na:¬ B a) (qa:SqT K H a xs) (ra:RepL K ρ B H ds xs) (nb:¬ B b) (qb:SqT K H b ys) (rb:RepL K ρ B H es ys):kJ K ρ B H (XS ds es) (Itz K a b):=fun ρ1 B1 H1 g r1 t1=>by
 have qa1:=g.sqT na qa
 have qb1:=g.sqT nb qb
 have ra1:=RepL.gs g _ _ ra
 have rb1:=RepL.gs g _ _ rb
 refine ⟨fun i d e=>?_,xs,ys,qa1,qb1,?_⟩
 ·obtain ⟨x,y,h1,h2,rfl⟩:=VO e
  obtain ⟨u,hu,ru⟩:=ra1.get h1
  obtain ⟨v,hv,rv⟩:=rb1.get h2
  refine ⟨⟨xs,ys,u,v,qa1,qb1,hu,hv⟩,fun z H' zz1=>?_⟩
  obtain ⟨p,u',v',hn,h3,h4,e1,e2⟩:=zz1
  subst e1 e2
  have e3:=h3 xs qa1
  have e4:=h4 ys qb1
  rw [hu] at e3;cases e3
  rw [hv] at e4;cases e4
  refine ⟨Ye (fun z=>t1 p z hn) (SqT.of Q3) (RepL.gs (uP r1 hn) _ _ (RepL.cons ru (RepL.one rv))),.inr ⟨p,_,hn,rfl⟩⟩
 ·rw [VP,ra1.length,rb1.length]
  rcases Nat.le_total xs.length ys.length with q | q
  ·exact .inl (by rw [Nat.min_eq_left q];exact Ae _)
  ·exact .inr (by rw [Nat.min_eq_right q];exact Ae _)
section
variable {X:Cx} {elts:List Expr} {kt:Nat} {p2:Pos} {f g:DEx}
def gT (ix:List Nat):DGx:=fun d env=>do
 let ds <- ya d
 Qx (decide (ds.length=ix.length))
 pure ((ix.zip ds).foldl (fun en q=>en.set q.1 (.val q.2)) env)
def U6 (X:Cx):List Nat->List Expr->Prop
 | [],[]=>True
 | i::is,.Name x _::es=>X.N[i]?=some x/\Loc X.env.scope x/\(X.fn x=true∨X.env.scope.names.lookup x=some .local)/\U6 X is es
 | _,_=>False
theorem UA (hN:X.N.Nodup):∀ (ix:List Nat) (es:List Expr),U6 X ix es->(∀ es' x p,(assignEach (.Name x p::es') X.env).map (·.2)=assign (.Name x p) X.env::(assignEach es' X.env).map (·.2)) ->
    PGs X es (fun vs σ H Q=>vs.length=ix.length/\Q ((ix.zip vs).foldl (fun s q=>s.set q.1 (some q.2)) σ) H)
  | [],[],_,_=>by
    intro O9 s σ H vs us Q I r h
    obtain ⟨h1,h2⟩:=h
    have:vs=[]:=by cases vs with | nil=>rfl | cons _ _=>simp at h1
    subst this
    exact QdM O9 s σ H [] us Q I r ⟨rfl,by simpa using h2⟩
  | i::is,.Name x p::es,⟨h1,h2,h3,h4⟩,ha=>by
    intro O9 s σ H vs us Q I r h
    obtain ⟨h5,h6⟩:=h
    cases vs with
    | nil=>simp at h5
    | cons v vs =>
      exact Qb7 (KK hN h1 h2 h3) (UA hN is es h4 ha) (ha _ _ _) O9 s σ H (v::vs) us Q I r ⟨v,vs,rfl,by simpa using h5,by simpa using h6⟩
theorem gC {K:Aa} {Z:Ent}:∀ (ix:List Nat) (ds:List DV) (vs:List V) {env:En} {σ:L2.St},RepL K ρ B H ds vs->SOk K Z env σ ρ B U H ->
    SOk K Z ((ix.zip ds).foldl (fun en q=>en.set q.1 (.val q.2)) env) ((ix.zip vs).foldl (fun s q=>s.set q.1 (some q.2)) σ) ρ B U H
  | [],_,_,_,_,_,S=>by simpa using S
  | i::is,[],_,_,_,r,S=>by unfold RepL at r;subst r;simpa using S
  | i::is,d::ds,_,_,_,r,S=>by
    unfold RepL at r
    obtain ⟨v,vs,rfl,r1,r2⟩:=r
    simpa using gC is ds vs r2 (S.set (i:=i) r1)
theorem Qbf (ix:List Nat) (hN:X.N.Nodup) (hn:U6 X ix elts) (hc:X.calm=true) (ha:∀ es' x p,(assignEach (.Name x p::es') X.env).map (·.2)=assign (.Name x p) X.env::(assignEach es' X.env).map (·.2))
  (hl:(assignEach elts X.env).length=ix.length:=by rfl) (hst:(assignEach elts X.env).findIdx? (·.1)=none:=by rfl):PG X (.Tuple elts kt p2) (tDG X.K (gT ix)):=by
 intro O9 s σ H v u Q I r h
 refine QfP hc (UA hN ix elts hn ha) hl hst O9 s σ H v u Q I r ?_
 obtain ⟨Z,env,ρ,B,U,d,env',hp',S,rd,e,k⟩:=h
 obtain ⟨ds,hp1,e1,e⟩:=Qe e
 obtain ⟨rfl,rfl⟩:=XW e1
 obtain ⟨_,hp2,e2,e⟩:=Qe e
 obtain ⟨hs,rfl⟩:=QH e2
 obtain ⟨rfl,rfl⟩:=Qh e
 obtain ⟨a,xs,rfl,na,qa,la⟩:=rd.tupI
 have hl':xs.length=ix.length:=by rw [<- la.length];exact Ed hs
 exact ⟨a,xs,rfl,qa,hl',hl',k _ ρ B H Gs.refl (gC ix ds xs la S)⟩
def Ya (f:DEx) (g:DGx):DSx:=fun env=>do let d <- f env;let env' <- g d env;pure (.nx,env')
theorem vU {tg e:Expr} {g:DGx} {pos:Pos} (he:DE X e f) (hg:PG X tg (tDG X.K g)) (hs:swapsWithSole [tg] e pos.line X.env=pure false:=by rfl) (hw:swappedStores [tg] e X.env=pure none:=by rfl)
  (h1:(assignEach [tg] X.env).map (·.2)=[assign tg X.env]:=by rfl):DS X (.Assign [tg] e pos) (Ya f g) :=
 L2.PS.imp (QfU he hg hs hw h1) fun D σ H zz1=>by
  obtain ⟨Z,env,ρ,B,U,fl,env',hp',S,e,k⟩:=zz1
  obtain ⟨d,hp1,e1,e⟩:=Qe e
  obtain ⟨env1,hp2,e2,e⟩:=Qe e
  obtain ⟨z,rfl⟩:=Qh e;cases z
  exact tD.run S e1 fun v ρ1 B1 H1 g1 S1 r1=>⟨Z,env,ρ1,B1,hp1,d,env',hp2,S1,r1,e2,fun σ' ρ' B' H' g' S'=>k σ' ρ' B' H' ((g1.gs S.wo.rb).trans g') S'⟩
end
theorem uA {lo:Int} {n i:Nat} {d:DV} (h:(Jf lo n)[i]?=some d):i < n/\d=.int (lo+i):=by
 have hi:i < n:=by have:=(Ac.mp h).1;simpa [Jf] using this
 refine ⟨hi,?_⟩
 simp [Jf,hi] at h
 exact h.symm
theorem Vc (lo:Int) (n:Nat):(Jf lo n).length=n:=by simp [Jf]
theorem yh (i:Int):okP (.int i)=true:=by rfl
def gz (i j:Int):PyData.eqv (.int i) (.int j)=(i==j):=rfl
theorem ZK (i j:Int):eqD (.int i) (.int j)=pure (.bl (i==j)):=by
 simp only [eqD,yh,Bool.and_self,Qx,if_true,Ef,toP,gz]
theorem Jx (i j:Int):neD (.int i) (.int j)=pure (.bl (!(i==j))):=by
 simp only [neD,yh,Bool.and_self,Qx,if_true,Ef,toP,gz]
theorem QeR {α:Type} {xs:List α} {i:Int} (h0:0<=i) (h1:i < xs.length):atI xs i=xs[i.toNat]?:=by
 unfold atI ixN
 rw [C8 h0,C8 h1];rfl
theorem Ka (ns:List Int) {i:Int} (h0:0<=i) (h1:i < ns.length):atI (ns.map DV.int) i=some (.int (ns.getD i.toNat 0)):=by
 have hl:i.toNat < ns.length:=by lia
 rw [QeR h0 (by simpa using h1),Bu,Ab hl]
 simp [List.getD_eq_getElem?_getD,hl]
def opt:Option Int->DV
 | none=>.non
 | some i=>.int i
theorem Xz (x y:Int) (h:0 < y):yV (.int x) (.int y)=pure (.int (x % y)):=by simp [yV,qx,Qgv,h]
theorem Gv (x y:Int) (h:0 < y) (h':y < 1073741824):Qbi (.int x) (.int y)=pure (.int (x / y)):=by simp [Qbi,qx,Qgu,h,h']
theorem KF (x y:Int) (h:-(2 ^ 64) < x) (h':x < 2 ^ 64):jw (.int x) (.int y)=pure (.int (x * y)):=by
 simp only [jw,qx,QeU,Ec (Or.inl (b:=(-(2 ^ 64) < y/\y < 2 ^ 64)) (And.intro h h')),if_true]
theorem uj (x y:Int) (h:-(2 ^ 64) < y) (h':y < 2 ^ 64):jw (.int x) (.int y)=pure (.int (x * y)):=by
 simp only [jw,qx,QeU,Ec (Or.inr (a:=(-(2 ^ 64) < x/\x < 2 ^ 64)) (And.intro h h')),if_true]
def ZI (x y:Int):Jd (.int x) (.int y)=pure (.int (x+y)):=rfl
def Z0 (x y:Int):V7 (.int x) (.int y)=pure (.int (x - y)):=rfl
def Z1 (x y:Int):gtD (.int x) (.int y)=pure (.bl (decide (y < x))):=rfl
def ZM (x y:Int):ltD (.int x) (.int y)=pure (.bl (decide (x < y))):=rfl
def Z5 (x y:Int):leD (.int x) (.int y)=pure (.bl (decide (x<=y))):=rfl
def Ja (x y:Int):geD (.int x) (.int y)=pure (.bl (decide (y<=x))):=rfl
def Z6 (x:Int):QgV (.int x)=pure (.int (-x)):=rfl
def J7:qQ (.int 10) (.int 30)=pure (.int 1000000000000000000000000000000):=rfl
def Yd:qQ (.int 10) (.int 21)=pure (.int 1000000000000000000000):=rfl
def jC:qQ (.int 10) (.int 9)=pure (.int 1000000000):=rfl
theorem QcB {m:Int} (h0:0<=m) (h1:m<=1000000):Vx m=true:=Ec ⟨by lia,by lia⟩
def ze {ds:List DV} (h:ds.length<=100000):YT ds=true:=Ec h
theorem ZO {f g:DSx} (h:f env=pure (.nx,env1)):Qs f g env=g env1:=by simp only [Qs,h,Ef]
theorem Qd9 {f g:DSx} (h:f env=pure (.rt d,env1)):Qs f g env=pure (.rt d,env1):=by simp only [Qs,h,Ef]
theorem Z2 {i:Nat} {f:DEx} {env:En} (h:f env=pure d):QU i f env=pure (.nx,env.set i (.val d)):=by simp only [QU,h,Ef]
theorem Qhh {c:DTx} {f g:DSx} (h:c env=pure true):sIf c f g env=f env:=by simp only [sIf,h,Ef,if_true]
theorem Qhg {c:DTx} {f g:DSx} (h:c env=pure false):sIf c f g env=g env:=by simp only [sIf,h,Ef,Az,if_false]
theorem XO {f:DEx} (h:f env=pure d):QJ f env=pure (.rt d,env):=by simp only [QJ,h,Ef]
theorem Yf {n:Nat} {body:DSx} {ds:List DV} (h:body (ds.map .val++List.replicate (n - ds.length) .un)=pure (.rt d,env)):Q2 n body ds=pure d:=by simp only [Q2,h,Ef]
theorem Qgz {f:DEx} {b:Bool} (h:f env=pure (.bl b)):eB f env=pure b:=by simp only [eB,h,Ef,asB]
theorem qX {g:DV->DV->M DV} {f f':DEx} (h:f env=pure x) (h':f' env=pure y) (hg:g x y=pure d):Qk g f f' env=pure d:=by simp only [Qk,h,h',Ef,hg]
theorem xa {F:Ep} {f f':DEx} (h:f env=pure x) (h':f' env=pure y) (hF:F [x,y]=pure d):Qv 2 F (Qc f (Qc f' Qn)) env=pure d:=by simp [Qv,Qc,Qn,h,h',Qx,hF]
theorem Qbn {F:Ep} {f f' f'':DEx} (h:f env=pure x) (h':f' env=pure y) (h'':f'' env=pure z) (hF:F [x,y,z]=pure d):Qv 3 F (Qc f (Qc f' (Qc f'' Qn))) env=pure d:=by simp [Qv,Qc,Qn,h,h',h'',Qx,hF]
section
variable {K:Aa} {ρ:Eo} {B:Em} {U:Hs} {H:Hp}
theorem Gr.wnew {p:Addr} (h:H p=none) (kf:K.lookup p=none):Gr K ρ B H (ρ++[p]) (xX B p) (upd H p o) where
 pre:=List.prefix_append _ _
 ban:=fun _ h=>.inl h
 new:=fun a z=>z.elim .inl fun e=>.inr (e▸⟨h,kf⟩)
 rnew:=fun a z=>(Ai.mp z).elim .inl fun q=>.inr (by rw [Ar.mp q];exact h)
 keep:=fun a u _ q=>by rw [QI (Zy q h)];exact q
 trk:=(Gr.laid (K:=K) (ρ:=ρ) (B:=B) h).trk
theorem WOk.wnew {p:Addr} (W:WOk K ρ B U H) (h:H p=none) (kf:K.lookup p=none) (hv:ORep K (ρ++[p]) (xX B p) (upd H p o) p v):WOk K (ρ++[p]) (xX B p) (U++[v]) (upd H p o) where
 len:=by simp [W.len]
 nd:=List.nodup_append.mpr ⟨W.nd,by simp,fun a ha b hb=>by rw [Ar.mp hb];exact fun z=>W.bt a (W.rb a ha) (z▸h)⟩
 obj:=fun i a u e q=>by
  by_cases hi:i < ρ.length
  ·rw [Ah hi] at e
   rw [Ah (by rw [<- W.len];exact hi)] at q
   exact ORep.gs ((Gr.wnew h kf).gs W.rb) (QI (fun z=>W.bt a (W.rb a (Aw e)) (z▸h))) (W.obj i a u e q)
  ·rw [Aq (by lia)] at e
   rw [Aq (by rw [<- W.len];lia)] at q
   have hi0:i - ρ.length=0:=by
    have:=(Ac.mp e).1
    simp at this;lia
   rw [hi0] at e
   rw [<- W.len,hi0] at q
   simp at e q
   subst e q
   exact hv
 rb:=fun a z=>(Ai.mp z).elim (fun q=>.inl (W.rb a q)) fun q=>.inr (Ar.mp q)
 bt:=fun a z q=>by
  have q':=(Gr.laid (K:=K) (ρ:=ρ) (B:=B) h).trk a q
  rcases z with z | rfl
  ·exact W.bt a z q'
  ·rw [Q3] at q;cases q
 bk:=fun a z=>z.elim (W.bk a) fun e=>e▸kf
theorem Gr.wset {i:Nat} {a:Addr} (ha:ρ[i]?=some a) (h:H a=some o):Gr K ρ B H ρ B (upd H a o') where
 pre:=Cm
 ban:=fun _ h=>h
 new:=fun _ h=>.inl h
 rnew:=fun _ h=>.inl h
 keep:=fun b u nb q=>by rw [QI (show b≠a from fun z=>nb (by rw [z];exact Aw ha))];exact q
 trk:=fun b q=>by
  by_cases e:b=a
  ·subst e;rw [Q3] at q;cases q
  ·rw [QI e] at q;exact q
theorem WOk.wset {i:Nat} {a:Addr} (W:WOk K ρ B U H) (ha:ρ[i]?=some a) (h:H a=some o) (hv:ORep K ρ B (upd H a o') a v):WOk K ρ B (U.set i v) (upd H a o') where
 len:=by simp [W.len]
 nd:=W.nd
 obj:=fun j b u e q=>by
  by_cases hj:j=i
  ·subst hj
   rw [ha] at e;cases e
   have hl:j < U.length:=by rw [<- W.len];exact (Ac.mp ha).1
   rw [Au hl] at q;cases q
   exact hv
  ·rw [Am (Ne.symm hj)] at q
   have hb:b≠a:=fun z=>hj (by
    subst z
    exact (List.getElem?_inj (Ac.mp e).1 W.nd).mp (e.trans ha.symm))
   exact ORep.gs ((Gr.wset ha h).gs W.rb) (QI hb) (W.obj j b u e q)
 rb:=W.rb
 bt:=fun b z q=>W.bt b z ((Gr.wset (K:=K) (B:=B) ha h).trk b q)
 bk:=W.bk
end
section
variable {X:Cx} {e a b c:Expr} {f fa fb fc:DEx} {pos:Pos}
def X0 (o:OV):M DV:=fun h=>some (.ref h.length,h++[o])
def ZE (i:Nat):M OV:=fun h=>match h[i]? with
 | some o=>some (o,h)
 | none=>none
def xw (i:Nat) (o:OV):M Unit:=fun h=>some ((),h.set i o)
theorem Zx {i:Nat} {U hp':Hs} (h:ZE i U=some (o,hp')):U[i]?=some o/\U=hp':=by
 unfold ZE at h
 cases q:U[i]? with
 | none=>rw [q] at h;cases h
 | some z=>rw [q] at h;cases h;exact ⟨rfl,rfl⟩
def XM (f:DAx):DEx:=fun env=>do let ds <- f env;Qx (YT ds);X0 (.lst ds)
theorem gB {K:Aa} {H:Hp} {U:Hs} {Q:VK} (W:WOk K ρ B U H) (r:RepL K ρ B H ds xs) (k:Fol K ρ B H (.ref U.length) (U++[.lst ds]) Q):∀ p,H p=none->uT K (upd H p (.lst xs))->Q (.ref p) (upd H p (.lst xs)):=fun p hp' kf=>by
 have kp:=kf p _ Q3
 have g:Gr K ρ B H (ρ++[p]) (xX B p) (upd H p (.lst xs)):=Gr.wnew hp' kp
 refine k _ _ _ _ g (W.wnew hp' kp ⟨xs,Q3,RepL.grow W.rb g _ _ r⟩) ?_
 unfold RepV
 exact ⟨p,rfl,by rw [<- W.len];simp⟩
theorem Kk {es:List Expr} {f:DAx} (h:DA X es f):DE X (.List es pos) (XM f) :=
 L2.PE.imp (Qb0 h).kf fun σ H Q zz1=>by
  obtain ⟨Z,env,ρ,B,U,d,hp',S,e,k⟩:=zz1
  obtain ⟨xs,hp1,e1,e2⟩:=Qe e
  obtain ⟨_,hp2,e3,e4⟩:=Qe e2
  obtain ⟨hs,rfl⟩:=QH e3
  cases e4
  exact tDA.run S e1 fun vs ρ1 B1 H1 g1 S1 r1=>⟨by rw [<- r1.length];exact qV hs,gB S1.wo r1 (k.after g1)⟩
theorem RepV.refW {K:Aa} {ρ:Eo} {U:Hs} {i:Nat} {v:V} (W:WOk K ρ B U H) (r:RepV K ρ B H (.ref i) v) (h:U[i]?=some o):∃ a,v=.ref a/\ρ[i]?=some a/\ORep K ρ B H a o:=by
 obtain ⟨a,rfl,e⟩:=r.refI
 exact ⟨a,rfl,e,W.obj i a o e h⟩
def ixW:DV->DV->M DV
  | .ref n,.int i=>do
    match <- ZE n with
    | .lst ds=>match atI ds i with
      | some d=>pure d
      | none=>failure
    | _=>failure
  | x,y=>ixD x y
def QaP:List DV->M DV
  | [.ref n]=>do
    match <- ZE n with
    | .lst ds=>pure (.tup ds)
    | _=>failure
  | xs=>Qge xs
theorem Gf:CallR X (.type "tuple") (tPn X.K QaP):=by
  intro O9 s σ H xs us Q I r h
  obtain ⟨ρ,B,U,ds,d,hp',W,rl,e,k⟩:=h
  unfold QaP at e
  split at e
  . rename_i n
    obtain ⟨o,hp1,e1,e2⟩:=Qe e
    obtain ⟨e3,rfl⟩:=Zx e1
    cases o with
    | dic _=>cases e2
    | ins _ _=>cases e2
    | lst zs =>
      obtain ⟨rfl,rfl⟩:=Qh e2
      obtain ⟨v,rfl,rv⟩:=rl.oneI
      obtain ⟨a,rfl,_,ys,h1,l1⟩:=RepV.refW W rv e3
      exact Yp O9 s σ H _ us Q I r ⟨a,ys,rfl,.inl ⟨SqL.of h1,jn W l1 k⟩⟩
  . exact Qc0 O9 s σ H xs us Q I r ⟨ρ,B,U,_,d,hp',W,rl,e,k⟩
end
theorem Qby {P:Program} {w:World} {K:Aa} {mg:Ei} {O8:Heap} {x:Str} {stm:Stmt} {g:Addr} {fd:FuncData} {ps:List Str} {k:Nat} (F:Fun K x x stm g fd) (hm:mg x=some (.ref g))
  (hb:∀ (kV doc pm:Value) (an:Option Addr) (cdv ct:Value) (us:List Value),us.length=ps.length->bindArgs (PySem.W.fnOf x x (Jv stm) (ZB stm) (Qo stm) .none kV doc pm an cdv ct) ⟨us,[]⟩=pure (ps.zip us)) :
  Has P w K mg O8 x k ps.length (fun _=>failure):=by
 have no:∀ vs H Q E,¬ spD K ps.length (fun _=>failure) vs H Q E:=fun vs H Q E h=>by
  obtain ⟨_,ρ,B,U,ds,d,hp',_,_,e,_⟩:=h
  cases e
 exact ⟨g,fd,ps,⟨fun vs H Q E h=>absurd h (no vs H Q E),fun A outer s H args us vs Q E _ _ _ _ h=>absurd h (no vs H Q E)⟩,F.binds hb,F.kp,hm⟩
def Runs {α:Type} (m:M α) (x:α):Prop:=∀ U,∃ hp',m U=some (x,hp')
section
variable {f g:DSx} {env env1 env2:En} {c ca cb:DTx} {e fa fb:DEx} {d x y:DV} {r:Fl×En}
end
theorem Qg {α β:Type} {m:M α} {k:α->M β} {x:α} (h:m U=some (x,hp1)):(m >>= k) U=k x hp1:=by
 show (m U).bind (fun p=>k p.1 p.2)=_
 rw [h];rfl
def Qj {f g:DSx} (h:f env U=some ((.nx,env1),hp1)):Qs f g env U=g env1 hp1:=Qg h
def Za {i:Nat} {f:DEx} {env:En} (h:f env U=some (d,hp1)):QU i f env U=some ((.nx,env.set i (.val d)),hp1):=Qg h
theorem Qdp {i:Int} (h:atI ds i=some d):ixD (.tup ds) (.int i)=pure d:=by simp only [ixD,h]
theorem Go (ds:List DV) (m:Nat):D.xY ds none (some (m:Int))=ds.take m:=by
 unfold D.xY
 rw [HT.sIx_nat]
 show (ds.drop 0).take (min m ds.length - 0)=ds.take m
 simp
theorem Qbc (ds:List DV) (m:Nat):D.xY ds (some (m:Int)) none=ds.drop m:=by
 unfold D.xY
 rw [HT.sIx_nat]
 show (ds.drop (min m ds.length)).take (ds.length - min m ds.length)=ds.drop m
 rcases Nat.le_total m ds.length with h | h
 ·rw [Nat.min_eq_left h,Ci (by simp)]
 ·rw [Nat.min_eq_right h,Cn h,Cn (Ae _)]
  simp
theorem Vv (ds:List DV) (m:Nat):slD (.tup ds) none (some (m:Int))=pure (.tup (ds.take m)):=by rw [<- Go];rfl
theorem Vu (ds:List DV) (m:Nat):slD (.tup ds) (some (m:Int)) none=pure (.tup (ds.drop m)):=by rw [<- Qbc];rfl
theorem GE {f g:DEx} {ds:List DV} {m:Nat} (h:f env=pure (.tup ds)) (h':g env=pure (.int (m:Int))):eSl f ZQ (ZR g) env=pure (.tup (ds.take m)):=by
 simp only [eSl,ZQ,ZR,h,h',Ef,asI,Vv]
theorem GD {f g:DEx} {ds:List DV} {m:Nat} (h:f env=pure (.tup ds)) (h':g env=pure (.int (m:Int))):eSl f (ZR g) ZQ env=pure (.tup (ds.drop m)):=by
 simp only [eSl,ZQ,ZR,h,h',Ef,asI,Vu]
end D
namespace L2
open PySem PySem.Spec PyProof.Rows
section
variable {X:Cx}
def QhJ:R2:=fun x y H Q=>∃ a kvs k v,x=.ref a/\y=kV k/\H a=some (.dK kvs)/\XI kvs k=some v/\Q v H
theorem Qdr (hu:X.A.units+1 < cLine):IxR X QhJ:=by
 intro value slice O9 s σ H x y v u Q I rx ry h hs
 obtain ⟨a,kvs,k,z,rfl,rfl,hH,hv,q⟩:=h
 cases rx
 have g:DGet H a (kV k) (some z):=hv▸DGet.k hH
 exact tail_any (Gu I g) PySem.F.slot_dict_getitem.lookup (kY hu I g ry fun w' s' I' rw'=>⟨z,H,I',rw',q⟩) hs
def Qhd:V->V->V->Hp->(Hp->Prop)->Prop:=fun o i v H Q=>∃ a kvs k,o=.ref a/\i=kV k/\H a=some (.dK kvs)/\kvs.length < sizeLine/\Q (upd H a (.dK (jF kvs k v)))
theorem Qcs (hu:X.A.units+1 < cLine):QcV X Qhd:=fun O9 s σ H o i v ov iv u Q I ro ri rv h=>by
 obtain ⟨a,kvs,k,rfl,rfl,hH,hl,q⟩:=h
 cases ro
 exact kZ hu I (DPut.k hH hl) ri rv fun s' I'=>⟨_,I',q⟩
def Qhc:V->List V->Hp->VK->Prop:=fun x vs H Q=>∃ a kvs k,x=.ref a/\H a=some (.dK kvs)/\((vs=[kV k]/\∃ v,XI kvs k=some v/\Q v (upd H a (.dK (jg kvs k)))) ∨
 ∃ z,vs=[kV k,z]/\(∀ v,XI kvs k=some v->Q v (upd H a (.dK (jg kvs k))))/\(XI kvs k=none->Q z H))
theorem KE:MtR X "dict.pop" Qhc:=by
 intro O9 s σ H x vs v us Q I rx rv h
 obtain ⟨a,kvs,k,rfl,hH,h⟩:=h
 cases rx
 rcases h with ⟨rfl,w,hw,q⟩ | ⟨z,rfl,q1,q2⟩
 ·obtain ⟨u,rfl,ru⟩:=VF rv
  exact Qew I hH ru hw (.inl rfl) fun w' s' I' rw'=>⟨w,_,I',rw',q⟩
 ·obtain ⟨u,u2,rfl,ru,ru2⟩:=VG rv
  cases l:XI kvs k with
  | some w=>exact Qew I hH ru l (.inr ⟨u2,rfl⟩) fun w' s' I' rw'=>⟨w,_,I',rw',q1 w l⟩
  | none=>exact QeZ I hH ru l fun s' I'=>⟨z,H,I',ru2,q2 l⟩
def Qhb:V->List V->Hp->VK->Prop:=fun x vs H Q=>∃ a kvs k,x=.ref a/\H a=some (.dK kvs)/\((vs=[kV k]/\Q ((XI kvs k).getD .non) H)∨∃ z,vs=[kV k,z]/\Q ((XI kvs k).getD z) H)
theorem gP (hu:X.A.units+1 < cLine):MtR X "dict.get" Qhb:=by
 intro O9 s σ H x vs v us Q I rx rv h
 obtain ⟨a,kvs,k,rfl,hH,h⟩:=h
 cases rx
 rcases h with ⟨rfl,q⟩ | ⟨z,rfl,q⟩
 ·obtain ⟨u,rfl,ru⟩:=VF rv
  exact QeX hu I (DGet.k hH) ru fun w' s' I' rw'=>⟨_,H,I',rw',q⟩
 ·obtain ⟨u,u2,rfl,ru,ru2⟩:=VG rv
  exact QeY hu I (DGet.k hH) ru ru2 fun w' s' I' rw'=>⟨_,H,I',rw',q⟩
def QgL (n:Nat) (i:Int):Nat:=if i < 0 then (i+(n:Int)).toNat else min i.toNat n
end
end L2
namespace D
open PySem PySem.Spec PyProof.Rows L2
def Y7:DV->Option Key
 | .int i=>some (.inl i)
 | .str x=>some (.inr x)
 | _=>none
def XB (kvs:List (Key×DV)) (k:Key):Option DV:=(kvs.find? fun kv=>decide (kv.1=k)).map (·.2)
def zm (kvs:List (Key×DV)) (k:Key) (d:DV):List (Key×DV) :=
 if (kvs.any fun kv=>decide (kv.1=k))=true then kvs.map (fun kv=>if kv.1=k then (kv.1,d) else kv) else kvs++[(k,d)]
def Xw (kvs:List (Key×DV)) (k:Key):List (Key×DV):=kvs.filter fun kv=>decide (kv.1≠k)
section
variable {K:Aa} {ρ:Eo} {B:Em} {H:Hp} {U:Hs}
theorem YE {v:V} (h:Y7 d=some k) (r:RepV K ρ B H d v):v=kV k:=by
 cases d<;>simp [Y7] at h<;>subst h
 ·exact r.intI
 ·exact r.strI
abbrev RepK (K:Aa) (ρ:Eo) (B:Em) (H:Hp):List (Key×DV)->List (Key×V)->Prop:=Paired fun p q=>p.1=q.1/\RepV K ρ B H p.2 q.2
theorem kc:∀ {kvs:List (Key×DV)} {xs:List (Key×V)},xs.map (·.1)=kvs.map (·.1)->RepL K ρ B H (kvs.map (·.2)) (xs.map (·.2))->RepK K ρ B H kvs xs
  | [],[],_,_=>.nil
  | [],_::_,e,_=>by simp at e
  | _::_,[],e,_=>by simp at e
  | p::kvs,q::xs,e,r=>by
    simp only [Bb,List.cons.injEq] at e
    simp only [Bb] at r
    unfold RepL at r
    obtain ⟨x,t,e2,h1,h2⟩:=r
    simp only [List.cons.injEq] at e2
    obtain ⟨rfl,rfl⟩:=e2
    exact .cons ⟨e.1.symm,h1⟩ (kc e.2 h2)
theorem RepK.to {kvs:List (Key×DV)} {xs:List (Key×V)} (r:RepK K ρ B H kvs xs):xs.map (·.1)=kvs.map (·.1)/\RepL K ρ B H (kvs.map (·.2)) (xs.map (·.2)):=by
 induction r with
 | nil=>exact ⟨rfl,RepL.nil⟩
 | cons h _ ih=>exact ⟨by simp [ih.1,h.1],by simpa using RepL.cons h.2 ih.2⟩
theorem RepK.val (r:RepK K ρ B H kvs xs) (k:Key):(XB kvs k=none/\XI xs k=none)∨∃ d v,XB kvs k=some d/\XI xs k=some v/\RepV K ρ B H d v:=by
  induction r with
  | nil=>exact .inl ⟨rfl,rfl⟩
  | @cons p q _ _ h _ ih =>
    by_cases e:p.1=k
    . exact .inr ⟨p.2,q.2,by simp [XB,B8,e],by simp [XI,B8,h.1▸e],h.2⟩
    . have e':¬ q.1=k:=h.1▸e
      simpa [XB,XI,B8,e,e'] using ih
theorem RepK.any {kvs:List (Key×DV)} {xs:List (Key×V)} (r:RepK K ρ B H kvs xs) (k:Key):(kvs.any fun kv=>decide (kv.1=k))=xs.any fun kv=>decide (kv.1=k):=by
 induction r with
 | nil=>rfl
 | cons h _ ih=>simp only [List.any_cons,ih,h.1]
theorem RepK.repl {kvs:List (Key×DV)} {xs:List (Key×V)} (r:RepK K ρ B H kvs xs) (k:Key) (rd:RepV K ρ B H d v):RepK K ρ B H (kvs.map fun kv=>if kv.1=k then (kv.1,d) else kv) (xs.map fun kv=>if kv.1=k then (kv.1,v) else kv):=by
  induction r with
  | nil=>exact .nil
  | @cons p q _ _ h _ ih =>
    refine .cons ?_ ih
    dsimp only
    by_cases e:p.1=k
    . rw [C8 e,C8 (h.1▸e)];exact ⟨h.1,rd⟩
    . rw [C7 e,C7 (h.1▸e)];exact h
theorem RepK.snoc {kvs:List (Key×DV)} {xs:List (Key×V)} (r:RepK K ρ B H kvs xs) (rd:RepV K ρ B H d v):RepK K ρ B H (kvs++[(k,d)]) (xs++[(k,v)]):=by
 induction r with
 | nil=>exact .cons ⟨rfl,rd⟩ .nil
 | cons h _ ih=>exact .cons h ih
theorem RepK.put (r:RepK K ρ B H kvs xs) (k:Key) (rd:RepV K ρ B H d v):RepK K ρ B H (zm kvs k d) (jF xs k v):=by
 unfold zm jF
 rw [r.any k]
 split
 ·exact r.repl k rd
 ·exact r.snoc rd
theorem RepK.drop (r:RepK K ρ B H kvs xs) (k:Key):RepK K ρ B H (Xw kvs k) (jg xs k):=by
  induction r with
  | nil=>exact .nil
  | @cons p q _ _ h _ ih =>
    unfold Xw jg at ih ⊢
    by_cases e:p.1=k
    . have e':q.1=k:=h.1▸e
      simpa [e,e'] using ih
    . have e':¬ q.1=k:=h.1▸e
      rw [List.filter_cons_of_pos (by simpa using e),List.filter_cons_of_pos (by simpa using e')];exact .cons h ih
def RepK.len {kvs:List (Key×DV)} {xs:List (Key×V)} (r:RepK K ρ B H kvs xs):kvs.length=xs.length:=Paired.length r
def RepK.gs (g:Gs K ρ B H ρ' B' H') (r:RepK K ρ B H kvs xs):RepK K ρ' B' H' kvs xs:=L2.Paired.mapP r fun _ _ h=>⟨h.1,RepV.gs g _ _ h.2⟩
theorem ORep.dic {a:Addr} (h:ORep K ρ B H a (.dic kvs)):∃ xs,H a=some (.dK xs)/\RepK K ρ B H kvs xs:=by
 obtain ⟨xs,e,ek,rl⟩:=h
 exact ⟨xs,e,kc ek rl⟩
def RepK.orep {a:Addr} (r:RepK K ρ B H kvs xs) (e:H a=some (.dK xs)):ORep K ρ B H a (.dic kvs):=⟨xs,e,r.to.1,r.to.2⟩
theorem VL {n:Nat} {a:Addr} (W:WOk K ρ B U H) (i:ρ[n]?=some a) (e:H a=some (.dK xs)) (r:RepK K ρ B H kvs' xs'):Gr K ρ B H ρ B (upd H a (.dK xs'))/\WOk K ρ B (U.set n (.dic kvs')) (upd H a (.dK xs')):=by
 have g:Gr K ρ B H ρ B (upd H a (.dK xs')):=Gr.wset i e
 exact ⟨g,W.wset (o':=.dK xs') (v:=.dic kvs') i e ((r.gs (g.gs W.rb)).orep Q3)⟩
theorem VM {n:Nat} {a:Addr} (W:WOk K ρ B U H) (i:ρ[n]?=some a) (e:H a=some o) (r:RepL K ρ B H ds' xs'):Gr K ρ B H ρ B (upd H a (.lst xs'))/\WOk K ρ B (U.set n (.lst ds')) (upd H a (.lst xs')):=by
 have g:Gr K ρ B H ρ B (upd H a (.lst xs')):=Gr.wset i e
 exact ⟨g,W.wset (o':=.lst xs') (v:=.lst ds') i e ⟨xs',Q3,RepL.grow W.rb g _ _ r⟩⟩
end
section
variable {X:Cx} {e a b c:Expr} {f fa fb fc:DEx} {pos:Pos}
def qg (o:Option DV):M DV:=match o with
 | some d=>pure d
 | none=>failure
theorem q8 {o:Option DV} {U hp':Hs} (h:qg o U=some (d,hp')):o=some d/\U=hp':=by
 cases o with
 | none=>cases h
 | some z=>obtain ⟨rfl,rfl⟩:=Qh h;exact ⟨rfl,rfl⟩
def Xg (d:DV):M Key:=match Y7 d with
 | some k=>pure k
 | none=>failure
theorem XV {U hp':Hs} (h:Xg d U=some (k,hp')):Y7 d=some k/\U=hp':=by
 unfold Xg at h
 cases q:Y7 d with
 | none=>rw [q] at h;cases h
 | some z=>rw [q] at h;obtain ⟨rfl,rfl⟩:=Qh h;exact ⟨rfl,rfl⟩
def ixG:DV->DV->M DV
  | .ref n,y=>do
    match <- ZE n with
    | .lst ds=>do let i <- asI y;qg (atI ds i)
    | .dic kvs=>do let k <- Xg y;qg (XB kvs k)
    | _=>failure
  | x,y=>ixD x y
theorem Qg3 (hu:X.A.units+1 < cLine):IxR X (tP2 X.K ixG):=by
  intro value slice O9 s σ H x y v u Q I rx ry h hsub
  obtain ⟨ρ,B,U,dx,dy,d,hp',W,r1,r2,e,k⟩:=h
  unfold ixG at e
  split at e
  . rename_i n
    obtain ⟨o,hp1,e1,e2⟩:=Qe e
    obtain ⟨e3,rfl⟩:=Zx e1
    obtain ⟨a,rfl,i1,ro⟩:=RepV.refW W r1 e3
    cases o with
    | ins _ _=>cases e2
    | dic kvs =>
      obtain ⟨ky,hp2,e4,e5⟩:=Qe e2
      obtain ⟨hk,rfl⟩:=XV e4
      obtain ⟨hv,rfl⟩:=q8 e5
      obtain ⟨xs,h1,rk⟩:=ro.dic
      rcases rk.val ky with ⟨z,_⟩ | ⟨d',v',z,zv,rz⟩
      . rw [hv] at z;cases z
      . rw [hv] at z;cases z
        exact Qdr hu value slice O9 s σ H _ _ v u Q I rx ry ⟨a,xs,ky,v',rfl,YE hk r2,h1,zv,k _ ρ B H Gr.refl W rz⟩ hsub
    | lst ds =>
      obtain ⟨i,hp2,e4,e5⟩:=Qe e2
      obtain ⟨rfl,rfl⟩:=yu e4
      obtain ⟨hv,rfl⟩:=q8 e5
      obtain ⟨xs,h1,l1⟩:=ro
      obtain ⟨z,hz,rz⟩:=Kb l1 hv
      exact gJ value slice O9 s σ H _ _ v u Q I rx ry ⟨a,xs,i,z,rfl,r2.intI,SqL.of h1,hz,k _ ρ B H Gr.refl W rz⟩ hsub
  . exact Qg2 value slice O9 s σ H x y v u Q I rx ry ⟨ρ,B,U,_,_,d,hp',W,r1,r2,e,k⟩ hsub
theorem Q5 (hu:X.A.units+1 < cLine) (ha:DE X a fa) (hb:DE X b fb) (hs:U7 b:=by intro _ _;rfl):DE X (.Subscript a b pos) (Qk ixG fa fb):=L2.PE.imp (QeI (Qg3 hu) ha hb hs) fun _ _ _ h=>qF h
def Xy:List DV->M DV
  | [.ref n]=>do
    match <- ZE n with
    | .lst ds=>pure (.int ds.length)
    | .dic kvs=>pure (.int kvs.length)
    | _=>failure
  | xs=>qd xs
theorem zH:CallR X (.builtin "len") (tPn X.K Xy):=by
  intro O9 s σ H xs us Q I r h
  obtain ⟨ρ,B,U,ds,d,hp',W,rl,e,k⟩:=h
  unfold Xy at e
  split at e
  . rename_i n
    obtain ⟨o,hp1,e1,e2⟩:=Qe e
    obtain ⟨e3,rfl⟩:=Zx e1
    obtain ⟨v,rfl,rv⟩:=rl.oneI
    obtain ⟨a,rfl,_,ro⟩:=RepV.refW W rv e3
    cases o with
    | ins _ _=>cases e2
    | lst zs =>
      obtain ⟨rfl,rfl⟩:=Qh e2
      obtain ⟨ys,h1,l1⟩:=ro
      exact Y6 O9 s σ H _ us Q I r ⟨a,ys,rfl,.inl (SqL.of h1),by rw [<- l1.length];exact k _ ρ B H Gr.refl W JQ⟩
    | dic kvs =>
      obtain ⟨rfl,rfl⟩:=Qh e2
      obtain ⟨ys,h1,l1⟩:=ro.dic
      exact kR O9 s σ H _ us Q I r ⟨a,ys,rfl,h1,by rw [<- l1.len];exact k _ ρ B H Gr.refl W JQ⟩
  . exact gc O9 s σ H xs us Q I r ⟨ρ,B,U,_,d,hp',W,rl,e,k⟩
def Qec:DV->M (List DV)
  | .tup ds=>pure ds
  | .lst ds=>pure ds
  | .ref n=>do
    match <- ZE n with
    | .lst ds=>pure ds
    | _=>failure
  | _=>failure
theorem Qcq {U hp':Hs} {K:Aa} {v:V} (W:WOk K ρ B U H) (r:RepV K ρ B H d v) (h:Qec d U=some (ds,hp')):U=hp'/\∃ p xs,v=.ref p/\(SqL K H p xs∨SqT K H p xs)/\RepL K ρ B H ds xs:=by
  cases d with
  | tup xs =>
    obtain ⟨rfl,rfl⟩:=Qh h
    obtain ⟨a,ys,rfl,_,sq,l⟩:=r.tupI
    exact ⟨rfl,a,ys,rfl,.inr sq,l⟩
  | lst xs =>
    obtain ⟨rfl,rfl⟩:=Qh h
    obtain ⟨a,ys,rfl,_,sq,l⟩:=r.lstI
    exact ⟨rfl,a,ys,rfl,.inl sq,l⟩
  | ref n =>
    obtain ⟨o,hp1,e1,e2⟩:=Qe (show (ZE n >>= fun o=>(match o with | .lst ds=>pure ds | _=>failure:M (List DV))) U=some (ds,hp') from h)
    obtain ⟨e3,rfl⟩:=Zx e1
    cases o with
    | lst zs =>
      obtain ⟨rfl,rfl⟩:=Qh e2
      obtain ⟨a,rfl,_,ys,h1,l1⟩:=RepV.refW W r e3
      exact ⟨rfl,a,ys,rfl,.inl (SqL.of h1),l1⟩
    | dic _=>cases e2
    | ins _ _=>cases e2
  | non=>cases h
  | bl _=>cases h
  | int _=>cases h
  | str _=>cases h
def Qdw (g:DV->M DV):List DV->M DV
 | [d]=>g d
 | _=>failure
def QgQ:List DV->M DV:=Qdw fun d=>do let ds <- Qec d;X0 (.lst ds)
theorem Uz {g:DV->M DV} {ds:List DV} (h:Qdw g ds U=some (d,hp')):∃ x,ds=[x]/\g x U=some (d,hp'):=by
 unfold Qdw at h
 split at h
 ·exact ⟨_,rfl,h⟩
 ·cases h
theorem _root_.L2.CallR.kf {f:Value} {r:List V->Hp->VK->Prop} (h:CallR X f r):CallR X f (fun xs H Q=>r xs H fun v H'=>uT X.K H'->Q v H'):=by
 intro O9 s σ H xs us Q I rv q
 refine thn (h O9 s σ H xs us _ I rv q) fun v s' ⟨x,H',I',rx,q'⟩=>⟨x,H',I',rx,q' (Inv.kfree I')⟩
theorem QcZ:CallR X (.type "list") (tPn X.K QgQ):=by
 intro O9 s σ H xs us Q I r h
 obtain ⟨ρ,B,U,ds,d,hp',W,rl,e,k⟩:=h
 obtain ⟨x,rfl,e⟩:=Uz e
 obtain ⟨zs,hp1,e1,e2⟩:=Qe e
 obtain ⟨v,rfl,rv⟩:=rl.oneI
 obtain ⟨rfl,p,ys,rfl,sq,l⟩:=Qcq W rv e1
 cases e2
 exact call_list_of.kf O9 s σ H _ us Q I r ⟨p,ys,rfl,sq,gB W l k⟩
end
def drf:Nat->Hs->DV->Option DV
  | 0,_,_=>none
  | n+1,U,d=>match d with
    | .ref i=>match U[i]? with
      | some (.lst ds)=>(ds.mapM (drf n U)).map .lst
      | _=>none
    | .tup ds=>(ds.mapM (drf n U)).map .tup
    | .lst ds=>(ds.mapM (drf n U)).map .lst
    | d=>some d
theorem yU {α β:Type} {f:α->Option β} {x:α} {xs:List α} {ys:List β} (h:(x::xs).mapM f=some ys):∃ y zs,f x=some y/\xs.mapM f=some zs/\ys=y::zs:=by
  rw [List.mapM_cons] at h
  cases q:f x with
  | none=>rw [q] at h;cases h
  | some y =>
    cases q2:xs.mapM f with
    | none=>rw [q,q2] at h;cases h
    | some zs=>rw [q,q2] at h;exact ⟨y,zs,rfl,rfl,(Ak h).symm⟩
section
variable {X:Cx} {O9:Eh} {σ:St} {H:Hp} {s:Shared} {ρ:Eo} {B:Em} {U:Hs}
theorem YL (I:Inv X O9 σ H s) (W:WOk X.K ρ B U H):∀ (n:Nat) (d d':DV) (v:V) (u:Value),drf n U d=some d'->RepV X.K ρ B H d v->RelV v u->∃ as,Reads s.heap u (toP d') as
  | 0,_,_,_,_,h,_,_=>by cases h
  | n+1,d,d',v,u,h,r,ru=>by
    have all:∀ (ds ds':List DV) (xs:List V) (us:List Value),ds.mapM (drf n U)=some ds'->RepL X.K ρ B H ds xs->Vals xs us->∃ as,ReadsAll s.heap us (toPs ds') as:=by
      intro ds
      induction ds with
      | nil =>
        intro ds' xs us h r ru
        rw [List.mapM_nil] at h;cases h
        unfold RepL at r;subst r;cases ru
        exact ⟨[],by unfold toPs;exact .nil⟩
      | cons x ds ih =>
        intro ds' xs us h r ru
        obtain ⟨y,zs,h1,h2,rfl⟩:=yU h
        unfold RepL at r
        obtain ⟨z,t,rfl,r1,r2⟩:=r
        cases ru with
        | cons q1 q2 =>
          obtain ⟨as,a1⟩:=YL I W n x y z _ h1 r1 q1
          obtain ⟨bs,a2⟩:=ih zs t _ h2 r2 q2
          exact ⟨_,by unfold toPs;exact .cons a1 a2⟩
    have lst:∀ (ds ds':List DV) (a:Addr) (xs:List V),ds.mapM (drf n U)=some ds'->SqL X.K H a xs->RepL X.K ρ B H ds xs->∃ as,Reads s.heap (.ref a) (toP (.lst ds')) as:=by
      intro ds ds' a xs h sq rl
      obtain ⟨its,rv,⟨o,k,e,hc,_,hd⟩,_⟩:=I.list sq
      obtain ⟨as,q⟩:=all ds ds' xs its h rl rv
      exact ⟨_,by unfold toP;exact reads_list_at e hc hd (by simpa using q)⟩
    unfold drf at h
    cases d with
    | non=>cases h;obtain rfl:=r.nonI;cases ru;exact ⟨[],by unfold toP;exact .none⟩
    | bl b=>cases h;obtain rfl:=r.blI;cases ru;exact ⟨[],by unfold toP;exact .bool b⟩
    | int i=>cases h;obtain rfl:=r.intI;obtain ⟨t,rfl⟩:=ru;exact ⟨[],by unfold toP;exact .int i t⟩
    | str x=>cases h;obtain rfl:=r.strI;obtain ⟨t,rfl⟩:=ru;exact ⟨[],by unfold toP;exact .str x t⟩
    | tup ds =>
      obtain ⟨ds',h1,rfl⟩:=Cg.mp h
      obtain ⟨a,xs,rfl,_,sq,rl⟩:=r.tupI
      cases ru
      obtain ⟨its,rv,⟨o,e,hc,k,hd⟩,_⟩:=I.tuple sq
      obtain ⟨as,q⟩:=all ds ds' xs its h1 rl rv
      exact ⟨_,by unfold toP;exact reads_tuple_at e hc hd (by simpa using q)⟩
    | lst ds =>
      obtain ⟨ds',h1,rfl⟩:=Cg.mp h
      obtain ⟨a,xs,rfl,_,sq,rl⟩:=r.lstI
      cases ru
      exact lst ds ds' a xs h1 sq rl
    | ref i =>
      cases q:U[i]? with
      | none=>simp only [q] at h;cases h
      | some o =>
        simp only [q] at h
        cases o with
        | dic _=>cases h
        | ins _ _=>cases h
        | lst ds =>
          obtain ⟨ds',h1,rfl⟩:=Cg.mp h
          obtain ⟨a,rfl,_,xs,h2,l⟩:=RepV.refW W r q
          cases ru
          exact lst ds ds' a xs h1 (SqL.of h2) l
end
def Qab (d:DV):M DV:=fun U=>(drf 40 U d).map fun x=>(x,U)
theorem Ul {U hp':Hs} (h:Qab d U=some (d',hp')):drf 40 U d=some d'/\U=hp':=by
 obtain ⟨x,h1,h2⟩:=Cg.mp h
 cases h2;exact ⟨h1,rfl⟩
def VV (x y:DV):M Bool:=do
 let x' <- Qab x
 let y' <- Qab y
 Qx (SeqAt.shaped (toP x')&&SeqAt.shaped (toP y'))
 pure (PyData.eqv (toP x') (toP y'))
def eqG:DV->DV->M DV:=fun x y=>do let b <- VV x y;pure (.bl b)
def neG:DV->DV->M DV:=fun x y=>do let b <- VV x y;pure (.bl (!b))
section
variable {X:Cx} {e a b c:Expr} {f fa fb fc:DEx} {ca cb:DTx} {pos:Pos}
theorem Uo {k:Bool} {U hp':Hs} (h:VV x y U=some (k,hp')):∃ x' y',drf 40 U x=some x'/\drf 40 U y=some y'/\SeqAt.shaped (toP x')=true/\SeqAt.shaped (toP y')=true/\k=PyData.eqv (toP x') (toP y')/\U=hp':=by
 obtain ⟨x',hp1,e1,h⟩:=Qe h
 obtain ⟨y',hp2,e2,h⟩:=Qe h
 obtain ⟨_,hp3,e3,h⟩:=Qe h
 obtain ⟨q1,rfl⟩:=Ul e1
 obtain ⟨q2,rfl⟩:=Ul e2
 obtain ⟨hs,rfl⟩:=QH e3
 obtain ⟨rfl,rfl⟩:=Qh h
 rw [Bc] at hs
 exact ⟨x',y',q1,q2,hs.1,hs.2,rfl,rfl⟩
theorem jA (hu:X.A.units+64 < cLine):P2 X (compareOp .Eq) eqG:=by
 intro O9 s σ H x y v u Q I rx ry h
 obtain ⟨ρ,B,U,dx,dy,d,hp',W,r1,r2,e,k⟩:=h
 obtain ⟨b,hp1,e1,e2⟩:=Qe e
 obtain ⟨rfl,rfl⟩:=Qh e2
 obtain ⟨x',y',q1,q2,s1,s2,rfl,rfl⟩:=Uo e1
 obtain ⟨as,a1⟩:=YL I W _ _ _ _ _ q1 r1 rx
 obtain ⟨bs,a2⟩:=YL I W _ _ _ _ _ q2 r2 ry
 exact eq_dataH a1 a2 s1 s2 hu ⟨.bl _,H,I,rfl,k _ ρ B H Gr.refl W ZH⟩
theorem QeH (hu:X.A.units+64 < cLine):P2 X (compareOp .NotEq) neG:=by
 intro O9 s σ H x y v u Q I rx ry h
 obtain ⟨ρ,B,U,dx,dy,d,hp',W,r1,r2,e,k⟩:=h
 obtain ⟨b,hp1,e1,e2⟩:=Qe e
 obtain ⟨rfl,rfl⟩:=Qh e2
 obtain ⟨x',y',q1,q2,s1,s2,rfl,rfl⟩:=Uo e1
 obtain ⟨as,a1⟩:=YL I W _ _ _ _ _ q1 r1 rx
 obtain ⟨bs,a2⟩:=YL I W _ _ _ _ _ q2 r2 ry
 exact ne_dataH a1 a2 s1 s2 hu ⟨.bl _,H,I,rfl,k _ ρ B H Gr.refl W ZH⟩
def Uq:DV->Bool
 | .non=>true
 | .bl _=>true
 | .int _=>true
 | .str _=>true
 | _=>false
def eqF:DV->DV->Bool
 | .non,.non=>true
 | .bl a,.bl b=>a==b
 | .bl a,.int b=>(if a then 1 else 0)==b
 | .int a,.bl b=>a==(if b then 1 else 0)
 | .int a,.int b=>a==b
 | .str a,.str b=>a==b
 | _,_=>false
def inB (d:DV) (ds:List DV):Bool:=ds.any fun y=>eqF y d
def QhY (x:DV):DV->M Bool
  | .ref n=>do
    match <- ZE n with
    | .lst ds=>do Qx (Uq x&&ds.all Uq);pure (inB x ds)
    | .dic kvs=>do let k <- Xg x;pure (XB kvs k).isSome
    | _=>failure
  | .tup ds=>do Qx (Uq x&&ds.all Uq);pure (inB x ds)
  | .lst ds=>do Qx (Uq x&&ds.all Uq);pure (inB x ds)
  | _=>failure
def jE (o i d:DV):M Unit:=match o with
  | .ref n=>do
    match <- ZE n with
    | .lst ds=>do
      let k <- asI i
      match ixN ds.length k with
      | some j=>xw n (.lst (ds.set j d))
      | none=>failure
    | .dic kvs=>do
      let k <- Xg i
      Qx (decide (kvs.length < lim))
      xw n (.dic (zm kvs k d))
    | _=>failure
  | _=>failure
def tP3 (K:Aa) (g:DV->DV->DV->M Unit):QcW:=fun o i v H Q=>∃ ρ B U dO di dv hp',WOk K ρ B U H/\RepV K ρ B H dO o/\RepV K ρ B H di i/\RepV K ρ B H dv v/\g dO di dv U=some ((),hp')/\∀ ρ' B' H',Gr K ρ B H ρ' B' H'->WOk K ρ' B' hp' H'->Q H'
theorem RepL.set {K:Aa} (r:RepV K ρ B H d x):∀ {ds:List DV} {xs:List V} (i:Nat),RepL K ρ B H ds xs->RepL K ρ B H (ds.set i d) (xs.set i x)
  | [],_,i,h=>by unfold RepL at h;subst h;exact RepL.nil
  | _::ds,_,0,h=>by
    unfold RepL at h
    obtain ⟨y,t,rfl,_,h2⟩:=h
    exact RepL.cons r h2
  | _::ds,_,i+1,h=>by
    unfold RepL at h
    obtain ⟨y,t,rfl,h1,h2⟩:=h
    exact RepL.cons h1 (RepL.set r i h2)
theorem Qg4 (hu:X.A.units+1 < cLine):QcV X (tP3 X.K jE):=by
  intro O9 s σ H o i v ov iv u Q I ro ri rv h
  obtain ⟨ρ,B,U,dO,di,dv,hp',W,r1,r2,r3,e,k⟩:=h
  cases dO with
  | ref n =>
    obtain ⟨ob,hp1,e1,e2⟩:=Qe e
    obtain ⟨e3,rfl⟩:=Zx e1
    obtain ⟨a,rfl,i1,rob⟩:=RepV.refW W r1 e3
    cases ob with
    | ins _ _=>cases e2
    | lst ds =>
      obtain ⟨j,hp2,e4,e5⟩:=Qe e2
      obtain ⟨rfl,rfl⟩:=yu e4
      obtain ⟨xs,h1,l1⟩:=rob
      cases q:ixN ds.length j with
      | none=>simp only [q] at e5;cases e5
      | some m =>
        simp only [q] at e5
        cases e5
        obtain ⟨g,W'⟩:=VM W i1 h1 (RepL.set r3 m l1)
        exact Qct O9 s σ H _ _ v ov iv u Q I ro ri rv ⟨a,xs,j,m,rfl,r2.intI,h1,by rw [<- l1.length];exact q,k ρ B _ g W'⟩
    | dic kvs =>
      obtain ⟨ky,hp2,e4,e5⟩:=Qe e2
      obtain ⟨hk,rfl⟩:=XV e4
      obtain ⟨_,hp3,e6,e7⟩:=Qe e5
      obtain ⟨hl,rfl⟩:=QH e6
      cases e7
      obtain ⟨xs,h1,rk⟩:=rob.dic
      obtain ⟨g,W'⟩:=VL W i1 h1 (rk.put ky r3)
      exact Qcs hu O9 s σ H _ _ v ov iv u Q I ro ri rv ⟨a,xs,ky,rfl,YE hk r2,h1,by rw [<- rk.len];exact Ay (Ed hl) KB,k ρ B _ g W'⟩
  | non=>cases e
  | bl _=>cases e
  | int _=>cases e
  | str _=>cases e
  | tup _=>cases e
  | lst _=>cases e
def gSb (f g:DEx):DGx:=fun d env=>do
 let o <- f env
 let i <- g env
 jE o i d
 pure env
theorem vQ (hu:X.A.units+1 < cLine) (ho:DE X o fo) (hi:DE X i fi)
  (ha:∀ v,assign (.Subscript o i pos) X.env v=(do
   let ov <- holding [v] (eval o X.env)
   let iv <- holding [v,ov] (eval i X.env)
   standAt pos
   holding [v,ov,iv] (setItem ov iv v)
   release [v,ov,iv] []):=by intro _;rfl):PG X (.Subscript o i pos) (tDG X.K (gSb fo fi)):=by
 intro O9 s σ H v u Q I r h
 refine QfO ho hi (Qg4 hu) ha O9 s σ H v u Q I r ?_
 obtain ⟨Z,env,ρ,B,U,d,env',hp',S,rd,e,k⟩:=h
 obtain ⟨x,hp1,e1,e⟩:=Qe e
 obtain ⟨y,hp2,e2,e⟩:=Qe e
 obtain ⟨z,hp3,e3,e⟩:=Qe e
 obtain ⟨rfl,rfl⟩:=Qh e
 refine tD.run S e1 fun vx ρ1 B1 H1 g1 S1 r1=>tD.run S1 e2 fun vy ρ2 B2 H2 g2 S2 r2=>?_
 exact ⟨ρ2,B2,hp2,x,y,d,hp3,S2.wo,RepV.grow S1.wo.rb g2 _ _ r1,r2,RepV.grow S.wo.rb (g1.trans g2) _ _ rd,e3,fun ρ3 B3 H3 g3 W3=>k _ ρ3 B3 H3 ((g1.trans (g2.trans g3)).gs S.wo.rb) (S2.grow g3 W3)⟩
def J5:String->DV->M Unit
  | "list", .lst _=>pure ()
  | "str", .str _=>pure ()
  | T,.ref n=>do
    match <- ZE n with
    | .lst _=>Qx (T == "list")
    | .dic _=>Qx (T == "dict")
    | _=>failure
  | _,_=>failure
theorem QbE {T:String} {U hp':Hs} {K:Aa} {u:Unit} (W:WOk K ρ B U H) (r:RepV K ρ B H d v) (h:J5 T d U=some (u,hp')):U=hp'/\tyV K T v H:=by
  unfold J5 at h
  split at h
  . obtain ⟨_,rfl⟩:=Qh h
    obtain ⟨a,xs,rfl,_,sq,_⟩:=r.lstI
    exact ⟨rfl,.inl ⟨rfl,xs,sq⟩⟩
  . obtain ⟨_,rfl⟩:=Qh h
    obtain rfl:=r.strI
    exact ⟨rfl,rfl⟩
  . obtain ⟨o,hp1,e1,e2⟩:=Qe h
    obtain ⟨e3,rfl⟩:=Zx e1
    obtain ⟨a,rfl,_,ro⟩:=RepV.refW W r e3
    cases o with
    | lst ds =>
      obtain ⟨hT,rfl⟩:=QH e2
      obtain ⟨xs,h1,_⟩:=ro
      exact ⟨rfl,.inl ⟨by simpa using hT,xs,SqL.of h1⟩⟩
    | dic kvs =>
      obtain ⟨hT,rfl⟩:=QH e2
      obtain ⟨xs,h1,_⟩:=ro
      exact ⟨rfl,.inr (.inr (.inl ⟨by simpa using hT,.inl ⟨xs,h1⟩⟩))⟩
    | ins _ _=>cases e2
  . cases h
def tPm (K:Aa) (m:DV->List DV->M DV):V->List V->Hp->VK->Prop:=fun x vs H Q=>∃ ρ B U dx ds d hp',WOk K ρ B U H/\RepV K ρ B H dx x/\RepL K ρ B H ds vs/\m dx ds U=some (d,hp')/\Fol K ρ B H d hp' Q
def Jz (T:String) (m:DV->List DV->M DV) (f:DEx) (a:DAx):DEx:=fun env=>do
 let x <- f env
 J5 T x
 let ds <- a env
 m x ds
theorem zI {T id:String} {name:Str} {es:List Expr} {m:DV->List DV->M DV} {apos cpos:Pos} (hm:MtR X id (tPm X.K m)) (pa:PlainAttrs T) (slot:Slot T name id) (hty:typeOf (.builtin id)=pure (.type "method_descriptor")) (ho:DE X o fo) (ha:DA X (e::es) fs)
  (hbase:attributeBase o name X.env (eval o X.env)=eval o X.env:=by rfl)
  (hfew:((backTo cpos (starEach (e::es) X.env)).all (fun x=>!x.1)&&(backToKw cpos (keywordEach [] X.env)).all (fun x=>x.1.isSome)
   && decide ((e::es).length+([]:List Keyword).length+(if ([]:List Keyword).isEmpty then 0 else 1) < 30))=true:=by rfl)
  (hline:(apos.endLine==cpos.line)=true:=by rfl) (hs:starEach (e::es) X.env=(false,eval e X.env)::starEach es X.env:=by rfl) (hplain:(backTo cpos (starEach es X.env)).any (·.1)=false:=by rfl) :
  DE X (.Call (.Attribute o name apos) (e::es) [] cpos) (Jz T m fo fs) :=
 L2.PE.imp (Qg6 pa slot hty hm ho ha hbase hfew hline hs hplain) fun σ H Q zz1=>by
  obtain ⟨Z,env,ρ,B,U,d,hp',S,e,k⟩:=zz1
  obtain ⟨x,hp1,e1,ea⟩:=Qe e
  obtain ⟨_,hp2,e2,eb⟩:=Qe ea
  obtain ⟨ds,hp3,e3,ec⟩:=Qe eb
  refine tD.run S e1 fun v ρ1 B1 H1 g1 S1 r1=>?_
  obtain ⟨z,ty⟩:=QbE S1.wo r1 e2
  rw [<- z] at e3
  exact ⟨ty,tDA.run S1 e3 fun vs ρ2 B2 H2 g2 S2 r2=>⟨ρ2,B2,hp3,x,ds,d,hp',S2.wo,RepV.grow S1.wo.rb g2 _ _ r1,r2,ec,k.after (g1.trans g2)⟩⟩
def onL (x:DV) (k:Nat->List DV->M DV):M DV:=match x with
  | .ref n=>do
    match <- ZE n with
    | .lst ds=>k n ds
    | _=>failure
  | _=>failure
def onD (x:DV) (k:Nat->List (Key×DV)->M DV):M DV:=match x with
  | .ref n=>do
    match <- ZE n with
    | .dic ds=>k n ds
    | _=>failure
  | _=>failure
theorem yY {x d:DV} {k:Nat->List DV->M DV} {U hp':Hs} (h:onL x k U=some (d,hp')):∃ n ds,x=.ref n/\U[n]?=some (.lst ds)/\k n ds U=some (d,hp'):=by
  cases x with
  | ref n =>
    obtain ⟨o,hp1,e1,e2⟩:=Qe h
    obtain ⟨e3,rfl⟩:=Zx e1
    cases o with
    | lst ds=>exact ⟨n,ds,rfl,e3,e2⟩
    | dic _=>cases e2
    | ins _ _=>cases e2
  | _=>cases h
theorem jx {x d:DV} {k:Nat->List (Key×DV)->M DV} {U hp':Hs} (h:onD x k U=some (d,hp')):∃ n ds,x=.ref n/\U[n]?=some (.dic ds)/\k n ds U=some (d,hp'):=by
  cases x with
  | ref n =>
    obtain ⟨o,hp1,e1,e2⟩:=Qe h
    obtain ⟨e3,rfl⟩:=Zx e1
    cases o with
    | dic ds=>exact ⟨n,ds,rfl,e3,e2⟩
    | lst _=>cases e2
    | ins _ _=>cases e2
  | _=>cases h
def ZN (x:DV):List DV->M DV
 | [d]=>onL x fun n ds=>do Qx (decide (ds.length < lim));xw n (.lst (ds++[d]));pure .non
 | _=>failure
theorem yT:MtR X "list.append" (tPm X.K ZN):=by
 intro O9 s σ H x vs v us Q I rx rv h
 obtain ⟨ρ,B,U,dx,es,d,hp',W,r1,r2,e,k⟩:=h
 unfold ZN at e
 split at e
 ·rename_i y
  obtain ⟨n,ds,rfl,h0,e⟩:=yY e
  obtain ⟨_,hp1,e1,e2⟩:=Qe e
  obtain ⟨hl,rfl⟩:=QH e1
  cases e2
  obtain ⟨a,rfl,i1,xs,h1,l1⟩:=RepV.refW W r1 h0
  obtain ⟨w,rfl,rw'⟩:=r2.oneI
  obtain ⟨g,W'⟩:=VM W i1 h1 (RepL.append l1 (RepL.one rw'))
  exact Ux O9 s σ H _ _ v us Q I rx rv ⟨a,xs,w,rfl,rfl,h1,by rw [<- l1.length];exact Ay (Ed hl) KB,k _ ρ B _ g W' zd⟩
 ·cases e
def J6 (x:DV):List DV->M DV
 | [.int i,d]=>onL x fun n ds=>do Qx (decide (ds.length < lim)&&Vx i);xw n (.lst (ds.take (QgL ds.length i)++d::ds.drop (QgL ds.length i)));pure .non
 | _=>failure
def X5 (x:DV):List DV->M DV
  | [y]=>onD x fun n kvs=>do
    let k <- Xg y
    let d <- qg (XB kvs k)
    xw n (.dic (Xw kvs k))
    pure d
  | [y,z]=>onD x fun n kvs=>do
    let k <- Xg y
    match XB kvs k with
    | some d=>do xw n (.dic (Xw kvs k));pure d
    | none=>pure z
  | _=>failure
theorem Qfm:MtR X "dict.pop" (tPm X.K X5):=by
 intro O9 s σ H x vs v us Q I rx rv h
 obtain ⟨ρ,B,U,dx,es,d,hp',W,r1,r2,e,k⟩:=h
 unfold X5 at e
 split at e
 ·rename_i y
  obtain ⟨n,kvs,rfl,h0,e⟩:=jx e
  obtain ⟨ky,hp1,e1,e⟩:=Qe e
  obtain ⟨hk,rfl⟩:=XV e1
  obtain ⟨d',hp2,e2,e⟩:=Qe e
  obtain ⟨hv,rfl⟩:=q8 e2
  cases e
  obtain ⟨a,rfl,i1,ro⟩:=RepV.refW W r1 h0
  obtain ⟨xs,h1,rk⟩:=ro.dic
  obtain ⟨w,rfl,rw'⟩:=r2.oneI
  obtain rfl:=YE hk rw'
  obtain ⟨g,W'⟩:=VL W i1 h1 (rk.drop ky)
  rcases rk.val ky with ⟨z,_⟩ | ⟨d'',v',z,zv,rz⟩
  ·rw [hv] at z;cases z
  ·rw [hv] at z;cases z
   exact KE O9 s σ H _ _ v us Q I rx rv ⟨a,xs,ky,rfl,h1,.inl ⟨rfl,v',zv,k _ ρ B _ g W' (RepV.grow W.rb g _ _ rz)⟩⟩
 ·rename_i y z
  obtain ⟨n,kvs,rfl,h0,e⟩:=jx e
  obtain ⟨ky,hp1,e1,e⟩:=Qe e
  obtain ⟨hk,rfl⟩:=XV e1
  obtain ⟨a,rfl,i1,ro⟩:=RepV.refW W r1 h0
  obtain ⟨xs,h1,rk⟩:=ro.dic
  unfold RepL at r2
  obtain ⟨w,t,rfl,rw',r2⟩:=r2
  obtain rfl:=YE hk rw'
  obtain ⟨w2,rfl,rw2⟩:=r2.oneI
  rcases rk.val ky with ⟨z1,zv⟩ | ⟨d'',v',z1,zv,rz⟩
  ·rw [z1] at e
   obtain ⟨rfl,rfl⟩:=Qh e
   exact KE O9 s σ H _ _ v us Q I rx rv ⟨a,xs,ky,rfl,h1,.inr ⟨w2,rfl,(fun v hv=>by rw [zv] at hv;cases hv),fun _=>k _ ρ B H Gr.refl W rw2⟩⟩
  ·rw [z1] at e
   cases e
   obtain ⟨g,W'⟩:=VL W i1 h1 (rk.drop ky)
   exact KE O9 s σ H _ _ v us Q I rx rv ⟨a,xs,ky,rfl,h1,.inr ⟨w2,rfl,(fun v hv=>by rw [zv] at hv;cases hv;exact k _ ρ B _ g W' (RepV.grow W.rb g _ _ rz)),fun hn=>by rw [zv] at hn;cases hn⟩⟩
 ·cases e
def JY (x:DV):List DV->M DV
  | [y]=>onD x fun n kvs=>do
    let k <- Xg y
    pure ((XB kvs k).getD .non)
  | [y,z]=>onD x fun n kvs=>do
    let k <- Xg y
    pure ((XB kvs k).getD z)
  | _=>failure
theorem QbM (hu:X.A.units+1 < cLine):MtR X "dict.get" (tPm X.K JY):=by
 intro O9 s σ H x vs v us Q I rx rv h
 obtain ⟨ρ,B,U,dx,es,d,hp',W,r1,r2,e,k⟩:=h
 unfold JY at e
 split at e
 ·rename_i y
  obtain ⟨n,kvs,rfl,h0,e⟩:=jx e
  obtain ⟨ky,hp1,e1,e⟩:=Qe e
  obtain ⟨hk,rfl⟩:=XV e1
  obtain ⟨rfl,rfl⟩:=Qh e
  obtain ⟨a,rfl,i1,ro⟩:=RepV.refW W r1 h0
  obtain ⟨xs,h1,rk⟩:=ro.dic
  obtain ⟨w,rfl,rw'⟩:=r2.oneI
  obtain rfl:=YE hk rw'
  refine gP hu O9 s σ H _ _ v us Q I rx rv ⟨a,xs,ky,rfl,h1,.inl ⟨rfl,k _ ρ B H Gr.refl W ?_⟩⟩
  rcases rk.val ky with ⟨z1,zv⟩ | ⟨d'',v',z1,zv,rz⟩<;>rw [z1,zv]
  ·exact zd
  ·exact rz
 ·rename_i y z
  obtain ⟨n,kvs,rfl,h0,e⟩:=jx e
  obtain ⟨ky,hp1,e1,e⟩:=Qe e
  obtain ⟨hk,rfl⟩:=XV e1
  obtain ⟨rfl,rfl⟩:=Qh e
  obtain ⟨a,rfl,i1,ro⟩:=RepV.refW W r1 h0
  obtain ⟨xs,h1,rk⟩:=ro.dic
  unfold RepL at r2
  obtain ⟨w,t,rfl,rw',r2⟩:=r2
  obtain rfl:=YE hk rw'
  obtain ⟨w2,rfl,rw2⟩:=r2.oneI
  refine gP hu O9 s σ H _ _ v us Q I rx rv ⟨a,xs,ky,rfl,h1,.inr ⟨w2,rfl,k _ ρ B H Gr.refl W ?_⟩⟩
  rcases rk.val ky with ⟨z1,zv⟩ | ⟨d'',v',z1,zv,rz⟩<;>rw [z1,zv]
  ·exact rw2
  ·exact rz
 ·cases e
end
end D
namespace L2
open PySem PySem.Spec PyProof.Rows
theorem Inv.kfresh {X:Cx} {s:Shared} (I:Inv X O9 σ H s):X.K.lookup s.heap.objs.size=none:=by
 cases q:X.K.lookup s.heap.objs.size with
 | none=>rfl
 | some o=>exact absurd (Ap (I.kIn _ o q)) (Cv _)
theorem Qav {X:Cx}:PE X (.Dict [] [] pos) (fun _ H Q=>∀ p,H p=none->X.K.lookup p=none->Q (.ref p) (upd H p (.dK []))):=fun O9 s σ H Q I h =>
 wpAny_Dict_empty ⟨.ref s.heap.objs.size,_,I.laid (a:=s.heap.objs.size) (o:=.dK []) (t':=s.toks) (fun _ _ q=>Ad _ q) (Ae _) (Qbj s.heap I.big),rfl,h _ (I.hok.fresh (Ae _)) I.kfresh⟩
end L2
namespace D
open PySem PySem.Spec PyProof.Rows L2
section
variable {X:Cx} {e a b c:Expr} {f fa fb fc:DEx} {ca cb:DTx} {pos:Pos}
def evP:List (DEx×DEx)->En->M (List (Key×DV))
  | [],_=>pure []
  | (f,g)::r,env=>do
    let x <- f env
    let k <- Xg x
    let y <- g env
    let ps <- evP r env
    pure ((k,y)::ps)
def Qfn (kvs more:List (Key×DV)):List (Key×DV):=more.foldl (fun acc kv=>zm acc kv.1 kv.2) kvs
def qG (ps:List (DEx×DEx)):DEx:=fun env=>do
 let kvs <- evP ps env
 Qx (decide (kvs.length<=15))
 X0 (.dic (Qfn [] kvs))
def JU:DEx:=fun _=>X0 (.dic [])
theorem Gp:DE X (.Dict [] [] pos) JU:=L2.PE.imp Qav fun σ H Q zz1=>by
 obtain ⟨Z,env,ρ,B,U,d,hp',S,e,k⟩:=zz1
 cases e
 intro p hn hk
 have g:Gr X.K ρ B H (ρ++[p]) (xX B p) (upd H p (.dK [])):=Gr.wnew hn hk
 refine k _ _ _ _ g (S.wo.wnew hn hk (RepK.orep (xs:=[]) .nil Q3)) ?_
 unfold RepV
 exact ⟨p,rfl,by rw [<- S.wo.len];simp⟩
abbrev NX:=Nat->M (Option DV)
def uU (K:Aa) (ρ:Eo) (B:Em) (H:Hp) (nxt:NX) (J:It):Prop :=
  ∀ ρ1 B1 hp1 H1, Gs K ρ B H ρ1 B1 H1 -> WOk K ρ1 B1 hp1 H1 -> ∀ (i : Nat) (o : Option DV) (hp2 : Hs), nxt i hp1 = some (o, hp2) -> hp2 = hp1 /\ match o with
    | none=>J.stop i H1
    | some d=>J.go i H1/\∀ x H',J.yld i H1 x H'->RepV K ρ1 B1 H' d x/\(H'=H1∨∃ p o,H1 p=none/\H'=upd H1 p o)
abbrev DXx:=En->M NX
def tDX (K:Aa) (f:DXx):TI:=fun σ H R=>∃ Z env ρ B U nxt hp',SOk K Z env σ ρ B U H/\f env U=some (nxt,hp')/\∀ J ρ' B' H',Gr K ρ B H ρ' B' H'->WOk K ρ' B' hp' H'->uU K ρ' B' H' nxt J->R J H'
def DX (X:Cx) (tg iter:Expr) (f:DXx):Prop:=PI X tg iter (tDX X.K f)
def nxD (ds:List DV):NX:=fun i=>if i<=ds.length then pure ds[i]? else failure
def nxW (n:Nat):NX:=fun i=>do
 match <- ZE n with
 | .lst ds=>pure ds[i]?
 | _=>failure
theorem uo {K:Aa} (h:kJ K ρ B H ds J):uU K ρ B H (nxD ds) J:=fun ρ1 B1 hp1 H1 g W i o hp2 e=>by
  unfold nxD at e
  by_cases hi:i<=ds.length
  . rw [C8 hi] at e
    obtain ⟨rfl,rfl⟩:=Qh e
    obtain ⟨h1,h2⟩:=h ρ1 B1 H1 g W.rb W.bt
    refine ⟨rfl,?_⟩
    cases q:ds[i]? with
    | none =>
      have:i=ds.length:=by have:=List.getElem?_eq_none_iff.mp q;lia
      subst this
      exact h2
    | some d=>exact h1 i d q
  . rw [C7 hi] at e;cases e
theorem Qfs {K:Aa} {ρ:Eo} {n:Nat} {a:Addr} (ha:ρ[n]?=some a) (kf:∀ H1:Hp,∀ xs ys,H1 a=some (.lst xs)->SqL K H1 a ys->ys=xs):uU K ρ B H (nxW n) (Itl K a):=fun ρ1 B1 hp1 H1 g W i o hp2 e=>by
  obtain ⟨ob,hp3,e1,e2⟩:=Qe e
  obtain ⟨e3,rfl⟩:=Zx e1
  have ha1:=gX g.pre ha
  cases ob with
  | dic _=>cases e2
  | ins _ _=>cases e2
  | lst ds =>
    obtain ⟨rfl,rfl⟩:=Qh e2
    obtain ⟨xs,h1,l1⟩:=W.obj n a _ ha1 e3
    refine ⟨rfl,?_⟩
    cases q:ds[i]? with
    | none=>exact ⟨xs,SqL.of h1,by rw [<- l1.length];exact List.getElem?_eq_none_iff.mp q⟩
    | some d =>
      obtain ⟨x,hx,rx⟩:=l1.get q
      refine ⟨⟨xs,x,SqL.of h1,hx⟩,fun y H' ⟨eH,hy⟩=>?_⟩
      subst eH
      have:=hy xs (SqL.of h1)
      rw [hx] at this;cases this
      exact ⟨rx,.inl rfl⟩
theorem QcC {K:Aa} {a:Addr} (hk:K.lookup a=none) (H:Hp) (xs ys:List V) (h:H a=some (.lst xs)) (h':SqL K H a ys):ys=xs:=by
 rcases h' with (h' | ⟨o,h'⟩) | ⟨o,_,_,h',_⟩
 ·rw [h] at h';cases h';rfl
 ·rw [h] at h';cases h'
 ·rw [hk] at h';cases h'
def xOf (f:DIx):DXx:=fun env=>do let ds <- f env;pure (nxD ds)
def xLs (f:DEx):DXx:=fun env=>do
  match <- f env with
  | .lst ds=>pure (nxD ds)
  | .ref n=>do
    match <- ZE n with
    | .lst _=>pure (nxW n)
    | _=>failure
  | _=>failure
variable {tg iter:Expr}
theorem gw (h:DI X tg iter g):DX X tg iter (xOf g):=L2.PI.imp h fun σ H R zz1=>by
 obtain ⟨Z,env,ρ,B,U,nxt,hp',S,e,k⟩:=zz1
 obtain ⟨ds,hp1,e1,e2⟩:=Qe e
 obtain ⟨rfl,rfl⟩:=Qh e2
 exact ⟨Z,env,ρ,B,U,ds,hp1,S,e1,fun J ρ' B' H' g W it=>k J ρ' B' H' g W (uo it)⟩
theorem yg (h:DE X iter f):DX X tg iter (xLs f):=L2.PI.imp (QdN (L2.PE.kf h)) fun σ H R zz1=>by
  obtain ⟨Z,env,ρ,B,U,nxt,hp',S,e,k⟩:=zz1
  obtain ⟨d,hp1,e1,e2⟩:=Qe e
  refine tD.run S e1 fun v ρ1 B1 H1 g1 S1 r1 kf=>?_
  cases d with
  | lst ds =>
    obtain ⟨rfl,rfl⟩:=Qh e2
    obtain ⟨a,xs,rfl,nb,sq,rl⟩:=r1.lstI
    exact ⟨a,rfl,⟨xs,sq⟩,k _ ρ1 B1 H1 g1 S1.wo (uo (Qdn nb sq rl))⟩
  | ref n =>
    obtain ⟨o,hp2,e3,e4⟩:=Qe (show (ZE n >>= fun o=>(match o with | .lst _=>pure (nxW n) | _=>failure:M NX)) hp1=some (nxt,hp') from e2)
    obtain ⟨e5,e6⟩:=Zx e3
    cases o with
    | lst ds =>
      obtain ⟨rfl,z⟩:=Qh e4
      rw [<- z,<- e6] at k
      obtain ⟨a,rfl,i1,xs,h1,_⟩:=RepV.refW S1.wo r1 e5
      exact ⟨a,rfl,⟨xs,SqL.of h1⟩,k _ ρ1 B1 H1 g1 S1.wo (Qfs i1 (QcC (kf a _ h1)))⟩
    | dic _=>cases e4
    | ins _ _=>cases e4
  | non=>cases e2
  | bl _=>cases e2
  | int _=>cases e2
  | str _=>cases e2
  | tup _=>cases e2
def YH (nxt:NX) (b:DV->DSx):Nat->Nat->DSx
  | 0,_,_=>failure
  | m+1,i,env=>do
    match <- nxt i with
    | none=>pure (.nx,env)
    | some d=>do
      let r <- b d env
      match r.1 with
      | .nx=>YH nxt b m (i+1) r.2
      | .ct=>YH nxt b m (i+1) r.2
      | .bk=>pure (.nx,r.2)
      | .rt x=>pure (.rt x,r.2)
def jJ (f:DXx) (g:DGx) (body:DSx):DSx:=fun env=>do let nxt <- f env;YH nxt (fun d env=>do let env' <- g d env;body env') 100000 0 env
theorem ye {body:List Stmt} {fi:DXx} {g:DGx} {sb:DSx} (U:PassesOwn (model X.prog X.w) X.A X.env X.xe) (hc:X.calm=true) (hi:DX X tg iter fi) (hg:PG X tg (tDG X.K g)) (hb:DSs X body sb)
    (hs:∀ x,foldedSetIterable iter X.env x=pure x:=by intro _;rfl):DS X (.For tg iter body [] pos) (jJ fi g sb) :=
  (QfW U hc hi hg hb hs).imp fun D σ H zz1=>by
    obtain ⟨Z,env,ρ,B,U,fl,env',hp',S,e,k⟩:=zz1
    obtain ⟨nxt,hp1,e1,e2⟩:=Qe e
    refine ⟨Z,env,ρ,B,U,nxt,hp1,S,e1,fun J ρ1 B1 H1 g1 W1 it=>?_⟩
    have k1:=k.after (g1.gs S.wo.rb)
    refine ⟨fun i m σ H=>∃ env ρ B U,SOk X.K Z env σ ρ B U H/\Gs X.K ρ1 B1 H1 ρ B H/\YH nxt (fun d env=>do let env' <- g d env;sb env') m i env U=some ((fl,env'),hp'),
      ⟨100000,env,ρ1,B1,hp1,S.grow g1 W1,Gs.refl,e2⟩,?_⟩
    rintro i m σ H ⟨env2,ρ2,B2,hp2,S2,g2,e3⟩
    cases m with
    | zero=>cases e3
    | succ m =>
      obtain ⟨o,hpo,eo,e3⟩:=Qe e3
      obtain ⟨rfl,ito⟩:=it ρ2 B2 hp2 H g2 S2.wo i o hpo eo
      cases o with
      | none =>
        obtain ⟨z,rfl⟩:=Qh e3;cases z
        exact .inl ⟨ito,k1 σ ρ2 B2 H g2 S2⟩
      | some d =>
        obtain ⟨go,yl⟩:=ito
        obtain ⟨⟨f1,env4⟩,hp4,e4,e5⟩:=Qe e3
        obtain ⟨env3,hp3,e6,e7⟩:=Qe e4
        refine .inr ⟨go,fun σ' H'=>∃ env ρ B U,SOk X.K Z env σ' ρ B U H'/\Gs X.K ρ1 B1 H1 ρ B H'/\YH nxt (fun d env=>do let env' <- g d env;sb env') m (i+1) env U=some ((fl,env'),hp'),
          fun σ' H' q=>⟨m,C0 m,q⟩,fun x H' y=>?_⟩
        obtain ⟨rx,hx⟩:=yl x H' y
        have S3:SOk X.K Z env2 σ ρ2 B2 hpo H'/\Gs X.K ρ2 B2 H ρ2 B2 H':=by
          rcases hx with rfl | ⟨p,o,hn,rfl⟩
          . exact ⟨S2,Gs.refl⟩
          . exact ⟨S2.grow (Gr.laid hn) (S2.wo.laid hn),uP S2.wo.rb hn⟩
        refine ⟨Z,env2,ρ2,B2,hpo,d,env3,hp3,S3.1,rx,e6,fun σ5 ρ5 B5 H5 g5 S5=>⟨Z,env3,ρ5,B5,hp3,f1,env4,hp4,S5,e7,fun σ6 ρ6 B6 H6 g6 S6=>?_⟩⟩
        have G6:=g2.trans (S3.2.trans (g5.trans g6))
        cases f1 with
        | nx=>exact ⟨env4,ρ6,B6,hp4,S6,G6,e5⟩
        | ct=>exact ⟨env4,ρ6,B6,hp4,S6,G6,e5⟩
        | bk=>obtain ⟨z,rfl⟩:=Qh e5;cases z;exact k1 σ6 ρ6 B6 H6 G6 S6
        | rt d=>obtain ⟨z,rfl⟩:=Qh e5;cases z;exact k1 σ6 ρ6 B6 H6 G6 S6
def Xv (nxt:NX) (g:DV->M Bool) (f:DV->M DV):Nat->Nat->M (List DV)
  | 0,_=>failure
  | m+1,i=>do
    match <- nxt i with
    | none=>pure []
    | some d=>do
      if <- g d then
        let y <- f d
        let ys <- Xv nxt g f m (i+1)
        pure (y::ys)
      else Xv nxt g f m (i+1)
def J3 (nw:Bool) (src:DXx) (idx:List Nat) (t:DTx) (f:DEx):DEx:=fun env=>do
 let nxt <- src env
 let out <- Xv nxt (fun d=>t (cE idx env d)) (fun d=>f (cE idx env d)) lim 0
 if nw then X0 (.lst out) else pure (.lst out)
variable {elt:Expr} {x:Str} {px:Pos} {ifs:List Expr} {scope:Scope} {cl:List (Str×Addr)} {caps:List Str} {idx:List Nat} {src:DXx} {te:DTx} {nw:Bool}
theorem yF {K:Aa} (h:tD K (J3 nw src idx te f) σ H Q):kA K (tDX K src) (tDT K te) (tD K f) idx σ H Q:=by
  obtain ⟨Z,env,ρ,B,U,d,hp',S,e,k⟩:=h
  obtain ⟨nxt,hp1,e1,e2⟩:=Qe e
  obtain ⟨out,hp3,e5,e6⟩:=Qe e2
  refine ⟨Z,env,ρ,B,U,nxt,hp1,S,e1,fun J ρ1 B1 H1 g1 W1 it D hD hK=>?_⟩
  have g1s:=g1.gs S.wo.rb
  refine ⟨fun i m ys H2=>H2 D=some (.lst ys)/\i+m=lim/\∃ ρ2 B2 hp2 don rst,Gr K ρ1 B1 H1 ρ2 B2 H2/\WOk K ρ2 B2 hp2 H2/\B2 D/\D∉ρ2/\RepL K ρ2 B2 H2 don ys/\don.length<=i /\
    Xv nxt (fun d=>te (cE idx env d)) (fun d=>f (cE idx env d)) m i hp2=some (rst,hp3)/\don++rst=out,?_,?_⟩
  . exact ⟨lim,Q3,C1 _,ρ1,xX B1 D,hp1,[],out,Gr.banned hD hK,W1.banned hD hK,.inr rfl,fun z=>W1.bt D (W1.rb D z) hD,RepL.nil,Ae _,e5,rfl⟩
  . rintro i m ys H2 ⟨hDs,him,ρ2,B2,hp2,don,rst,g2,W2,bD,nD,rd,dn,e7,e8⟩
    refine ⟨hDs,?_⟩
    cases m with
    | zero=>cases e7
    | succ m =>
      obtain ⟨o,hpo,eo,e7⟩:=Qe e7
      obtain ⟨rfl,ito⟩:=it ρ2 B2 hp2 H2 (g2.gs W1.rb) W2 i o hpo eo
      cases o with
      | some d0 =>
        obtain ⟨go,yl⟩:=ito
        obtain ⟨b,hp4,e9,e10⟩:=Qe e7
        refine .inr ⟨go,fun x H3 y=>?_⟩
        obtain ⟨rx,hx⟩:=yl x H3 y
        have S3:Gr K ρ2 B2 H2 ρ2 B2 H3/\WOk K ρ2 B2 hpo H3:=by
          rcases hx with rfl | ⟨p,o,hn,rfl⟩
          . exact ⟨Gr.refl,W2⟩
          . exact ⟨Gr.laid hn,W2.laid hn⟩
        have g3:=g2.trans S3.1
        have C3:=cσ_ok (idx:=idx) S (g1s.trans (g3.gs W1.rb)) S3.2 rx
        refine tDT.run C3 e9 fun ρ4 B4 H4 g4 S4=>?_
        have hD4:H4 D=some (.lst ys):=g4.keep D _ nD (S3.1.keep D _ nD hDs)
        have nD4:D∉ρ4:=fun z=>(g4.rnew D z).elim nD fun q=>by rw [S3.1.keep D _ nD hDs] at q;cases q
        cases b with
        | false =>
          exact GO ⟨m,C0 m,hD4,by lia,ρ4,B4,hp4,don,rst,g3.trans g4,S4.wo,g4.ban D bD,nD4,RepL.grow W2.rb (S3.1.trans g4) _ _ rd,by lia,e10,e8⟩
        | true =>
          obtain ⟨z,hp5,e11,e12⟩:=Qe e10
          obtain ⟨zs,hp6,e13,e14⟩:=Qe e12
          obtain ⟨rfl,rfl⟩:=Qh e14
          refine GP (tD.run S4 e11 fun v ρ5 B5 H5 g5 S5 r5=>?_)
          have hD5:H5 D=some (.lst ys):=g5.keep D _ nD4 hD4
          have nD5:D∉ρ5:=fun z=>(g5.rnew D z).elim nD4 fun q=>by rw [hD4] at q;cases q
          have bD5:B5 D:=g5.ban D (g4.ban D bD)
          have G5:=g3.trans (g4.trans g5)
          have rd5:=RepL.grow W2.rb (S3.1.trans (g4.trans g5)) _ _ rd
          have trk:∀ b,(upd H5 D (.lst (ys++[v]))) b=none->H5 b=none:=fun b q=>by
            by_cases e:b=D
            . subst e;rw [Q3] at q;cases q
            . rw [QI e] at q;exact q
          have g6:Gs K ρ5 B5 H5 ρ5 B5 (upd H5 D (.lst (ys++[v]))):=⟨Cm,fun _ h=>.inl h,fun b o nb h=>by rw [QI (show b≠D from fun z=>nb (by rw [z];exact bD5))];exact h,trk⟩
          refine ⟨hD5,?_,m,C0 m,Q3,by lia,ρ5,B5,hp5,don++[z],zs,?_,?_,bD5,nD5,RepL.gs g6 _ _ (RepL.append rd5 (RepL.one r5)),by simp;lia,e13,by rw [<- e8];simp⟩
          . have h1:=rd5.length
            have h2:lim < sizeLine:=by decide
            lia
          . exact ⟨G5.pre,G5.ban,G5.new,G5.rnew,fun b o nb h=>by rw [QI (show b≠D from fun q=>by rw [q,hD] at h;cases h)];exact G5.keep b o nb h,fun b q=>G5.trk b (trk b q)⟩
          . exact ⟨S5.wo.len,S5.wo.nd,fun j b o q1 q2=>ORep.gs g6 (QI (show b≠D from fun z=>nD5 (by rw [<- z];exact Aw q1))) (S5.wo.obj j b o q1 q2),S5.wo.rb,fun b z q=>S5.wo.bt b z (trk b q),S5.wo.bk⟩
      | none =>
        obtain ⟨z,z'⟩:=Qh e7
        subst z
        subst z'
        refine .inl ⟨ito,?_⟩
        rw [Bt] at e8
        subst e8
        cases nw with
        | false =>
          obtain ⟨rfl,rfl⟩:=Qh (show (pure (.lst don):M DV) hpo=some (d,hp') from e6)
          have gU:Gs K ρ2 B2 H2 ρ2 (fun b=>B2 b/\b≠D) H2:=⟨Cm,fun _ h=>.inl h.1,fun _ _ _ h=>h,fun _ h=>h⟩
          refine k (.ref D) ρ2 (fun b=>B2 b/\b≠D) H2 (g1.trans ⟨g2.pre,fun b z=>⟨g2.ban b z,fun q=>W1.bt b z (q▸hD)⟩,fun b z=>g2.new b z.1,g2.rnew,g2.keep,g2.trk⟩)
            ⟨W2.len,W2.nd,fun j b o q1 q2=>ORep.gs gU rfl (W2.obj j b o q1 q2),fun b z=>⟨W2.rb b z,fun q=>nD (q▸z)⟩,fun b z=>W2.bt b z.1,fun b z=>W2.bk b z.1⟩ (KL (fun z=>z.2 rfl) (SqL.of hDs) (RepL.gs gU _ _ rd))
        | true =>
          cases (show some (DV.ref hpo.length,hpo++[OV.lst don])=some (d,hp') from e6)
          have gU:Gs K ρ2 B2 H2 (ρ2++[D]) B2 H2:=⟨List.prefix_append _ _,fun _ h=>.inl h,fun _ _ _ h=>h,fun _ h=>h⟩
          refine k (.ref D) (ρ2++[D]) B2 H2 (g1.trans ⟨g2.pre.trans (List.prefix_append _ _),g2.ban,g2.new,fun a z=>(Ai.mp z).elim (g2.rnew a) fun q=>.inr (by rw [Ar.mp q];exact hD),g2.keep,g2.trk⟩)
            ⟨by simp [W2.len],List.nodup_append.mpr ⟨W2.nd,by simp,fun a ha b hb=>by rw [Ar.mp hb];exact fun z=>nD (z▸ha)⟩,fun j b o q1 q2=>?_,fun b z=>(Ai.mp z).elim (W2.rb b) fun q=>by rw [Ar.mp q];exact bD,W2.bt,W2.bk⟩ ?_
          . by_cases hi:j < ρ2.length
            . rw [Ah hi] at q1
              rw [Ah (by rw [<- W2.len];exact hi)] at q2
              exact ORep.gs gU rfl (W2.obj j b o q1 q2)
            . rw [Aq (by lia)] at q1
              rw [Aq (by rw [<- W2.len];lia)] at q2
              have hi0:j - ρ2.length=0:=by
                have:=(Ac.mp q1).1
                simp at this;lia
              rw [hi0] at q1
              rw [<- W2.len,hi0] at q2
              simp at q1 q2
              subst q1 q2
              exact ⟨ys,hDs,RepL.gs gU _ _ rd⟩
          . unfold RepV
            exact ⟨D,rfl,by rw [<- W2.len];simp⟩
theorem je (S:K5 X x scope cl caps idx) (hc:X.calm=true) (hi:DX X (.Name x px) iter src)
  (ht:∀ C s₀ H₀ ex,DTs (XE X scope cl C (x::caps) s₀ H₀ ex) ifs te) (he:∀ C s₀ H₀ ex,DE (XE X scope cl C (x::caps) s₀ H₀ ex) elt f)
  (hs:∀ x,foldedSetIterable iter X.env x=pure x:=by intro _;rfl):DE X (.ListComp elt [⟨.Name x px,iter,ifs,0⟩] scope pos) (J3 nw src idx te f) :=
 L2.PE.imp (QdH (tt:=tDT X.K te) (te:=tD X.K f) S hc hi ht he hs) fun _ _ _ h=>yF h
theorem Qbl (i:Nat) {y:Str} {py spos:Pos} (hN:X.N.Nodup) (S:K5 X x scope cl caps idx) (hc:X.calm=true) (hi:DX X (.Name x px) iter src)
  (ht:∀ C s₀ H₀ ex,DTs (XE X scope cl C (x::caps) s₀ H₀ ex) ifs te) (he:∀ C s₀ H₀ ex,DE (XE X scope cl C (x::caps) s₀ H₀ ex) elt f)
  (hy:X.N[i]?=some y:=by rfl) (hx:Loc X.env.scope y:=by first | exact Or.inl rfl | exact Or.inr rfl)
  (hsw:swapsWith (.ListComp elt [⟨.Name x px,iter,ifs,0⟩] scope pos) (some (.Name y py)) spos.line X.env=pure true:=by with_unfolding_all rfl)
  (hf:X.fn y=true∨X.env.scope.names.lookup y=some .local:=by first | exact .inl rfl | exact .inr rfl | assumption)
  (hs:∀ x,foldedSetIterable iter X.env x=pure x:=by intro _;rfl):DS X (.Assign [.Name y py] (.ListComp elt [⟨.Name x px,iter,ifs,0⟩] scope pos) spos) (QU i (J3 nw src idx te f)) :=
 L2.PS.imp (QdT (tt:=tDT X.K te) (te:=tD X.K f) S hc hi ht he hN hy hx hsw hf hs) fun _ _ _ h=>G9 (fun _ _ _ q=>yF q) h
end
def WP {α:Type} (m:M α) (U:Hs) (Q:α->Hs->Prop):Prop:=∃ x hp',m U=some (x,hp')/\Q x hp'
section
variable {α β:Type} {m:M α} {k:α->M β} {U:Hs} {Q:α->Hs->Prop} {R:β->Hs->Prop}
theorem WP_pure {x:α}:WP (pure x) U Q↔Q x U:=⟨fun ⟨y,h,e,q⟩=>by obtain ⟨rfl,rfl⟩:=Qh e;exact q,fun q=>⟨x,U,rfl,q⟩⟩
theorem yc:WP (m >>= k) U R↔WP m U fun x h=>WP (k x) h R:=⟨fun ⟨y,h,e,q⟩=>by obtain ⟨x,h1,e1,e2⟩:=Qe e;exact ⟨x,h1,e1,y,h,e2,q⟩,fun ⟨x,h1,e1,y,h,e2,q⟩=>⟨y,h,(Qg e1).trans e2,q⟩⟩
def WP.mono {Q':α->Hs->Prop} (h:WP m U Q) (hq:∀ x h,Q x h->Q' x h):WP m U Q':=let ⟨x,h1,e,q⟩:=h;⟨x,h1,e,hq x h1 q⟩
def WP.of {x:α} (e:m U=some (x,hp')) (q:Q x hp'):WP m U Q:=⟨x,hp',e,q⟩
end
section
variable {U:Hs} {env:En} {Q:Fl×En->Hs->Prop}
theorem Qhs {b:DV->DSx} (I:Nat->En->Hs->Prop) (ds:List DV) (h0:I 0 env U) (hs:∀ (i:Nat) d,ds[i]?=some d->∀ env U,I i env U->WP (b d env) U fun r h=>match r.1 with
    | .nx=>I (i+1) r.2 h
    | .ct=>I (i+1) r.2 h
    | .bk=>Q (.nx,r.2) h
    | .rt x=>Q (.rt x,r.2) h) (he:∀ env U,I ds.length env U->Q (.nx,env) U):WP (Qbu b ds env) U Q:=by
  suffices h:∀ (m i:Nat) env U,m+i=ds.length->I i env U->WP (Qbu b (ds.drop i) env) U Q by simpa using h ds.length 0 env U rfl h0
  intro m
  induction m with
  | zero =>
    intro i env U e hI
    have:i=ds.length:=by lia
    subst this
    rw [List.drop_length]
    exact WP_pure.mpr (he env U hI)
  | succ m ih =>
    intro i env U e hI
    have hlt:i < ds.length:=by lia
    rw [Bi hlt,Qbu,yc]
    refine (hs i ds[i] (Ab hlt) env U hI).mono fun r h q=>?_
    obtain ⟨fl,env1⟩:=r
    cases fl with
    | nx=>exact ih (i+1) env1 h (by lia) q
    | ct=>exact ih (i+1) env1 h (by lia) q
    | bk=>exact WP_pure.mpr q
    | rt x=>exact WP_pure.mpr q
theorem U8 {nxt:NX} {b:DV->DSx} (ds:List DV) (I:Nat->En->Hs->Prop) (hl:ds.length < 100000) (hn:∀ (i:Nat) env U,i<=ds.length->I i env U->nxt i U=some (ds[i]?,U)) (h0:I 0 env U) (hs:∀ (i:Nat) d,ds[i]?=some d->∀ env U,I i env U->WP (b d env) U fun r h=>match r.1 with
    | .nx=>I (i+1) r.2 h
    | .ct=>I (i+1) r.2 h
    | .bk=>Q (.nx,r.2) h
    | .rt x=>Q (.rt x,r.2) h) (he:∀ env U,I ds.length env U->Q (.nx,env) U):WP (YH nxt b 100000 0 env) U Q:=by
  suffices h:∀ (m i n:Nat) env U,m+i=ds.length->m < n->I i env U->WP (YH nxt b n i env) U Q from h ds.length 0 100000 env U rfl hl h0
  intro m
  induction m with
  | zero =>
    intro i n env U e hn' hI
    have:i=ds.length:=by lia
    subst this
    obtain ⟨n,rfl⟩:∃ k,n=k+1:=⟨n - 1,by lia⟩
    rw [YH,yc]
    refine WP.of (hn _ env U (Ae _) hI) ?_
    rw [show ds[ds.length]?=none by simp]
    exact WP_pure.mpr (he env U hI)
  | succ m ih =>
    intro i n env U e hn' hI
    have hlt:i < ds.length:=by lia
    obtain ⟨n,rfl⟩:∃ k,n=k+1:=⟨n - 1,by lia⟩
    rw [YH,yc]
    refine WP.of (hn i env U (by lia) hI) ?_
    simp only [Ab hlt]
    rw [yc]
    refine (hs i ds[i] (Ab hlt) env U hI).mono fun r h q=>?_
    obtain ⟨fl,env1⟩:=r
    cases fl with
    | nx=>exact ih (i+1) n env1 h (by lia) (by lia) q
    | ct=>exact ih (i+1) n env1 h (by lia) (by lia) q
    | bk=>exact WP_pure.mpr q
    | rt x=>exact WP_pure.mpr q
theorem qf (ds:List DV) (i:Nat) (h:i<=ds.length) (U:Hs):nxD ds i U=some (ds[i]?,U):=by unfold nxD;rw [C8 h];rfl
theorem Qfr {n:Nat} {ds:List DV} {U:Hs} (h:U[n]?=some (.lst ds)) (i:Nat):nxW n i U=some (ds[i]?,U):=by
 unfold nxW
 have:ZE n U=some (.lst ds,U):=by unfold ZE;rw [h]
 rw [Qg this];rfl
theorem QaZ {b:DV->DSx} (ds:List DV) (I:Nat->En->Hs->Prop) (hl:ds.length < 100000) (h0:I 0 env U) (hs:∀ (i:Nat) d,ds[i]?=some d->∀ env U,I i env U->WP (b d env) U fun r h=>match r.1 with
  | .nx=>I (i+1) r.2 h
  | .ct=>I (i+1) r.2 h
  | .bk=>Q (.nx,r.2) h
  | .rt x=>Q (.rt x,r.2) h) (he:∀ env U,I ds.length env U->Q (.nx,env) U):WP (YH (nxD ds) b 100000 0 env) U Q :=
 U8 ds I hl (fun i env U h _=>qf ds i h U) h0 hs he
end
theorem vL {nxt:NX} {t:DV->M Bool} {f:DV->M DV} {p:Int->Bool} {g:Int->Int} (ns:List Int) (hn:∀ i,i<=ns.length->nxt i U=some ((ns.map DV.int)[i]?,U)) (ht:∀ x,t (.int x) U=some (p x,U)) (hf:∀ x,f (.int x) U=some (.int (g x),U)) (hl:ns.length < 100000):
    Xv nxt t f 100000 0 U=some (((ns.filter p).map g).map .int,U):=by
  suffices h:∀ (m i n:Nat),m+i=ns.length->m < n->Xv nxt t f n i U=some ((((ns.drop i).filter p).map g).map .int,U) by simpa using h ns.length 0 100000 rfl hl
  intro m
  induction m with
  | zero =>
    intro i n e hn'
    obtain ⟨n,rfl⟩:∃ k,n=k+1:=⟨n - 1,by lia⟩
    have:i=ns.length:=by lia
    subst this
    have e1:=hn ns.length (Ae _)
    rw [show (ns.map DV.int)[ns.length]?=none by simp] at e1
    rw [Xv,Qg e1,List.drop_length]
    rfl
  | succ m ih =>
    intro i n e hn'
    obtain ⟨n,rfl⟩:∃ k,n=k+1:=⟨n - 1,by lia⟩
    have hlt:i < ns.length:=by lia
    have e1:=hn i (by lia)
    rw [Bu,Ab hlt] at e1
    have hi:=ih (i+1) n (by lia) (by lia)
    rw [Xv,Qg e1]
    simp only [Option.map_some]
    rw [Qg (ht ns[i]),Bi hlt]
    cases q:p ns[i] with
    | false=>rw [List.filter_cons_of_neg (by simp [q])];simpa using hi
    | true =>
      rw [List.filter_cons_of_pos q]
      simp only [if_true]
      rw [Qg (hf ns[i]),Qg hi]
      rfl
def gu (n:Nat) (U:Hs) (i:Int):drf (n+1) U (.int i)=some (.int i):=rfl
def gv (n:Nat) (U:Hs) (b:Str):drf (n+1) U (.str b)=some (.str b):=rfl
theorem xk {α:Type} {f:α->Option α}:∀ {xs:List α},(∀ x∈xs,f x=some x)->xs.mapM f=some xs
  | [],_=>rfl
  | x::xs,h=>by
    rw [List.mapM_cons,h x (by simp),xk fun y hy=>h y (Ax _ hy)];rfl
theorem gt (h:drf 40 U d=some d'):Qab d U=some (d',U):=by unfold Qab;rw [h];rfl
theorem gy (hx:drf 40 U x=some x') (hy:drf 40 U y=some y') (s1:okP x'=true) (s2:okP y'=true):VV x y U=some (PyData.eqv (toP x') (toP y'),U):=by
 unfold VV
 simp only [okP,Bc] at s1 s2
 rw [Qg (gt hx),Qg (gt hy)]
 simp only [s1.2,s2.2,Bool.and_self,Qx,if_true,Ef]
 rfl
def GF (i j:Int) (U:Hs):VV (.int i) (.int j) U=some (i==j,U):=gy (gu 39 U i) (gu 39 U j) (yh i) (yh j)
theorem U0 (p:Key×DV) (r:List (Key×DV)) (j:Key):XB (p::r) j=if p.1=j then some p.2 else XB r j:=by
 by_cases e:p.1=j
 ·simp [XB,B8,e]
 ·simp [XB,B8,e]
theorem Qcd (kvs:List (Key×DV)) (k:Key) (d:DV):(zm kvs k d).length<=kvs.length+1:=by
 unfold zm;split<;>simp
theorem Zw {n:Nat} {U:Hs} (h:U[n]?=some o):ZE n U=some (o,U):=by unfold ZE;rw [h]
theorem G3 {n:Nat} {kvs:List (Key×DV)} {U:Hs} (h:U[n]?=some (.dic kvs)) (hk:Y7 i=some k) (hl:kvs.length < 100000):jE (.ref n) i d U=some ((),U.set n (.dic (zm kvs k d))):=by
 show (ZE n >>= _) U=_
 rw [Qg (Zw h)]
 have e1:Xg i U=some (k,U):=by unfold Xg;rw [hk];rfl
 have e2:Qx (decide (kvs.length < lim)) U=some ((),U):=by rw [show decide (kvs.length < lim)=true from Ec hl];rfl
 show (Xg i >>= fun k=>Qx (decide (kvs.length < lim)) >>= fun _=>xw n (.dic (zm kvs k d))) U=_
 rw [Qg e1,Qg e2];rfl
theorem kn {f:DEx} {g:DGx} (h:f env U=some (d,hp1)) (h':g d env hp1=some (env',hp2)):Ya f g env U=some ((.nx,env'),hp2):=by
 unfold Ya
 rw [Qg h,Qg h'];rfl
theorem Zp {α:Type} {m:M α} {x:α} (h:m=pure x) (U:Hs):m U=some (x,U):=by rw [h];rfl
theorem Qck {c:DTx} {b:Bool} (h:c env U=some (b,hp1)):sIf c f g env U=if b=true then f env hp1 else g env hp1:=by
 unfold sIf
 rw [Qg h]
 cases b<;>rfl
theorem QW {f:DEx} {b:Bool} (h:f env U=some (.bl b,hp1)):eB f env U=some (b,hp1):=by
 unfold eB
 rw [Qg h];rfl
theorem Ql {g:DV->DV->M DV} {f f':DEx} (h:f env U=some (x,hp1)) (h':f' env hp1=some (y,hp2)) (hg:g x y hp2=some (d,hp3)):Qk g f f' env U=some (d,hp3):=by
 unfold Qk
 rw [Qg h,Qg h',hg]
theorem QC {f:DEx} (h:f env U=some (d,hp1)):QJ f env U=some ((.rt d,env),hp1):=by
 unfold QJ
 rw [Qg h];rfl
theorem Q7 {f g:DSx} (h:f env U=some ((.rt d,env1),hp1)):Qs f g env U=some ((.rt d,env1),hp1):=by
 unfold Qs
 rw [Qg h];rfl
theorem X6 {f:DEx} (h:f env U=some (d,hp1)):Ji f env U=some ((.nx,env),hp1):=by
 unfold Ji
 rw [Qg h];rfl
theorem Qy {n:Nat} {body:DSx} {ds:List DV} (h:body (ds.map .val++List.replicate (n - ds.length) .un) U=some ((.rt d,env),hp1)):Q2 n body ds U=some (d,hp1):=by
 unfold Q2
 rw [Qg h];rfl
theorem JP {c:DTx} {b:Bool} (h:c env U=some (b,hp1)):Xf c env U=some (!b,hp1):=by
 unfold Xf
 rw [Qg h];rfl
theorem Gz {f g:DEx} {b:Bool} (h:f env U=some (.bl b,hp1)):JX f g env U=if b=true then g env hp1 else some (.bl false,hp1):=by
 unfold JX
 rw [Qg h]
 cases b<;>rfl
end D
namespace TS
open PySem PyProof.Rows
def gal:Bool->Keyed->Array Keyed->Nat->Nat->Nat->StateT SortSt Sem (Option Nat):=sortPriv% PySem.Builtin.gallop
def mLo:Array Keyed->Array Keyed->StateT SortSt Sem (Array Keyed):=sortPriv% PySem.Builtin.mergeLo
def mHi:Array Keyed->Array Keyed->StateT SortSt Sem (Array Keyed):=sortPriv% PySem.Builtin.mergeHi
def zV:Nat->StateT SortSt Sem Unit:=sortPriv% PySem.Builtin.setMinGallop
def mAt:Nat->StateT SortSt Sem Bool:=mergeAt'
structure Cmp where
 key:Keyed->Int
 kd:SortKind
 S:Keyed->Prop
 prog:Program
 w:World
 A:Around
 E:Value->Shared->Prop
 s:Shared
 lt:∀ (st:SortSt) (p q:Keyed) (Q:Option Bool->SortSt->Prop),S p->S q->kindOf st=kd->Q (some (decide (key p < key q))) st->wpS (model prog w) A E s (lt' p q) Q st
variable {C:Cmp}
abbrev W (C:Cmp) {σ α:Type} (m:StateT σ Sem α) (Q:α->σ->Prop) (st:σ):Prop:=wpS (model C.prog C.w) C.A C.E C.s m Q st
def kx (C:Cmp) (xs:Array Keyed) (i:Nat):Int:=((xs[i]?).map C.key).getD 0
structure Ok (C:Cmp) (st:SortSt):Prop where
 kind:kindOf st=C.kd
 fine:failedOf st=none
 mem:∀ p∈(arrOf st).toList,C.S p
theorem Zr {xs:Array Keyed} {i:Nat} {Q:Keyed->SortSt->Prop} {st:SortSt} (hi:i < xs.size) (h:Q xs[i] st):W C (elem' xs i) Q st:=by
 rw [elem'_eq,getElem?_pos xs i hi];exact Eb h
theorem Jo (xs:Array Keyed) {i:Nat} (hi:i < xs.size):kx C xs i=C.key xs[i]:=by unfold kx;rw [getElem?_pos xs i hi];rfl
theorem xj {st:SortSt} {i j:Nat} {Q:Option Bool->SortSt->Prop} (g:Ok C st) (hi:i < (arrOf st).size) (hj:j < (arrOf st).size) (h:Q (some (decide (kx C (arrOf st) i < kx C (arrOf st) j))) st):W C (ltAt' i j) Q st:=by
 rw [ltAt'_eq]
 refine Ea (wpS_get (Ea (Zr hi (Ea (Zr hj ?_)))))
 refine C.lt st _ _ Q (g.mem _ (by simp)) (g.mem _ (by simp)) g.kind ?_
 rw [<- Jo _ hi,<- Jo _ hj];exact h
theorem Qe6 (left:Bool) (key:Keyed) (arr:Array Keyed) (O8 n hint:Nat):gal left key arr O8 n hint=(do
  let bey (i:Nat):StateT SortSt Sem (Option Bool):=do
   let x <- elem' arr (O8+i)
   if left then lt' x key else return (<- lt' key x).map (!·)
  let mut last:=0
  let mut ofs:=1
  let mut lo:=0
  let mut hi:=0
  let some right <- bey hint | return none
  if right then
   let most:=n - hint
   for _ in [0:n] do
    if ofs≥most then break
    let some more <- bey (hint+ofs) | return none
    if !more then break
    last:=ofs
    ofs:=2 * ofs+1
   lo:=hint+last+1
   hi:=hint+min ofs most
  else
   let most:=hint+1
   for _ in [0:n] do
    if ofs≥most then break
    let some found <- bey (hint - ofs) | return none
    if found then break
    last:=ofs
    ofs:=2 * ofs+1
   lo:=hint+1 - min ofs most
   hi:=hint - last
  for _ in [0:n] do
   if lo≥hi then break
   let m:=lo+(hi - lo) / 2
   let some more <- bey m | return none
   if more then lo:=m+1 else hi:=m
  return some hi):=rfl
def QeS (left:Bool) (key:Keyed) (arr:Array Keyed) (O8 i:Nat):StateT SortSt Sem (Option Bool):=do
 let x <- elem' arr (O8+i)
 if left then lt' x key else return (<- lt' key x).map (!·)
def Qgt (left:Bool) (key:Keyed) (arr:Array Keyed) (O8 n l h:Nat):StateT SortSt Sem (Option Nat):=do
 let mut lo:=l
 let mut hi:=h
 for _ in [0:n] do
  if lo≥hi then break
  let m:=lo+(hi - lo) / 2
  let some more <- QeS left key arr O8 m | return none
  if more then lo:=m+1 else hi:=m
 return some hi
theorem YI {left:Bool} {key:Keyed} {arr:Array Keyed} {O8 n hint:Nat} {Q:Option Nat->SortSt->Prop} {st:SortSt} (T:Nat->Bool) (hk:kindOf st=C.kd) (hkey:C.S key) (hS:∀ p∈arr.toList,C.S p) (hb:O8+n<=arr.size) (hh:hint < n)
    (hT:∀ i,i < n->T i=if left then decide (kx C arr (O8+i) < C.key key) else !decide (C.key key < kx C arr (O8+i))) (mono:∀ i j,i<=j->j < n->T j=true->T i=true)
    (h:∀ hi,hi<=n->(∀ i,i < hi->T i=true)->(∀ i,hi<=i->i < n->T i=false)->Q (some hi) st):W C (gal left key arr O8 n hint) Q st:=by
  have bey:∀ (i:Nat) (R:Option Bool->SortSt->Prop),i < n->R (some (T i)) st->W C (QeS left key arr O8 i) R st:=by
    intro i R hi hR
    have hlt:O8+i < arr.size:=by lia
    unfold QeS
    refine Ea (Zr hlt ?_)
    have hm:C.S arr[O8+i]:=hS _ (by simp)
    rw [hT i hi,Jo _ hlt] at hR
    cases left with
    | true =>
      simp only [if_true] at hR ⊢
      exact C.lt st _ _ R hm hkey hk hR
    | false =>
      simp only [Az,if_false] at hR ⊢
      exact Ea (C.lt st _ _ _ hkey hm hk (Eb hR))
  have bin:∀ lo hi,lo<=hi->hi<=n->(∀ i,i < lo->T i=true)->(∀ i,hi<=i->i < n->T i=false)->W C (Qgt left key arr O8 n lo hi) Q st:=by
    intro lo hi hlh hin hl hr
    unfold Qgt
    dsimp only
    refine Ea (wpS_mono (wpS_forRange (I:=fun x c st'=>st'=st/\∃ lo hi,c=(none,lo,hi)/\lo<=hi/\hi<=n/\hi - lo<=n - x/\(∀ i,i < lo->T i=true)/\(∀ i,hi<=i->i < n->T i=false))
      (Q:=fun c st'=>st'=st/\∃ hi lo,c=(none,lo,hi)/\hi<=n/\(∀ i,i < hi->T i=true)/\(∀ i,hi<=i->i < n->T i=false)) ?step ?fin ⟨rfl,lo,hi,rfl,hlh,hin,by lia,hl,hr⟩) ?post)
    case post =>
      rintro c st' ⟨rfl,hi,lo,rfl,h1,h2,h3⟩
      exact Eb (h hi h1 h2 h3)
    case fin =>
      rintro c st' ⟨rfl,lo,hi,rfl,h1,h2,h3,h4,h5⟩
      have:lo=hi:=by lia
      subst this
      exact ⟨rfl,lo,lo,rfl,h2,h4,h5⟩
    case step =>
      rintro x c st' _ hx ⟨rfl,lo,hi,rfl,h1,h2,h3,h4,h5⟩
      dsimp only
      by_cases q:lo≥hi
      . rw [C8 q]
        have:lo=hi:=by lia
        subst this
        exact Eb ⟨rfl,lo,lo,rfl,h2,h4,h5⟩
      . rw [C7 q]
        refine Ea (bey _ _ (by lia) ?_)
        dsimp only
        cases hm:T (lo+(hi - lo) / 2) with
        | true =>
          simp only [if_true]
          refine Eb ⟨rfl,_,hi,rfl,by lia,h2,by lia,fun i hi'=>?_,h5⟩
          exact mono i (lo+(hi - lo) / 2) (by lia) (by lia) hm
        | false =>
          simp only [Az,if_false]
          refine Eb ⟨rfl,lo,_,rfl,by lia,by lia,by lia,h4,fun i h6 h7=>?_⟩
          cases ht:T i with
          | false=>rfl
          | true=>rw [mono _ i h6 h7 ht] at hm;cases hm
  rw [Qe6]
  dsimp only
  refine Ea (bey hint _ hh ?_)
  dsimp only
  cases hr:T hint with
  | true =>
    simp only [if_true]
    refine Ea (wpS_mono (wpS_forRange (I:=fun x c st'=>st'=st/\∃ last ofs,c=(none,last,ofs)/\last < ofs/\x+1<=ofs/\hint+last < n/\T (hint+last)=true)
      (Q:=fun c st'=>st'=st/\∃ last ofs,c=(none,last,ofs)/\last < ofs/\hint+last < n/\T (hint+last)=true/\(n - hint<=ofs∨T (hint+ofs)=false)) ?step ?fin ⟨rfl,0,1,rfl,by lia,by lia,by lia,hr⟩) ?post)
    case fin =>
      rintro c st' ⟨rfl,last,ofs,rfl,h1,h2,h3,h4⟩
      exact ⟨rfl,last,ofs,rfl,h1,h3,h4,.inl (by lia)⟩
    case step =>
      rintro x c st' _ hx ⟨rfl,last,ofs,rfl,h1,h2,h3,h4⟩
      dsimp only
      by_cases q:ofs≥n - hint
      . rw [C8 q]
        exact Eb ⟨rfl,last,ofs,rfl,h1,h3,h4,.inl q⟩
      . rw [C7 q]
        refine Ea (bey _ _ (by lia) ?_)
        dsimp only
        cases hm:T (hint+ofs) with
        | true =>
          simp only [Bool.not_true,Az,if_false]
          exact Eb ⟨rfl,ofs,2 * ofs+1,rfl,by lia,by lia,by lia,hm⟩
        | false =>
          simp only [Bool.not_false,if_true]
          exact Eb ⟨rfl,last,ofs,rfl,h1,h3,h4,.inr hm⟩
    case post =>
      rintro c st' ⟨rfl,last,ofs,rfl,h1,h2,h3,h4⟩
      dsimp only
      refine bin (hint+last+1) (hint+min ofs (n - hint)) (by lia) (by lia) (fun i hi=>mono i (hint+last) (by lia) h2 h3) fun i h5 h6=>?_
      rcases h4 with q | q
      . lia
      . cases ht:T i with
        | false=>rfl
        | true=>rw [mono _ i (by lia) h6 ht] at q;cases q
  | false =>
    simp only [Az,if_false]
    refine Ea (wpS_mono (wpS_forRange (I:=fun x c st'=>st'=st/\∃ last ofs,c=(none,last,ofs)/\last < ofs/\x+1<=ofs/\last<=hint/\T (hint - last)=false)
      (Q:=fun c st'=>st'=st/\∃ last ofs,c=(none,last,ofs)/\last < ofs/\last<=hint/\T (hint - last)=false/\(hint+1<=ofs∨(ofs<=hint/\T (hint - ofs)=true))) ?step ?fin ⟨rfl,0,1,rfl,by lia,by lia,by lia,hr⟩) ?post)
    case fin =>
      rintro c st' ⟨rfl,last,ofs,rfl,h1,h2,h3,h4⟩
      exact ⟨rfl,last,ofs,rfl,h1,h3,h4,.inl (by lia)⟩
    case step =>
      rintro x c st' _ hx ⟨rfl,last,ofs,rfl,h1,h2,h3,h4⟩
      dsimp only
      by_cases q:ofs≥hint+1
      . rw [C8 q]
        exact Eb ⟨rfl,last,ofs,rfl,h1,h3,h4,.inl q⟩
      . rw [C7 q]
        refine Ea (bey _ _ (by lia) ?_)
        dsimp only
        cases hm:T (hint - ofs) with
        | true =>
          simp only [if_true]
          exact Eb ⟨rfl,last,ofs,rfl,h1,h3,h4,.inr ⟨by lia,hm⟩⟩
        | false =>
          simp only [Az,if_false]
          exact Eb ⟨rfl,ofs,2 * ofs+1,rfl,by lia,by lia,by lia,hm⟩
    case post =>
      rintro c st' ⟨rfl,last,ofs,rfl,h1,h2,h3,h4⟩
      dsimp only
      refine bin (hint+1 - min ofs (hint+1)) (hint - last) (by lia) (by lia) (fun i hi=>?_) fun i h5 h6=>?_
      . rcases h4 with q | ⟨q1,q2⟩
        . lia
        . exact mono i (hint - ofs) (by lia) (by lia) q2
      . cases ht:T i with
        | false=>rfl
        | true=>rw [mono _ i h5 h6 ht] at h3;cases h3
variable {C:Cmp}
def Srt (C:Cmp) (l:List Keyed):Prop:=l.Pairwise fun p q=>C.key p<=C.key q
def Sm (st st':SortSt):Prop:=kindOf st'=kindOf st/\arrOf st'=arrOf st/\pendingOf st'=pendingOf st/\failedOf st'=failedOf st
def Sm.refl (st:SortSt):Sm st st:=⟨rfl,rfl,rfl,rfl⟩
theorem jT {g:Nat} {st₀ st:SortSt} {Q:Unit->SortSt->Prop} (hs:Sm st₀ st) (h:∀ st',Sm st₀ st'->Q () st'):W C (zV g) Q st:=by
 show W C (modify (fun s=>SortSt.mk' (kindOf s) (arrOf s) (pendingOf s) g (failedOf s)):StateT SortSt Sem Unit) Q st
 exact wpS_modify (h _ hs)
def xq {x:String} {st:SortSt} {Q:Unit->SortSt->Prop} (h:Q () st):W C (liftM (rule x):StateT SortSt Sem Unit) Q st:=wpS_lift (wpAny_rule ⟨rfl,h⟩)
structure MI (C:Cmp) (A B out:List Keyed) (i j:Nat):Prop where
 perm:(out++(A.drop i++B.drop j)).Perm (A++B)
 srt:Srt C out
 low:∀ x∈out,∀ y∈A.drop i++B.drop j,C.key x<=C.key y
section
variable {A B out:List Keyed} {i j:Nat}
def Srt.drop (h:Srt C A) (n:Nat):Srt C (A.drop n):=List.Pairwise.sublist (List.drop_sublist _ _) h
def Srt.take (h:Srt C A) (n:Nat):Srt C (A.take n):=List.Pairwise.sublist (List.take_sublist _ _) h
def Srt.app (h:Srt C A) (h':Srt C B) (hb:∀ x∈A,∀ y∈B,C.key x<=C.key y):Srt C (A++B):=Bv.mpr ⟨h,h',hb⟩
theorem MI.takeA (m:MI C A B out i j) (hA:Srt C A) (k:Nat) (h:∀ x∈(A.drop i).take k,∀ y∈B.drop j,C.key x<=C.key y):MI C A B (out++(A.drop i).take k) (i+k) j:=by
 have e:A.drop i=(A.drop i).take k++A.drop (i+k):=by rw [<- Ct,B0]
 have hd:=hA.drop i
 rw [e] at hd
 obtain ⟨_,_,h3⟩:=Bv.mp hd
 refine ⟨?_,m.srt.app ((hA.drop i).take k) fun x hx y hy=>m.low x hx y (A7 _ (Bx hy)),fun x hx y hy=>?_⟩
 ·have:=m.perm
  rw [e] at this
  simpa [A8] using this
 ·rcases Ai.mp hx with q | q
  ·refine m.low x q y ?_
   rcases Ai.mp hy with z | z
   ·exact A7 _ (by rw [e];exact Aj _ z)
   ·exact Aj _ z
  ·rcases Ai.mp hy with z | z
   ·exact h3 x q y z
   ·exact h x q y z
theorem MI.takeB (m:MI C A B out i j) (hB:Srt C B) (k:Nat) (h:∀ x∈(B.drop j).take k,∀ y∈A.drop i,C.key x<=C.key y):MI C A B (out++(B.drop j).take k) i (j+k):=by
 have e:B.drop j=(B.drop j).take k++B.drop (j+k):=by rw [<- Ct,B0]
 have hd:=hB.drop j
 rw [e] at hd
 obtain ⟨_,_,h3⟩:=Bv.mp hd
 refine ⟨?_,m.srt.app ((hB.drop j).take k) fun x hx y hy=>m.low x hx y (Aj _ (Bx hy)),fun x hx y hy=>?_⟩
 ·refine List.Perm.trans ?_ m.perm
  rw [A8]
  refine List.Perm.append_left _ ?_
  generalize (B.drop j).take k=ch at e ⊢
  rw [e,<- A8,<- A8]
  exact List.Perm.append_right _ List.perm_append_comm
 ·rcases Ai.mp hx with q | q
  ·refine m.low x q y ?_
   rcases Ai.mp hy with z | z
   ·exact A7 _ z
   ·exact Aj _ (by rw [e];exact Aj _ z)
  ·rcases Ai.mp hy with z | z
   ·exact h x q y z
   ·exact h3 x q y z
def Fin (C:Cmp) (A B r:List Keyed):Prop:=Srt C r/\r.Perm (A++B)
theorem MI.endB (m:MI C A B out i j) (hA:Srt C A) (h:B.length<=j):Fin C A B (out++A.drop i++B.drop j):=by
 have e:B.drop j=[]:=Cn h
 refine ⟨?_,by have:=m.perm;simpa [A8] using this⟩
 rw [e,Bt]
 exact m.srt.app (hA.drop i) fun x hx y hy=>m.low x hx y (A7 _ hy)
theorem MI.endA (m:MI C A B out i j) (hB:Srt C B) (h:A.length<=i):Fin C A B (out++A.drop i++B.drop j):=by
 have e:A.drop i=[]:=Cn h
 refine ⟨?_,by have:=m.perm;simpa [A8] using this⟩
 rw [e,Bt]
 exact m.srt.app (hB.drop j) fun x hx y hy=>m.low x hx y (Aj _ hy)
theorem MI.lastA (m:MI C A B out i j) (hA:Srt C A) (hB:Srt C B) (hl:∀ x∈A.drop (A.length - 1),∀ y∈B,C.key y<=C.key x) (h:i+1=A.length):Fin C A B (out++B.drop j++A.drop i):=by
 have e:A.length - 1=i:=by lia
 rw [e] at hl
 refine ⟨?_,?_⟩
 ·refine (m.srt.app (hB.drop j) fun x hx y hy=>m.low x hx y (Aj _ hy)).app (hA.drop i) fun x hx y hy=>?_
  rcases Ai.mp hx with q | q
  ·exact m.low x q y (A7 _ hy)
  ·exact hl y hy x (Cd q)
 ·refine List.Perm.trans ?_ m.perm
  rw [A8]
  exact List.Perm.append_left _ List.perm_append_comm
end
theorem Qfl (a b:Array Keyed):mLo a b=(do
  rule "list.sort.merge-lo"
  let all:=a.size+b.size
  let fin (res:Array Keyed) (i j:Nat):=res++a.extract i a.size++b.extract j b.size
  let lst (res:Array Keyed) (i j:Nat):=res++b.extract j b.size++a.extract i a.size
  let mut res:Array Keyed:=#[<- elem' b 0]
  let mut i:=0
  let mut j:=1
  if j==b.size then return fin res i j
  if i+1==a.size then return lst res i j
  let mut mg:=gallopOf (<- get)
  for _ in [0:all] do
   let mut ac:=0
   let mut bc:=0
   for _ in [0:all] do
    let some bw <- lt' (<- elem' b j) (<- elem' a i) | return fin res i j
    if bw then
     res:=res.push (<- elem' b j);j:=j+1;bc:=bc+1;ac:=0
     if j==b.size then return fin res i j
     if bc≥mg then break
    else
     res:=res.push (<- elem' a i);i:=i+1;ac:=ac+1;bc:=0
     if i+1==a.size then return lst res i j
     if ac≥mg then break
   rule "list.sort.gallop"
   mg:=mg+1
   for _ in [0:all] do
    if mg > 1 then mg:=mg - 1
    zV mg
    let some k <- gal false (<- elem' b j) a i (a.size - i) 0 | return fin res i j
    ac:=k
    if k > 0 then
     res:=res++a.extract i (i+k);i:=i+k
     if i+1==a.size then return lst res i j
     if i==a.size then return fin res i j
    res:=res.push (<- elem' b j);j:=j+1
    if j==b.size then return fin res i j
    let some k <- gal true (<- elem' a i) b j (b.size - j) 0 | return fin res i j
    bc:=k
    if k > 0 then
     res:=res++b.extract j (j+k);j:=j+k
     if j==b.size then return fin res i j
    res:=res.push (<- elem' a i);i:=i+1
    if i+1==a.size then return lst res i j
    if ac < 7&&bc < 7 then break
   mg:=mg+1
   zV mg
  unsupported "internal:list.sort.merge-bound"):=rfl
abbrev GS:=Option (Array Keyed)×Array Keyed×Nat×Nat×Nat×Nat×Nat
def lo4 (a b:Array Keyed) (mg ac bc:Nat) (res:Array Keyed) (i j:Nat):StateT SortSt Sem (ForInStep GS):=do
 let x <- elem' a i
 if (i+1+1==a.size)=true then pure (.done (some (res.push x++b.extract j b.size++a.extract (i+1) a.size),res.push x,i+1,j,mg,ac,bc))
 else if (decide (ac < 7)&&decide (bc < 7))=true then pure (.done (none,res.push x,i+1,j,mg,ac,bc)) else pure (.yield (none,res.push x,i+1,j,mg,ac,bc))
def lo3 (a b:Array Keyed) (mg ac bc:Nat) (res:Array Keyed) (i j:Nat):StateT SortSt Sem (ForInStep GS):=do
 let y <- elem' a i
 let z <- gal true y b j (b.size - j) 0
 match z with
 | some k=>(if k > 0 then (if (j+k==b.size)=true then pure (.done (some (res++b.extract j (j+k)++a.extract i a.size++b.extract (j+k) b.size),res++b.extract j (j+k),i,j+k,mg,ac,k)) else lo4 a b mg ac k (res++b.extract j (j+k)) i (j+k)) else lo4 a b mg ac k res i j:StateT SortSt Sem (ForInStep GS))
 | _=>pure (.done (some (res++a.extract i a.size++b.extract j b.size),res,i,j,mg,ac,bc))
def lo2 (a b:Array Keyed) (mg ac bc:Nat) (res:Array Keyed) (i j:Nat):StateT SortSt Sem (ForInStep GS):=do
 let y <- elem' b j
 if (j+1==b.size)=true then pure (.done (some (res.push y++a.extract i a.size++b.extract (j+1) b.size),res.push y,i,j+1,mg,ac,bc))
 else lo3 a b mg ac bc (res.push y) i (j+1)
def lo1 (a b:Array Keyed) (mg ac bc:Nat) (res:Array Keyed) (i j:Nat):StateT SortSt Sem (ForInStep GS):=do
 zV mg
 let y <- elem' b j
 let z <- gal false y a i (a.size - i) 0
 match z with
 | some k=>(if k > 0 then (if (i+k+1==a.size)=true then pure (.done (some (res++a.extract i (i+k)++b.extract j b.size++a.extract (i+k) a.size),res++a.extract i (i+k),i+k,j,mg,k,bc))
   else if (i+k==a.size)=true then pure (.done (some (res++a.extract i (i+k)++a.extract (i+k) a.size++b.extract j b.size),res++a.extract i (i+k),i+k,j,mg,k,bc))
   else lo2 a b mg k bc (res++a.extract i (i+k)) (i+k) j) else lo2 a b mg k bc res i j:StateT SortSt Sem (ForInStep GS))
 | _=>pure (.done (some (res++a.extract i a.size++b.extract j b.size),res,i,j,mg,ac,bc))
section
variable {a b res:Array Keyed} {i j k:Nat}
theorem Xk (a:Array Keyed) (i:Nat):(a.extract i a.size).toList=a.toList.drop i:=by
 simp [Array.toList_extract,List.extract_eq_take_drop]
 exact Ci (by simp)
theorem Up (a:Array Keyed) (i k:Nat):(a.extract i (i+k)).toList=(a.toList.drop i).take k:=by
 simp [Array.toList_extract,List.extract_eq_take_drop]
theorem XH (a:Array Keyed) {i:Nat} (h:i < a.size):(a.toList.drop i).take 1=[a[i]]:=by
 rw [Bi (by simpa using h)];simp
theorem qP {x:Keyed} (h:x∈(a.toList.drop i).take k):∃ t,t < k/\∃ q:i+t < a.size,x=a[i+t]:=by
 obtain ⟨t,ht,e⟩:=List.getElem_of_mem h
 have h1:t < k:=by simp at ht;lia
 have h2:i+t < a.size:=by simp at ht;lia
 exact ⟨t,h1,h2,by rw [<- e];simp [Cw,List.getElem_drop]⟩
theorem xl {x:Keyed} (h:x∈a.toList.drop i):∃ t,i<=t/\∃ q:t < a.size,x=a[t]:=by
 obtain ⟨t,ht,e⟩:=List.getElem_of_mem h
 have h2:i+t < a.size:=by simp at ht;lia
 exact ⟨i+t,by lia,h2,by rw [<- e];simp [List.getElem_drop]⟩
theorem qk (h:Srt C a.toList) {s t:Nat} (hst:s<=t) (ht:t < a.size):C.key (a[s]'(by lia))<=C.key a[t]:=by
 rcases Bh s t with q | q
 ·have:=List.pairwise_iff_getElem.mp h s t (by simp;lia) (by simpa using ht) q
  simpa using this
 ·have:s=t:=by lia
  subst this;exact Bo _
theorem Vy (h:Srt C a.toList) {s t:Nat} (hst:s<=t) (ht:t < a.size):kx C a s<=kx C a t:=by
 rw [Jo a (by lia),Jo a ht];exact qk h hst ht
end
structure Two (C:Cmp) (a b:Array Keyed):Prop where
 sa:Srt C a.toList
 sb:Srt C b.toList
 ma:∀ p∈a.toList,C.S p
 mb:∀ p∈b.toList,C.S p
 na:1<=a.size
 nb:1<=b.size
 first:∀ y∈a.toList,∀ x∈b.toList.take 1,C.key x<=C.key y
 last:∀ x∈a.toList.drop (a.size - 1),∀ y∈b.toList,C.key y<=C.key x
section
variable {a b:Array Keyed} {st₀:SortSt} {n0:Nat}
def K6 (C:Cmp) (a b:Array Keyed) (st₀:SortSt) (r:Option (Array Keyed)) (st':SortSt):Prop:=Sm st₀ st'/\∃ x,r=some x/\Fin C a.toList b.toList x.toList
def GoG (C:Cmp) (a b:Array Keyed) (st₀:SortSt) (n0:Nat) (r:Option (Array Keyed)) (res:Array Keyed) (i j:Nat) (st':SortSt):Prop:=Sm st₀ st'/\r=none/\MI C a.toList b.toList res.toList i j/\i+1 < a.size/\j < b.size/\n0 < i+j
def uW (C:Cmp) (a b:Array Keyed) (st₀:SortSt) (n0:Nat) (r:ForInStep GS) (st':SortSt):Prop:=match r with
 | .done c=>K6 C a b st₀ c.1 st'∨GoG C a b st₀ n0 c.1 c.2.1 c.2.2.1 c.2.2.2.1 st'
 | .yield c=>GoG C a b st₀ n0 c.1 c.2.1 c.2.2.1 c.2.2.2.1 st'
variable {mg ac bc i j:Nat} {res:Array Keyed} {st:SortSt}
theorem QeD (T:Two C a b) (hs:Sm st₀ st) (m:MI C a.toList b.toList res.toList i j) (hi:i+1 < a.size) (hj:j < b.size) (hn:n0<=i+j) (hc:∀ y∈b.toList.drop j,C.key (a[i]'(by lia))<=C.key y):W C (lo4 a b mg ac bc res i j) (uW C a b st₀ n0) st:=by
 have hi':i < a.size:=by lia
 refine Ea (Zr hi' ?_)
 have m':=m.takeA T.sa 1 (fun x hx y hy=>by rw [XH a hi'] at hx;rw [Ar.mp hx];exact hc y hy)
 rw [XH a hi',<- Array.toList_push] at m'
 by_cases q:i+1+1=a.size
 ·rw [C8 (by simpa using q)]
  refine Eb (.inl ⟨hs,_,rfl,?_⟩)
  rw [Ag,Ag,Xk,Xk]
  exact m'.lastA T.sa T.sb (by simpa using T.last) (by simpa using q)
 ·rw [C7 (by simpa using q)]
  have g:GoG C a b st₀ n0 none (res.push a[i]) (i+1) j st:=⟨hs,rfl,m',by lia,hj,by lia⟩
  split
  ·exact Eb (.inr g)
  ·exact Eb g
theorem QgP (T:Two C a b) (hk:kindOf st=C.kd) (hs:Sm st₀ st) (m:MI C a.toList b.toList res.toList i j) (hi:i+1 < a.size) (hj:j < b.size) (hn:n0<=i+j):W C (lo3 a b mg ac bc res i j) (uW C a b st₀ n0) st:=by
 have hi':i < a.size:=by lia
 refine Ea (Zr hi' (Ea (YI (fun t=>decide (kx C b (j+t) < C.key a[i])) hk (T.ma _ (by simp)) T.mb (by lia) (by lia) (fun t _=>rfl) (fun s t h1 h2 h3=>?_) fun k h1 h2 h3=>?_)))
 ·exact Ec (Int.lt_of_le_of_lt (Vy T.sb (by lia) (by lia)) (Ed h3))
 ·dsimp only
  have lowc:∀ x∈(b.toList.drop j).take k,C.key x < C.key a[i]:=fun x hx=>by
   obtain ⟨t,ht,q,rfl⟩:=qP hx
   have:=Ed (h2 t ht)
   rwa [Jo b q] at this
  have m':=m.takeB T.sb k (fun x hx y hy=>by
   obtain ⟨t,ht,q,rfl⟩:=xl hy
   have:=lowc x hx
   have:=qk T.sa ht q
   lia)
  have hc:∀ y∈b.toList.drop (j+k),C.key a[i]<=C.key y:=fun y hy=>by
   obtain ⟨t,ht,q,rfl⟩:=xl hy
   have:=of_decide_eq_false (h3 (t - j) (by lia) (by lia))
   rw [show j+(t - j)=t by lia,Jo b q] at this
   lia
  by_cases hk0:k > 0
  ·rw [C8 hk0]
   by_cases q:j+k=b.size
   ·rw [C8 (by simpa using q)]
    refine Eb (.inl ⟨hs,_,rfl,?_⟩)
    rw [Ag,Ag,Ag,Xk,Xk,Up]
    exact m'.endB T.sa (by simp;lia)
   ·rw [C7 (by simpa using q)]
    refine QeD T hs ?_ hi (by lia) (by lia) hc
    rw [Ag,Up];exact m'
  ·rw [C7 hk0]
   have:k=0:=by lia
   subst this
   exact QeD T hs m hi hj hn hc
theorem QeC (T:Two C a b) (hk:kindOf st=C.kd) (hs:Sm st₀ st) (m:MI C a.toList b.toList res.toList i j) (hi:i+1 < a.size) (hj:j < b.size) (hn:n0<=i+j) (hc:∀ y∈a.toList.drop i,C.key b[j]<=C.key y):W C (lo2 a b mg ac bc res i j) (uW C a b st₀ n0) st:=by
 refine Ea (Zr hj ?_)
 have m':=m.takeB T.sb 1 (fun x hx y hy=>by rw [XH b hj] at hx;rw [Ar.mp hx];exact hc y hy)
 rw [XH b hj,<- Array.toList_push] at m'
 by_cases q:j+1=b.size
 ·rw [C8 (by simpa using q)]
  refine Eb (.inl ⟨hs,_,rfl,?_⟩)
  rw [Ag,Ag,Xk,Xk]
  exact m'.endB T.sa (by simp;lia)
 ·rw [C7 (by simpa using q)]
  exact QgP T hk hs m' hi (by lia) (by lia)
theorem QgO (T:Two C a b) (hk:kindOf st₀=C.kd) (hs:Sm st₀ st) (m:MI C a.toList b.toList res.toList i j) (hi:i+1 < a.size) (hj:j < b.size) (hn:n0<=i+j):W C (lo1 a b mg ac bc res i j) (uW C a b st₀ n0) st:=by
 refine Ea (jT hs fun st hs=>?_)
 have hk':kindOf st=C.kd:=hs.1.trans hk
 refine Ea (Zr hj (Ea (YI (fun t=>!decide (C.key b[j] < kx C a (i+t))) hk' (T.mb _ (by simp)) T.ma (by lia) (by lia) (fun t _=>rfl) (fun s t h1 h2 h3=>?_) fun k h1 h2 h3=>?_)))
 ·have q:=Vy T.sa (show i+s<=i+t by lia) (by lia)
  simp only [Cq,decide_eq_false_iff_not] at h3 ⊢
  lia
 ·dsimp only
  have lowc:∀ x∈(a.toList.drop i).take k,C.key x<=C.key b[j]:=fun x hx=>by
   obtain ⟨t,ht,q,rfl⟩:=qP hx
   have:=h2 t ht
   simp only [Cq,decide_eq_false_iff_not] at this
   rw [Jo a q] at this
   lia
  have m':=m.takeA T.sa k (fun x hx y hy=>by
   obtain ⟨t,ht,q,rfl⟩:=xl hy
   have:=lowc x hx
   have:=qk T.sb ht q
   lia)
  have hc:∀ y∈a.toList.drop (i+k),C.key b[j]<=C.key y:=fun y hy=>by
   obtain ⟨t,ht,q,rfl⟩:=xl hy
   have:=h3 (t - i) (by lia) (by lia)
   simp only [Bool.not_eq_false',decide_eq_true_eq] at this
   rw [show i+(t - i)=t by lia,Jo a q] at this
   lia
  by_cases hk0:k > 0
  ·rw [C8 hk0]
   by_cases q:i+k+1=a.size
   ·rw [C8 (by simpa using q)]
    refine Eb (.inl ⟨hs,_,rfl,?_⟩)
    rw [Ag,Ag,Ag,Xk,Xk,Up]
    exact m'.lastA T.sa T.sb (by simpa using T.last) (by simpa using q)
   ·rw [C7 (by simpa using q)]
    by_cases q2:i+k=a.size
    ·rw [C8 (by simpa using q2)]
     refine Eb (.inl ⟨hs,_,rfl,?_⟩)
     rw [Ag,Ag,Ag,Xk,Xk,Up]
     exact m'.endA T.sb (by simp;lia)
    ·rw [C7 (by simpa using q2)]
     refine QeC T hk' hs ?_ (by lia) hj (by lia) hc
     rw [Ag,Up];exact m'
  ·rw [C7 hk0]
   have:k=0:=by lia
   subst this
   exact QeC T hk' hs m hi hj hn hc
end
variable {C:Cmp} {a b:Array Keyed}
theorem mi0 (T:Two C a b):MI C a.toList b.toList [b[0]'T.nb] 0 1:=by
 have m:MI C a.toList b.toList [] 0 0:=⟨by simp,List.Pairwise.nil,fun x hx=>by simp at hx⟩
 have:=m.takeB T.sb 1 (fun x hx y hy=>T.first y (by simpa using hy) x (by simpa using hx))
 rw [XH b T.nb] at this
 simpa using this
theorem QgS {st:SortSt} {Q:Array Keyed->SortSt->Prop} (T:Two C a b) (hk:kindOf st=C.kd) (h:∀ r st',Sm st st'->Fin C a.toList b.toList r.toList->Q r st'):W C (mLo a b) Q st:=by
  have na:=T.na
  have nb:=T.nb
  have m0:=mi0 T
  rw [Qfl]
  dsimp only
  refine Ea (xq (Ea (Zr T.nb ?_)))
  by_cases q:1=b.size
  . rw [C8 (by simpa using q)]
    refine Eb (h _ st (Sm.refl _) ?_)
    rw [Ag,Ag,Xk,Xk]
    exact m0.endB T.sa (by simp;lia)
  rw [C7 (by simpa using q)]
  by_cases q:0+1=a.size
  . rw [C8 (by simpa using q)]
    refine Eb (h _ st (Sm.refl _) ?_)
    rw [Ag,Ag,Xk,Xk]
    exact m0.lastA T.sa T.sb (by simpa using T.last) (by simpa using q)
  rw [C7 (by simpa using q)]
  refine Ea (wpS_get ?_)
  refine Ea (wpS_mono (wpS_forRange (I:=fun x c st'=>∃ res i j mg,c=(none,res,i,j,mg)/\GoG C a b st x none res i j st') (Q:=fun c st'=>K6 C a b st c.1 st') ?step ?fin ⟨_,_,_,_,rfl,Sm.refl _,rfl,m0,by lia,by lia,by lia⟩) ?post)
  case post =>
    rintro ⟨c1,c2⟩ st' ⟨hs,x,rfl,hf⟩
    exact Eb (h x st' hs hf)
  case fin =>
    rintro c st' ⟨res,i,j,mg,rfl,hs,_,m,h1,h2,h3⟩
    lia
  case step =>
    rintro x c st' _ hx ⟨res,i,j,mg,rfl,hs,_,m,h1,h2,h3⟩
    dsimp only
    refine Ea (wpS_mono (wpS_forRange (I:=fun y c st''=>∃ res i j ac bc,c=(none,res,i,j,ac,bc)/\GoG C a b st (x+y) none res i j st'')
      (Q:=fun c st''=>K6 C a b st c.1 st''∨∃ res i j ac bc,c=(none,res,i,j,ac,bc)/\GoG C a b st (x+1) none res i j st'') ?step1 ?fin1 ⟨_,_,_,_,_,rfl,hs,rfl,m,h1,h2,h3⟩) ?post1)
    case fin1 =>
      rintro c st'' ⟨res,i,j,ac,bc,rfl,hs,_,m,h1,h2,h3⟩
      lia
    case step1 =>
      rintro y c st'' _ hy ⟨res,i,j,ac,bc,rfl,hs,_,m,h1,h2,h3⟩
      dsimp only
      have hi:i < a.size:=by lia
      refine Ea (Zr h2 (Ea (Zr hi (Ea (C.lt st'' _ _ _ (T.mb _ (by simp)) (T.ma _ (by simp)) (hs.1.trans hk) ?_)))))
      dsimp only
      by_cases hlt:C.key b[j] < C.key a[i]
      . simp only [hlt,decide_true,if_true]
        refine Ea (Zr h2 ?_)
        have m':=m.takeB T.sb 1 (fun x hx y hy=>by
          rw [XH b h2] at hx;rw [Ar.mp hx]
          obtain ⟨t,ht,q,rfl⟩:=xl hy
          have:=qk T.sa ht q
          lia)
        rw [XH b h2,<- Array.toList_push] at m'
        by_cases q:j+1=b.size
        . rw [C8 (by simpa using q)]
          refine Eb (.inl ⟨hs,_,rfl,?_⟩)
          rw [Ag,Ag,Xk,Xk]
          exact m'.endB T.sa (by simp;lia)
        . rw [C7 (by simpa using q)]
          split
          . exact Eb (.inr ⟨_,_,_,_,_,rfl,hs,rfl,m',h1,by lia,by lia⟩)
          . exact Eb ⟨_,_,_,_,_,rfl,hs,rfl,m',h1,by lia,by lia⟩
      . simp only [hlt,decide_false,Az,if_false]
        refine Ea (Zr hi ?_)
        have m':=m.takeA T.sa 1 (fun x hx y hy=>by
          rw [XH a hi] at hx;rw [Ar.mp hx]
          obtain ⟨t,ht,q,rfl⟩:=xl hy
          have:=qk T.sb ht q
          lia)
        rw [XH a hi,<- Array.toList_push] at m'
        by_cases q:i+1+1=a.size
        . rw [C8 (by simpa using q)]
          refine Eb (.inl ⟨hs,_,rfl,?_⟩)
          rw [Ag,Ag,Xk,Xk]
          exact m'.lastA T.sa T.sb (by simpa using T.last) (by simpa using q)
        . rw [C7 (by simpa using q)]
          split
          . exact Eb (.inr ⟨_,_,_,_,_,rfl,hs,rfl,m',by lia,h2,by lia⟩)
          . exact Eb ⟨_,_,_,_,_,rfl,hs,rfl,m',by lia,h2,by lia⟩
    case post1 =>
      rintro ⟨c1,c2⟩ st'' (⟨hs,r,hr,hf⟩ | ⟨res,i,j,ac,bc,e,hs,_,m,h1,h2,h3⟩)
      . simp only at hr
        subst hr
        exact Eb ⟨hs,r,rfl,hf⟩
      . cases e
        dsimp only
        refine Ea (xq ?_)
        refine Ea (wpS_mono (wpS_forRange (I:=fun y c st3=>∃ res i j mg ac bc,c=(none,res,i,j,mg,ac,bc)/\GoG C a b st (x+1+y) none res i j st3)
          (Q:=fun c st3=>K6 C a b st c.1 st3∨∃ res i j mg ac bc,c=(none,res,i,j,mg,ac,bc)/\GoG C a b st (x+1) none res i j st3) ?step2 ?fin2 ⟨_,_,_,_,_,_,rfl,hs,rfl,m,h1,h2,by lia⟩) ?post2)
        case fin2 =>
          rintro c st3 ⟨res,i,j,mg,ac,bc,rfl,hs,_,m,h1,h2,h3⟩
          lia
        case step2 =>
          rintro y c st3 _ hy ⟨res,i,j,mg,ac,bc,rfl,hs,_,m,h1,h2,h3⟩
          dsimp only
          have key:=fun mg=>QgO (mg:=mg) (ac:=ac) (bc:=bc) (n0:=x+1+(y+1)) T hk hs m h1 h2 (by lia)
          rcases Bh 1 mg with hm | hm
          . rw [C8 hm]
            refine wpS_mono (key (mg - 1)) ?_
            intro r st4 hr
            cases r with
            | done c =>
              obtain ⟨c1,c2,c3,c4,c5,c6,c7⟩:=c
              rcases hr with q | q
              . exact .inl q
              . obtain ⟨g1,g2,g3,g4,g5,g6⟩:=q
                simp only at g2 g3 g4 g5 g6
                subst g2
                exact .inr ⟨_,_,_,_,_,_,rfl,g1,rfl,g3,g4,g5,by lia⟩
            | yield c =>
              obtain ⟨c1,c2,c3,c4,c5,c6,c7⟩:=c
              obtain ⟨g1,g2,g3,g4,g5,g6⟩:=hr
              simp only at g2 g3 g4 g5 g6
              subst g2
              exact ⟨_,_,_,_,_,_,rfl,g1,rfl,g3,g4,g5,g6⟩
          . rw [C7 (by lia)]
            refine wpS_mono (key mg) ?_
            intro r st4 hr
            cases r with
            | done c =>
              obtain ⟨c1,c2,c3,c4,c5,c6,c7⟩:=c
              rcases hr with q | q
              . exact .inl q
              . obtain ⟨g1,g2,g3,g4,g5,g6⟩:=q
                simp only at g2 g3 g4 g5 g6
                subst g2
                exact .inr ⟨_,_,_,_,_,_,rfl,g1,rfl,g3,g4,g5,by lia⟩
            | yield c =>
              obtain ⟨c1,c2,c3,c4,c5,c6,c7⟩:=c
              obtain ⟨g1,g2,g3,g4,g5,g6⟩:=hr
              simp only at g2 g3 g4 g5 g6
              subst g2
              exact ⟨_,_,_,_,_,_,rfl,g1,rfl,g3,g4,g5,g6⟩
        case post2 =>
          rintro ⟨c1,c2⟩ st3 (⟨hs,r,hr,hf⟩ | ⟨res,i,j,mg,ac,bc,e,hs,_,m,h1,h2,h3⟩)
          . simp only at hr
            subst hr
            exact Eb ⟨hs,r,rfl,hf⟩
          . cases e
            dsimp only
            refine Ea (jT hs fun st4 hs4=>?_)
            exact Eb ⟨_,_,_,_,rfl,hs4,rfl,m,h1,h2,h3⟩
variable {C:Cmp}
structure MH (C:Cmp) (A B R:List Keyed) (p q:Nat):Prop where
 perm:(A.take p++B.take q++R).Perm (A++B)
 srt:Srt C R
 high:∀ x∈A.take p++B.take q,∀ y∈R,C.key x<=C.key y
section
variable {A B R:List Keyed} {p q:Nat}
theorem Kj (A:List Keyed) {p r:Nat} (h:r<=p):A.take p=A.take r++(A.take p).drop r:=by
 have:A.take r=(A.take p).take r:=by rw [List.take_take,Nat.min_eq_left h]
 rw [this,B0]
theorem MH.takeA (m:MH C A B R p q) (hA:Srt C A) {r:Nat} (hr:r<=p) (h:∀ y∈(A.take p).drop r,∀ x∈B.take q,C.key x<=C.key y):MH C A B ((A.take p).drop r++R) r q:=by
 have e:=Kj A hr
 have hd:=hA.take p
 rw [e] at hd
 obtain ⟨_,_,h3⟩:=Bv.mp hd
 have sc:Srt C ((A.take p).drop r):=(hA.take p).drop r
 have mm:∀ y∈(A.take p).drop r,y∈A.take p:=fun y hy=>Cd hy
 generalize (A.take p).drop r=ch at e h h3 sc mm ⊢
 refine ⟨?_,sc.app m.srt fun x hx y hy=>m.high x (A7 _ (mm x hx)) y hy,fun x hx y hy=>?_⟩
 ·refine List.Perm.trans ?_ m.perm
  rw [e]
  simp only [A8]
  refine List.Perm.append_left _ ?_
  rw [<- A8,<- A8]
  exact List.Perm.append_right _ List.perm_append_comm
 ·rcases Ai.mp hy with z | z
  ·rcases Ai.mp hx with w | w
   ·exact h3 x w y z
   ·exact h y z x w
  ·refine m.high x ?_ y z
   rcases Ai.mp hx with w | w
   ·exact A7 _ (by rw [e];exact A7 _ w)
   ·exact Aj _ w
theorem MH.takeB (m:MH C A B R p q) (hB:Srt C B) {r:Nat} (hr:r<=q) (h:∀ y∈(B.take q).drop r,∀ x∈A.take p,C.key x<=C.key y):MH C A B ((B.take q).drop r++R) p r:=by
 have e:=Kj B hr
 have hd:=hB.take q
 rw [e] at hd
 obtain ⟨_,_,h3⟩:=Bv.mp hd
 have sc:Srt C ((B.take q).drop r):=(hB.take q).drop r
 have mm:∀ y∈(B.take q).drop r,y∈B.take q:=fun y hy=>Cd hy
 generalize (B.take q).drop r=ch at e h h3 sc mm ⊢
 refine ⟨?_,sc.app m.srt fun x hx y hy=>m.high x (Aj _ (mm x hx)) y hy,fun x hx y hy=>?_⟩
 ·have:=m.perm
  rw [e] at this
  simpa [A8] using this
 ·rcases Ai.mp hy with z | z
  ·rcases Ai.mp hx with w | w
   ·exact h y z x w
   ·exact h3 x w y z
  ·refine m.high x ?_ y z
   rcases Ai.mp hx with w | w
   ·exact A7 _ w
   ·exact Aj _ (by rw [e];exact A7 _ w)
theorem MH.endA (m:MH C A B R p q) (U:p=0) (hB:Srt C B):Fin C A B (A.take p++B.take q++R):=by
 subst U
 exact ⟨by simpa using (hB.take q).app m.srt fun x hx y hy=>m.high x (Aj _ hx) y hy,m.perm⟩
theorem MH.endB (m:MH C A B R p q) (hq:q=0) (hA:Srt C A):Fin C A B (A.take p++B.take q++R):=by
 subst hq
 exact ⟨by simpa using (hA.take p).app m.srt fun x hx y hy=>m.high x (A7 _ hx) y hy,m.perm⟩
theorem MH.firstB (m:MH C A B R p q) (hq:q=1) (hA:Srt C A) (hB:Srt C B) (hf:∀ y∈A,∀ x∈B.take 1,C.key x<=C.key y):Fin C A B (B.take q++A.take p++R):=by
 subst hq
 refine ⟨((hB.take 1).app (hA.take p) fun x hx y hy=>hf y (Bx hy) x hx).app m.srt fun x hx y hy=>?_,?_⟩
 ·refine m.high x ?_ y hy
  rcases Ai.mp hx with w | w
  ·exact Aj _ w
  ·exact A7 _ w
 ·exact (List.Perm.append_right _ List.perm_append_comm).trans m.perm
end
theorem Qfk (a b:Array Keyed):mHi a b=(do
  rule "list.sort.merge-hi"
  let all:=a.size+b.size
  let fin (res:Array Keyed) (p q:Nat):=a.extract 0 p++b.extract 0 q++res.reverse
  let fst (res:Array Keyed) (p q:Nat):=b.extract 0 q++a.extract 0 p++res.reverse
  let mut p:=a.size - 1
  let mut q:=b.size
  let mut res:Array Keyed:=#[<- elem' a p]
  if p==0 then return fin res p q
  if q==1 then return fst res p q
  let mut mg:=gallopOf (<- get)
  for _ in [0:all] do
   let mut ac:=0
   let mut bc:=0
   for _ in [0:all] do
    let some aw <- lt' (<- elem' b (q - 1)) (<- elem' a (p - 1)) | return fin res p q
    if aw then
     p:=p - 1;res:=res.push (<- elem' a p);ac:=ac+1;bc:=0
     if p==0 then return fin res p q
     if ac≥mg then break
    else
     q:=q - 1;res:=res.push (<- elem' b q);bc:=bc+1;ac:=0
     if q==1 then return fst res p q
     if bc≥mg then break
   rule "list.sort.gallop"
   mg:=mg+1
   for _ in [0:all] do
    if mg > 1 then mg:=mg - 1
    zV mg
    let some t <- gal false (<- elem' b (q - 1)) a 0 p (p - 1) | return fin res p q
    let k:=p - t
    ac:=k
    if k > 0 then
     res:=res++(a.extract t p).reverse;p:=t
     if p==0 then return fin res p q
    q:=q - 1;res:=res.push (<- elem' b q)
    if q==1 then return fst res p q
    let some t <- gal true (<- elem' a (p - 1)) b 0 q (q - 1) | return fin res p q
    let k:=q - t
    bc:=k
    if k > 0 then
     res:=res++(b.extract t q).reverse;q:=t
     if q==1 then return fst res p q
     if q==0 then return fin res p q
    p:=p - 1;res:=res.push (<- elem' a p)
    if p==0 then return fin res p q
    if ac < 7&&bc < 7 then break
   mg:=mg+1
   zV mg
  unsupported "internal:list.sort.merge-bound"):=rfl
abbrev HS:=Option (Array Keyed)×Nat×Nat×Array Keyed×Nat×Nat×Nat
def hi4 (a b:Array Keyed) (mg ac bc:Nat) (res:Array Keyed) (p q:Nat):StateT SortSt Sem (ForInStep HS):=do
 let x <- elem' a (p - 1)
 if (p - 1==0)=true then pure (.done (some (a.extract 0 (p - 1)++b.extract 0 q++(res.push x).reverse),p - 1,q,res.push x,mg,ac,bc))
 else if (decide (ac < 7)&&decide (bc < 7))=true then pure (.done (none,p - 1,q,res.push x,mg,ac,bc)) else pure (.yield (none,p - 1,q,res.push x,mg,ac,bc))
def hi3 (a b:Array Keyed) (mg ac bc:Nat) (res:Array Keyed) (p q:Nat):StateT SortSt Sem (ForInStep HS):=do
 let y <- elem' a (p - 1)
 let z <- gal true y b 0 q (q - 1)
 match z with
 | some t=>(if q - t > 0 then (if (t==1)=true then pure (.done (some (b.extract 0 t++a.extract 0 p++(res++(b.extract t q).reverse).reverse),p,t,res++(b.extract t q).reverse,mg,ac,q - t))
   else if (t==0)=true then pure (.done (some (a.extract 0 p++b.extract 0 t++(res++(b.extract t q).reverse).reverse),p,t,res++(b.extract t q).reverse,mg,ac,q - t))
   else hi4 a b mg ac (q - t) (res++(b.extract t q).reverse) p t) else hi4 a b mg ac (q - t) res p q:StateT SortSt Sem (ForInStep HS))
 | _=>pure (.done (some (a.extract 0 p++b.extract 0 q++res.reverse),p,q,res,mg,ac,bc))
def hi2 (a b:Array Keyed) (mg ac bc:Nat) (res:Array Keyed) (p q:Nat):StateT SortSt Sem (ForInStep HS):=do
 let y <- elem' b (q - 1)
 if (q - 1==1)=true then pure (.done (some (b.extract 0 (q - 1)++a.extract 0 p++(res.push y).reverse),p,q - 1,res.push y,mg,ac,bc))
 else hi3 a b mg ac bc (res.push y) p (q - 1)
def hi1 (a b:Array Keyed) (mg ac bc:Nat) (res:Array Keyed) (p q:Nat):StateT SortSt Sem (ForInStep HS):=do
 zV mg
 let y <- elem' b (q - 1)
 let z <- gal false y a 0 p (p - 1)
 match z with
 | some t=>(if p - t > 0 then (if (t==0)=true then pure (.done (some (a.extract 0 t++b.extract 0 q++(res++(a.extract t p).reverse).reverse),t,q,res++(a.extract t p).reverse,mg,p - t,bc))
   else hi2 a b mg (p - t) bc (res++(a.extract t p).reverse) t q) else hi2 a b mg (p - t) bc res p q:StateT SortSt Sem (ForInStep HS))
 | _=>pure (.done (some (a.extract 0 p++b.extract 0 q++res.reverse),p,q,res,mg,ac,bc))
section
variable {a b res:Array Keyed} {p q r:Nat}
theorem qw (a:Array Keyed) (p:Nat):(a.extract 0 p).toList=a.toList.take p:=by
 simp [Array.toList_extract,List.extract_eq_take_drop]
theorem Qbq (a:Array Keyed) (r p:Nat):(a.extract r p).toList=(a.toList.take p).drop r:=by
 rw [Array.toList_extract,List.extract_eq_take_drop,List.drop_take]
theorem ym (x:Keyed):(res.push x).toList.reverse=x::res.toList.reverse:=by simp
theorem Qcj (ch:Array Keyed):(res++ch.reverse).toList.reverse=ch.toList++res.toList.reverse:=by simp
theorem qm (a:Array Keyed) {p:Nat} (h0:1<=p) (h:p<=a.size):(a.toList.take p).drop (p - 1)=[a[p - 1]'(by lia)]:=by
 rw [List.drop_take,show p - (p - 1)=1 by lia]
 exact XH a (by lia)
theorem gO {x:Keyed} (h:x∈(a.toList.take p).drop r):∃ t,r<=t/\t < p/\∃ z:t < a.size,x=a[t]:=by
 obtain ⟨t,ht,e⟩:=List.getElem_of_mem h
 have h1:r+t < p/\r+t < a.size:=by simp at ht;lia
 exact ⟨r+t,by lia,h1.1,h1.2,by rw [<- e];simp [Cw,List.getElem_drop]⟩
theorem xm {x:Keyed} (h:x∈a.toList.take p):∃ t,t < p/\∃ z:t < a.size,x=a[t]:=by
 obtain ⟨t,ht,e⟩:=List.getElem_of_mem h
 have h1:t < p/\t < a.size:=by simp at ht;lia
 exact ⟨t,h1.1,h1.2,by rw [<- e];simp [Cw]⟩
end
section
variable {a b:Array Keyed} {st₀:SortSt} {n0:Nat}
def GoH (C:Cmp) (a b:Array Keyed) (st₀:SortSt) (n0:Nat) (r:Option (Array Keyed)) (res:Array Keyed) (p q:Nat) (st':SortSt):Prop:=Sm st₀ st'/\r=none/\MH C a.toList b.toList res.toList.reverse p q/\(1<=p/\p<=a.size)/\(2<=q/\q<=b.size)/\n0+p+q < a.size+b.size
def uX (C:Cmp) (a b:Array Keyed) (st₀:SortSt) (n0:Nat) (r:ForInStep HS) (st':SortSt):Prop:=match r with
 | .done c=>K6 C a b st₀ c.1 st'∨GoH C a b st₀ n0 c.1 c.2.2.2.1 c.2.1 c.2.2.1 st'
 | .yield c=>GoH C a b st₀ n0 c.1 c.2.2.2.1 c.2.1 c.2.2.1 st'
variable {mg ac bc p q:Nat} {res:Array Keyed} {st:SortSt}
theorem QeB (T:Two C a b) (hs:Sm st₀ st) (m:MH C a.toList b.toList res.toList.reverse p q) (U:1<=p/\p<=a.size) (hq:2<=q/\q<=b.size) (hn:n0+p+q<=a.size+b.size) (hc:∀ x∈b.toList.take q,C.key x<=C.key (a[p - 1]'(by lia))):W C (hi4 a b mg ac bc res p q) (uX C a b st₀ n0) st:=by
 have hp':p - 1 < a.size:=by lia
 refine Ea (Zr hp' ?_)
 have m':=m.takeA T.sa (r:=p - 1) (by lia) (fun y hy x hx=>by rw [qm a U.1 U.2] at hy;rw [Ar.mp hy];exact hc x hx)
 rw [qm a U.1 U.2,List.singleton_append,<- ym] at m'
 by_cases z:p - 1=0
 ·rw [C8 (by simpa using z)]
  refine Eb (.inl ⟨hs,_,rfl,?_⟩)
  rw [Ag,Ag,qw,qw,Ce]
  exact m'.endA z T.sb
 ·rw [C7 (by simpa using z)]
  have g:GoH C a b st₀ n0 none (res.push a[p - 1]) (p - 1) q st:=⟨hs,rfl,m',by lia,hq,by lia⟩
  split
  ·exact Eb (.inr g)
  ·exact Eb g
theorem QgH (T:Two C a b) (hk:kindOf st=C.kd) (hs:Sm st₀ st) (m:MH C a.toList b.toList res.toList.reverse p q) (U:1<=p/\p<=a.size) (hq:2<=q/\q<=b.size) (hn:n0+p+q<=a.size+b.size):W C (hi3 a b mg ac bc res p q) (uX C a b st₀ n0) st:=by
 have hp':p - 1 < a.size:=by lia
 refine Ea (Zr hp' (Ea (YI (fun t=>decide (kx C b (0+t) < C.key a[p - 1])) hk (T.ma _ (by simp)) T.mb (by lia) (by lia) (fun t _=>rfl) (fun s t h1 h2 h3=>?_) fun t h1 h2 h3=>?_)))
 ·exact Ec (Int.lt_of_le_of_lt (Vy T.sb (by lia) (by lia)) (Ed h3))
 ·dsimp only
  have m':=m.takeB T.sb h1 (fun y hy x hx=>by
   obtain ⟨u,hu1,hu2,z,rfl⟩:=gO hy
   have e:=of_decide_eq_false (h3 u hu1 hu2)
   rw [C1,Jo b z] at e
   obtain ⟨v,hv,z2,rfl⟩:=xm hx
   have:=qk T.sa (show v<=p - 1 by lia) hp'
   lia)
  have hc:∀ x∈b.toList.take t,C.key x<=C.key a[p - 1]:=fun x hx=>by
   obtain ⟨v,hv,z2,rfl⟩:=xm hx
   have e:=Ed (h2 v hv)
   rw [C1,Jo b z2] at e
   lia
  rw [<- Qbq,<- Qcj] at m'
  by_cases hk0:q - t > 0
  ·rw [C8 hk0]
   by_cases z:t=1
   ·rw [C8 (by simpa using z)]
    refine Eb (.inl ⟨hs,_,rfl,?_⟩)
    rw [Ag,Ag,qw,qw,Ce]
    exact m'.firstB z T.sa T.sb T.first
   ·rw [C7 (by simpa using z)]
    by_cases z2:t=0
    ·rw [C8 (by simpa using z2)]
     refine Eb (.inl ⟨hs,_,rfl,?_⟩)
     rw [Ag,Ag,qw,qw,Ce]
     exact m'.endB z2 T.sa
    ·rw [C7 (by simpa using z2)]
     exact QeB T hs m' U (by lia) (by lia) hc
  ·rw [C7 hk0]
   have:t=q:=by lia
   subst this
   exact QeB T hs m U hq hn hc
theorem QeA (T:Two C a b) (hk:kindOf st=C.kd) (hs:Sm st₀ st) (m:MH C a.toList b.toList res.toList.reverse p q) (U:1<=p/\p<=a.size) (hq:2<=q/\q<=b.size) (hn:n0+p+q<=a.size+b.size) (hc:∀ x∈a.toList.take p,C.key x<=C.key (b[q - 1]'(by lia))):W C (hi2 a b mg ac bc res p q) (uX C a b st₀ n0) st:=by
 have hq':q - 1 < b.size:=by lia
 refine Ea (Zr hq' ?_)
 have m':=m.takeB T.sb (r:=q - 1) (by lia) (fun y hy x hx=>by rw [qm b (by lia) hq.2] at hy;rw [Ar.mp hy];exact hc x hx)
 rw [qm b (by lia) hq.2,List.singleton_append,<- ym] at m'
 by_cases z:q - 1=1
 ·rw [C8 (by simpa using z)]
  refine Eb (.inl ⟨hs,_,rfl,?_⟩)
  rw [Ag,Ag,qw,qw,Ce]
  exact m'.firstB z T.sa T.sb T.first
 ·rw [C7 (by simpa using z)]
  exact QgH T hk hs m' U (by lia) (by lia)
theorem QgG (T:Two C a b) (hk:kindOf st₀=C.kd) (hs:Sm st₀ st) (m:MH C a.toList b.toList res.toList.reverse p q) (U:1<=p/\p<=a.size) (hq:2<=q/\q<=b.size) (hn:n0+p+q<=a.size+b.size):W C (hi1 a b mg ac bc res p q) (uX C a b st₀ n0) st:=by
 refine Ea (jT hs fun st hs=>?_)
 have hk':kindOf st=C.kd:=hs.1.trans hk
 have hq':q - 1 < b.size:=by lia
 refine Ea (Zr hq' (Ea (YI (fun t=>!decide (C.key b[q - 1] < kx C a (0+t))) hk' (T.mb _ (by simp)) T.ma (by lia) (by lia) (fun t _=>rfl) (fun s t h1 h2 h3=>?_) fun t h1 h2 h3=>?_)))
 ·have e:=Vy T.sa (show 0+s<=0+t by lia) (by lia)
  simp only [Cq,decide_eq_false_iff_not] at h3 ⊢
  lia
 ·dsimp only
  have m':=m.takeA T.sa h1 (fun y hy x hx=>by
   obtain ⟨u,hu1,hu2,z,rfl⟩:=gO hy
   have e:=h3 u hu1 hu2
   simp only [Bool.not_eq_false',decide_eq_true_eq] at e
   rw [C1,Jo a z] at e
   obtain ⟨v,hv,z2,rfl⟩:=xm hx
   have:=qk T.sb (show v<=q - 1 by lia) hq'
   lia)
  have hc:∀ x∈a.toList.take t,C.key x<=C.key b[q - 1]:=fun x hx=>by
   obtain ⟨v,hv,z2,rfl⟩:=xm hx
   have e:=h2 v hv
   simp only [Cq,decide_eq_false_iff_not] at e
   rw [C1,Jo a z2] at e
   lia
  rw [<- Qbq,<- Qcj] at m'
  by_cases hk0:p - t > 0
  ·rw [C8 hk0]
   by_cases z:t=0
   ·rw [C8 (by simpa using z)]
    refine Eb (.inl ⟨hs,_,rfl,?_⟩)
    rw [Ag,Ag,qw,qw,Ce]
    exact m'.endA z T.sb
   ·rw [C7 (by simpa using z)]
    exact QeA T hk' hs m' (by lia) hq (by lia) hc
  ·rw [C7 hk0]
   have:t=p:=by lia
   subst this
   exact QeA T hk' hs m U hq hn hc
theorem mh0 (T:Two C a b):MH C a.toList b.toList [a[a.size - 1]'(by have:=T.na;lia)] (a.size - 1) b.size:=by
 have na:=T.na
 have ea:a.toList.take a.size=a.toList:=Ci (by simp)
 have eb:b.toList.take b.size=b.toList:=Ci (by simp)
 have m:MH C a.toList b.toList [] a.size b.size:=⟨by rw [ea,eb,Bt],List.Pairwise.nil,fun x hx y hy=>by simp at hy⟩
 have:=m.takeA T.sa (r:=a.size - 1) (by lia) (fun y hy x hx=>T.last y (by rw [ea] at hy;exact hy) x (Bx hx))
 rw [qm a na (Ae _)] at this
 simpa using this
theorem QgR {Q:Array Keyed->SortSt->Prop} (T:Two C a b) (hk:kindOf st=C.kd) (h:∀ r st',Sm st st'->Fin C a.toList b.toList r.toList->Q r st'):W C (mHi a b) Q st:=by
  have na:=T.na
  have nb:=T.nb
  have m0:=mh0 T
  have hl:a.size - 1 < a.size:=by lia
  rw [Qfk]
  dsimp only
  refine Ea (xq (Ea (Zr hl ?_)))
  have m1:MH C a.toList b.toList (#[a[a.size - 1]]).toList.reverse (a.size - 1) b.size:=m0
  by_cases z:a.size - 1=0
  . rw [C8 (by simpa using z)]
    refine Eb (h _ st (Sm.refl _) ?_)
    rw [Ag,Ag,qw,qw,Ce]
    exact m1.endA z T.sb
  rw [C7 (by simpa using z)]
  by_cases z:b.size=1
  . rw [C8 (by simpa using z)]
    refine Eb (h _ st (Sm.refl _) ?_)
    rw [Ag,Ag,qw,qw,Ce]
    exact m1.firstB z T.sa T.sb T.first
  rw [C7 (by simpa using z)]
  refine Ea (wpS_get ?_)
  refine Ea (wpS_mono (wpS_forRange (I:=fun x c st'=>∃ p q res mg,c=(none,p,q,res,mg)/\GoH C a b st x none res p q st') (Q:=fun c st'=>K6 C a b st c.1 st') ?step ?fin ⟨_,_,_,_,rfl,Sm.refl _,rfl,m1,by lia,by lia,by lia⟩) ?post)
  case post =>
    rintro ⟨c1,c2⟩ st' ⟨hs,x,rfl,hf⟩
    exact Eb (h x st' hs hf)
  case fin =>
    rintro c st' ⟨p,q,res,mg,rfl,hs,_,m,h1,h2,h3⟩
    lia
  case step =>
    rintro x c st' _ hx ⟨p,q,res,mg,rfl,hs,_,m,h1,h2,h3⟩
    dsimp only
    refine Ea (wpS_mono (wpS_forRange (I:=fun y c st''=>∃ p q res ac bc,c=(none,p,q,res,ac,bc)/\GoH C a b st (x+y) none res p q st'')
      (Q:=fun c st''=>K6 C a b st c.1 st''∨∃ p q res ac bc,c=(none,p,q,res,ac,bc)/\GoH C a b st (x+1) none res p q st'') ?step1 ?fin1 ⟨_,_,_,_,_,rfl,hs,rfl,m,h1,h2,h3⟩) ?post1)
    case fin1 =>
      rintro c st'' ⟨p,q,res,ac,bc,rfl,hs,_,m,h1,h2,h3⟩
      lia
    case step1 =>
      rintro y c st'' _ hy ⟨p,q,res,ac,bc,rfl,hs,_,m,h1,h2,h3⟩
      dsimp only
      have hp':p - 1 < a.size:=by lia
      have hq':q - 1 < b.size:=by lia
      refine Ea (Zr hq' (Ea (Zr hp' (Ea (C.lt st'' _ _ _ (T.mb _ (by simp)) (T.ma _ (by simp)) (hs.1.trans hk) ?_)))))
      dsimp only
      by_cases hlt:C.key b[q - 1] < C.key a[p - 1]
      . simp only [hlt,decide_true,if_true]
        refine Ea (Zr hp' ?_)
        have m':=m.takeA T.sa (r:=p - 1) (by lia) (fun y hy x hx=>by
          rw [qm a h1.1 h1.2] at hy;rw [Ar.mp hy]
          obtain ⟨v,hv,z2,rfl⟩:=xm hx
          have:=qk T.sb (show v<=q - 1 by lia) hq'
          lia)
        rw [qm a h1.1 h1.2,List.singleton_append,<- ym] at m'
        by_cases z:p - 1=0
        . rw [C8 (by simpa using z)]
          refine Eb (.inl ⟨hs,_,rfl,?_⟩)
          rw [Ag,Ag,qw,qw,Ce]
          exact m'.endA z T.sb
        . rw [C7 (by simpa using z)]
          split
          . exact Eb (.inr ⟨_,_,_,_,_,rfl,hs,rfl,m',by lia,h2,by lia⟩)
          . exact Eb ⟨_,_,_,_,_,rfl,hs,rfl,m',by lia,h2,by lia⟩
      . simp only [hlt,decide_false,Az,if_false]
        refine Ea (Zr hq' ?_)
        have m':=m.takeB T.sb (r:=q - 1) (by lia) (fun y hy x hx=>by
          rw [qm b (by lia) h2.2] at hy;rw [Ar.mp hy]
          obtain ⟨v,hv,z2,rfl⟩:=xm hx
          have:=qk T.sa (show v<=p - 1 by lia) hp'
          lia)
        rw [qm b (by lia) h2.2,List.singleton_append,<- ym] at m'
        by_cases z:q - 1=1
        . rw [C8 (by simpa using z)]
          refine Eb (.inl ⟨hs,_,rfl,?_⟩)
          rw [Ag,Ag,qw,qw,Ce]
          exact m'.firstB z T.sa T.sb T.first
        . rw [C7 (by simpa using z)]
          split
          . exact Eb (.inr ⟨_,_,_,_,_,rfl,hs,rfl,m',h1,by lia,by lia⟩)
          . exact Eb ⟨_,_,_,_,_,rfl,hs,rfl,m',h1,by lia,by lia⟩
    case post1 =>
      rintro ⟨c1,c2⟩ st'' (⟨hs,r,hr,hf⟩ | ⟨p,q,res,ac,bc,e,hs,_,m,h1,h2,h3⟩)
      . simp only at hr
        subst hr
        exact Eb ⟨hs,r,rfl,hf⟩
      . cases e
        dsimp only
        refine Ea (xq ?_)
        refine Ea (wpS_mono (wpS_forRange (I:=fun y c st3=>∃ p q res mg ac bc,c=(none,p,q,res,mg,ac,bc)/\GoH C a b st (x+1+y) none res p q st3)
          (Q:=fun c st3=>K6 C a b st c.1 st3∨∃ p q res mg ac bc,c=(none,p,q,res,mg,ac,bc)/\GoH C a b st (x+1) none res p q st3) ?step2 ?fin2 ⟨_,_,_,_,_,_,rfl,hs,rfl,m,h1,h2,by lia⟩) ?post2)
        case fin2 =>
          rintro c st3 ⟨p,q,res,mg,ac,bc,rfl,hs,_,m,h1,h2,h3⟩
          lia
        case step2 =>
          rintro y c st3 _ hy ⟨p,q,res,mg,ac,bc,rfl,hs,_,m,h1,h2,h3⟩
          dsimp only
          have key:=fun mg=>QgG (mg:=mg) (ac:=ac) (bc:=bc) (n0:=x+1+(y+1)) T hk hs m h1 h2 (by lia)
          rcases Bh 1 mg with hm | hm
          . rw [C8 hm]
            refine wpS_mono (key (mg - 1)) ?_
            intro r st4 hr
            cases r with
            | done c =>
              obtain ⟨c1,c2,c3,c4,c5,c6,c7⟩:=c
              rcases hr with z | z
              . exact .inl z
              . obtain ⟨g1,g2,g3,g4,g5,g6⟩:=z
                simp only at g2 g3 g4 g5 g6
                subst g2
                exact .inr ⟨_,_,_,_,_,_,rfl,g1,rfl,g3,g4,g5,by lia⟩
            | yield c =>
              obtain ⟨c1,c2,c3,c4,c5,c6,c7⟩:=c
              obtain ⟨g1,g2,g3,g4,g5,g6⟩:=hr
              simp only at g2 g3 g4 g5 g6
              subst g2
              exact ⟨_,_,_,_,_,_,rfl,g1,rfl,g3,g4,g5,g6⟩
          . rw [C7 (by lia)]
            refine wpS_mono (key mg) ?_
            intro r st4 hr
            cases r with
            | done c =>
              obtain ⟨c1,c2,c3,c4,c5,c6,c7⟩:=c
              rcases hr with z | z
              . exact .inl z
              . obtain ⟨g1,g2,g3,g4,g5,g6⟩:=z
                simp only at g2 g3 g4 g5 g6
                subst g2
                exact .inr ⟨_,_,_,_,_,_,rfl,g1,rfl,g3,g4,g5,by lia⟩
            | yield c =>
              obtain ⟨c1,c2,c3,c4,c5,c6,c7⟩:=c
              obtain ⟨g1,g2,g3,g4,g5,g6⟩:=hr
              simp only at g2 g3 g4 g5 g6
              subst g2
              exact ⟨_,_,_,_,_,_,rfl,g1,rfl,g3,g4,g5,g6⟩
        case post2 =>
          rintro ⟨c1,c2⟩ st3 (⟨hs,r,hr,hf⟩ | ⟨p,q,res,mg,ac,bc,e,hs,_,m,h1,h2,h3⟩)
          . simp only at hr
            subst hr
            exact Eb ⟨hs,r,rfl,hf⟩
          . cases e
            dsimp only
            refine Ea (jT hs fun st4 hs4=>?_)
            exact Eb ⟨_,_,_,_,rfl,hs4,rfl,m,h1,h2,h3⟩
end
variable {C:Cmp}
def seg (L:List Keyed) (s n:Nat):List Keyed:=(L.drop s).take n
theorem XQ {L:List Keyed} {s n:Nat} (h:s+n<=L.length):(seg L s n).length=n:=by simp [seg];lia
theorem UO (L:List Keyed) (s n:Nat):L=L.take s++seg L s n++L.drop (s+n):=by
 unfold seg
 rw [A8,<- Ct,B0,B0]
theorem yn (L:List Keyed) (s n m:Nat):seg L s (n+m)=seg L s n++seg L (s+n) m:=by
 unfold seg
 rw [<- Ct,List.take_add]
theorem Qeb {P M M' R:List Keyed} {s n:Nat} (h:s+n<=P.length):seg (P++M++R) s n=seg (P++M'++R) s n:=by
 unfold seg
 have:∀ T:List Keyed,((P++T).drop s).take n=(P.drop s).take n:=fun T=>by
  rw [List.drop_append_of_le_length (by lia),List.take_append_of_le_length (by simp;lia)]
 rw [A8,A8,this,this]
theorem Qco {P M M' R:List Keyed} {s n:Nat} (hl:M.length=M'.length) (h:P.length+M.length<=s):seg (P++M++R) s n=seg (P++M'++R) s n:=by
 unfold seg
 have e:∀ T:List Keyed,T.length<=s->(T++R).drop s=R.drop (s - T.length):=fun T hT=>by rw [List.drop_append,Cn hT,List.nil_append]
 rw [e (P++M) (by rw [An];lia),e (P++M') (by rw [An];lia),An,An,hl]
theorem Qea {P M R:List Keyed} {s n:Nat} (h:s=P.length) (hn:n=M.length):seg (P++M++R) s n=M:=by
 subst h hn
 unfold seg
 rw [A8,List.drop_left,List.take_left]
theorem KR {arr:Array Keyed} {s n i j:Nat} (h:Srt C (seg arr.toList s n)) (hn:s+n<=arr.size) (hij:i<=j) (hj:j < n):kx C arr (s+i)<=kx C arr (s+j):=by
 rcases Bh i j with q | q
 ·have hl:(seg arr.toList s n).length=n:=XQ (by simpa using hn)
  have:=List.pairwise_iff_getElem.mp h i j (by lia) (by lia) q
  rw [Jo arr (by lia),Jo arr (by lia)]
  simpa [seg,Cw,List.getElem_drop] using this
 ·have:i=j:=by lia
  subst this;exact Bo _
theorem Qeh {arr:Array Keyed} {s n:Nat} (hn:s+n<=arr.size) (h:∀ i j,i<=j->j < n->kx C arr (s+i)<=kx C arr (s+j)):Srt C (seg arr.toList s n):=by
 refine List.pairwise_iff_getElem.mpr fun i j hi hj hij=>?_
 have hl:(seg arr.toList s n).length=n:=XQ (by simpa using hn)
 have:=h i j (by lia) (by lia)
 rw [Jo arr (by lia),Jo arr (by lia)] at this
 simpa [seg,Cw,List.getElem_drop] using this
def Runs (C:Cmp) (L:List Keyed):List (Nat×Nat×Nat)->Nat->Nat->Prop
 | [],s,e=>s=e
 | (x,n,_)::r,s,e=>x=s/\1<=n/\Srt C (seg L s n)/\Runs C L r (s+n) e
theorem Runs.le:∀ {r:List (Nat×Nat×Nat)} {s e:Nat},Runs C L r s e->s+r.length<=e
 | [],_,_,h=>by cases h;simp
 | (x,n,_)::r,s,e,⟨_,h1,_,h2⟩=>by have:=Runs.le h2;simp;lia
theorem Runs.congr:∀ {r:List (Nat×Nat×Nat)} {s e:Nat},Runs C L r s e->(∀ a n,s<=a->a+n<=e->seg L' a n=seg L a n)->Runs C L' r s e
  | [],_,_,h,_=>h
  | (x,n,_)::r,s,e,⟨h0,h1,h2,h3⟩,q=>by
    have hle:=h3.le
    exact ⟨h0,h1,by rw [q s n (Ae _) (by lia)];exact h2,h3.congr fun a m ha hm=>q a m (by lia) hm⟩
theorem Runs.app:∀ {r r':List (Nat×Nat×Nat)} {s e:Nat},Runs C L (r++r') s e↔∃ m,Runs C L r s m/\Runs C L r' m e
  | [],r',s,e=>⟨fun h=>⟨s,rfl,h⟩,fun ⟨m,h1,h2⟩=>by cases h1;exact h2⟩
  | (x,n,_)::r,r',s,e=>by
    constructor
    . rintro ⟨h0,h1,h2,h3⟩
      obtain ⟨m,q1,q2⟩:=Runs.app.mp h3
      exact ⟨m,⟨h0,h1,h2,q1⟩,q2⟩
    . rintro ⟨m,⟨h0,h1,h2,h3⟩,q⟩
      exact ⟨h0,h1,h2,Runs.app.mpr ⟨m,h3,q⟩⟩
structure G (C:Cmp) (L0:List Keyed) (st:SortSt) (lo:Nat):Prop where
 kind:kindOf st=C.kd
 fine:failedOf st=none
 perm:(arrOf st).toList.Perm L0
 runs:Runs C (arrOf st).toList (pendingOf st).toList 0 lo
 le:lo<=(arrOf st).size
theorem GG (off:Nat):∀ (M:List Keyed) (j0:Nat) (arr:Array Keyed),off+j0+M.length<=arr.size->((M.zipIdx j0).foldl (fun a x=>a.setIfInBounds (off+x.2) x.1) arr).toList=arr.toList.take (off+j0)++M++arr.toList.drop (off+j0+M.length)
  | [],j0,arr,h=>by simp
  | m::M,j0,arr,h=>by
    rw [List.zipIdx_cons,List.foldl_cons]
    have h':off+j0 < arr.size:=by simp at h;lia
    rw [GG off M (j0+1) _ (by simp at h ⊢;lia)]
    have e:(arr.setIfInBounds (off+j0) m).toList=arr.toList.take (off+j0)++m::arr.toList.drop (off+j0+1):=by
      rw [Array.toList_setIfInBounds,List.set_eq_take_append_cons_drop,C8 (by simpa using h')]
    have hl:(arr.toList.take (off+j0)).length=off+j0:=by simp;lia
    have t1:(arr.toList.take (off+j0)++m::arr.toList.drop (off+j0+1)).take (off+(j0+1))=arr.toList.take (off+j0)++[m]:=by
      rw [List.take_append,hl,show off+(j0+1) - (off+j0)=1 by lia,Ci (by lia)];simp
    have t2:(arr.toList.take (off+j0)++m::arr.toList.drop (off+j0+1)).drop (off+(j0+1)+M.length)=arr.toList.drop (off+j0+(m::M).length):=by
      rw [List.drop_append,hl,Cn (by lia),show off+(j0+1)+M.length - (off+j0)=M.length+1 by lia]
      simp [Ct]
      congr 1
      lia
    show _=_
    rw [e,t1,t2]
    simp
theorem Qfj (i:Nat):mAt i=(do
  let s <- get
  let (some (sa,na,pw),some (sb,nb,_)):=((pendingOf s)[i]?,(pendingOf s)[i+1]?) | unsupported "internal:list.sort.pending"
  set (setPending s (((pendingOf s).setIfInBounds i (sa,na+nb,pw)).eraseIdxIfInBounds (i+1)))
  let some k <- gal false (<- elem' (arrOf s) sb) (arrOf s) sa na 0 | return false
  let (sa,na):=(sa+k,na - k)
  if na==0 then return true
  let some nb <- gal true (<- elem' (arrOf s) (sa+na - 1)) (arrOf s) sb nb (nb - 1) | return false
  if nb==0 then return true
  let x:=(arrOf s).extract sa sb
  let y:=(arrOf s).extract sb (sb+nb)
  let both <- if na<=nb then mLo x y else mHi x y
  modify fun s=>setArr s (both.toList.zipIdx.foldl (fun a x=>a.setIfInBounds (sa+x.2) x.1) (arrOf s))
  return (failedOf (<- get)).isNone):=rfl
def Qbr (a:Array Keyed) (s n:Nat):(a.extract s (s+n)).toList=seg a.toList s n:=Up a s n
theorem QcP {σ:Type} {s' st:σ} {Q:PUnit->σ->Prop} (h:Q ⟨⟩ s'):W C (set s':StateT σ Sem PUnit) Q st:=by
 show wpS _ _ _ _ _ Q st
 unfold wpS
 rw [StateT.run_set];exact C9 ⟨rfl,h⟩
theorem QeE {L0:List Keyed} {st:SortSt} {lo i:Nat} {Q:Bool->SortSt->Prop} (hS:∀ p∈L0,C.S p) (g:G C L0 st lo) (hi:i+1 < (pendingOf st).size) (h:∀ st',G C L0 st' lo->(pendingOf st').size+1=(pendingOf st).size->(arrOf st').toList.drop lo=(arrOf st).toList.drop lo->Q true st'):W C (mAt i) Q st:=by
 have memS:∀ p∈(arrOf st).toList,C.S p:=fun p U=>hS p (g.perm.mem_iff.mp U)
 have e1:(pendingOf st)[i]?=some (pendingOf st)[i]:=getElem?_pos _ i (by lia)
 have e2:(pendingOf st)[i+1]?=some (pendingOf st)[i+1]:=getElem?_pos _ (i+1) hi
 obtain ⟨⟨sa,na,pw⟩,ea⟩:∃ x,(pendingOf st)[i]=x:=⟨_,rfl⟩
 obtain ⟨⟨sb,nb,pw2⟩,eb⟩:∃ x,(pendingOf st)[i+1]=x:=⟨_,rfl⟩
 rw [ea] at e1
 rw [eb] at e2
 have split:(pendingOf st).toList=(pendingOf st).toList.take i++(sa,na,pw)::(sb,nb,pw2)::(pendingOf st).toList.drop (i+2):=by
  have l1:i < (pendingOf st).toList.length:=by simp;lia
  have l2:i+1 < (pendingOf st).toList.length:=by simpa using hi
  conv=>lhs;rw [<- B0 i (pendingOf st).toList,Bi l1,Bi l2]
  simp [ea,eb]
 have Oz:(((pendingOf st).setIfInBounds i (sa,na+nb,pw)).eraseIdxIfInBounds (i+1)).toList=(pendingOf st).toList.take i++(sa,na+nb,pw)::(pendingOf st).toList.drop (i+2):=by
  have l1:i < (pendingOf st).toList.length:=by simp;lia
  have:∀ (x:Array (Nat×Nat×Nat)) k,(x.eraseIdxIfInBounds k).toList=x.toList.eraseIdx k:=fun x k=>by
   have e:x=x.toList.toArray:=by simp
   conv=>lhs;rw [e,List.eraseIdxIfInBounds_toArray]
  rw [this,Array.toList_setIfInBounds,List.set_eq_take_append_cons_drop,C8 l1]
  have l3:((pendingOf st).toList.take i).length=i:=by simp;lia
  rw [List.eraseIdx_append_of_length_le (by lia),l3,show i+1 - i=1 by lia]
  rw [Bi (by simpa using hi)]
  rfl
 have r:=g.runs
 rw [split] at r
 obtain ⟨m,r1,⟨hsa,hna,sA,hsb,hnb,sB,r2⟩⟩:=Runs.app.mp r
 subst hsa hsb
 have hle:=r2.le
 have hsz:=g.le
 have hlen:(arrOf st).toList.length=(arrOf st).size:=by simp
 have lr1:=r1.le
 generalize hL:(arrOf st).toList=L at *
 have done:∀ (st':SortSt) (M:List Keyed),kindOf st'=kindOf st->failedOf st'=failedOf st->pendingOf st'=((pendingOf st).setIfInBounds i (sa,na+nb,pw)).eraseIdxIfInBounds (i+1)->(arrOf st').toList=L.take sa++M++L.drop (sa+(na+nb))->Srt C M->M.Perm (seg L sa na++seg L (sa+na) nb)->Q true st':=by
  intro st' M q1 q2 q3 q4 q5 q6
  have hM:M.length=na+nb:=by rw [q6.length_eq,An,XQ (by lia),XQ (by lia)]
  have hT:(L.take sa).length=sa:=by simp;lia
  have hOld:=UO L sa (na+nb)
  have hseg:(seg L sa (na+nb)).length=M.length:=by rw [XQ (by lia),hM]
  refine h st' ⟨q1.trans g.kind,q2.trans g.fine,?_,?_,?_⟩ ?_ ?_
  ·rw [q4]
   refine List.Perm.trans ?_ (show L.Perm L0 from hL▸g.perm)
   conv=>rhs;rw [hOld,yn]
   exact List.Perm.append_right _ (List.Perm.append_left _ q6)
  ·rw [q3,Oz,q4]
   refine Runs.app.mpr ⟨sa,r1.congr fun a n ha hn=>?_,rfl,by lia,?_,?_⟩
   ·conv=>rhs;rw [hOld]
    exact Qeb (by rw [hT];lia)
   ·rw [Qea hT.symm hM.symm];exact q5
   ·have r2':Runs C L ((pendingOf st).toList.drop (i+2)) (sa+(na+nb)) lo:=by rw [<- Nat.add_assoc];exact r2
    refine r2'.congr fun a n ha hn=>?_
    conv=>rhs;rw [hOld]
    exact Qco hseg.symm (by rw [hT,hM];lia)
  ·have:(arrOf st').size=(arrOf st).size:=by
    have e:=congrArg List.length q4
    rw [An,An,hM,hT,Bq] at e
    rw [<- Cj,e];lia
   lia
  ·have e:=congrArg List.length Oz
   rw [<- q3] at e
   have e0:=congrArg List.length split
   simp at e e0
   lia
  ·have d:L.drop lo=(L.drop (sa+(na+nb))).drop (lo - (sa+(na+nb))):=by rw [Ct];congr 1;lia
   have hl:(L.take sa++M).length=sa+(na+nb):=by rw [An,hT,hM]
   rw [q4,d,List.drop_append,hl,List.drop_eq_nil_of_le (by rw [hl];lia),List.nil_append]
 rw [Qfj]
 refine Ea (wpS_get ?_)
 simp only [e1,e2]
 refine Ea (QcP ?_)
 have kd:kindOf (setPending st (((pendingOf st).setIfInBounds i (sa,na+nb,pw)).eraseIdxIfInBounds (i+1)))=C.kd:=g.kind
 generalize hst:setPending st (((pendingOf st).setIfInBounds i (sa,na+nb,pw)).eraseIdxIfInBounds (i+1))=st1 at kd
 have h1k:kindOf st1=kindOf st:=by rw [<- hst]
 have h1f:failedOf st1=failedOf st:=by rw [<- hst]
 have h1p:pendingOf st1=((pendingOf st).setIfInBounds i (sa,na+nb,pw)).eraseIdxIfInBounds (i+1):=by rw [<- hst]
 have h1a:arrOf st1=arrOf st:=by rw [<- hst]
 have hbs:sa+na < (arrOf st).size:=by lia
 have sA':Srt C (seg (arrOf st).toList sa na):=by rw [hL];exact sA
 have sB':Srt C (seg (arrOf st).toList (sa+na) nb):=by rw [hL];exact sB
 have memS':∀ p∈(arrOf st).toList,C.S p:=by rw [hL];exact memS
 have b0:∀ y∈seg L (sa+na) nb,C.key (arrOf st)[sa+na]<=C.key y:=fun y hy=>by
  rw [<- hL] at hy
  obtain ⟨t,ht,z,rfl⟩:=qP hy
  have:=KR sB' (by lia) (Be t) ht
  rw [Nat.add_zero,Jo _ hbs,Jo _ z] at this
  exact this
 refine Ea (Zr hbs (Ea (YI (fun t=>!decide (C.key (arrOf st)[sa+na] < kx C (arrOf st) (sa+t))) kd (memS' _ (by simp)) memS' (by lia) (by lia) (fun t _=>rfl) (fun s t h1 h2 h3=>?_) fun k h1 h2 h3=>?_)))
 ·have q:=KR sA' (by lia) h1 h2
  simp only [Cq,decide_eq_false_iff_not] at h3 ⊢
  lia
 dsimp only
 have A1:∀ x∈seg L sa k,C.key x<=C.key (arrOf st)[sa+na]:=fun x hx=>by
  rw [<- hL] at hx
  obtain ⟨t,ht,z,rfl⟩:=qP hx
  have e:=h2 t ht
  simp only [Cq,decide_eq_false_iff_not] at e
  rw [Jo _ z] at e
  lia
 have A2:∀ x∈seg L (sa+k) (na - k),C.key (arrOf st)[sa+na] < C.key x:=fun x hx=>by
  rw [<- hL] at hx
  obtain ⟨t,ht,z,rfl⟩:=qP hx
  have e:=h3 (k+t) (by lia) (by lia)
  simp only [Bool.not_eq_false',decide_eq_true_eq] at e
  rw [<- Nat.add_assoc,Jo _ z] at e
  exact e
 have eA:seg L sa na=seg L sa k++seg L (sa+k) (na - k):=by rw [<- yn,show k+(na - k)=na by lia]
 have same:(arrOf st1).toList=L.take sa++(seg L sa na++seg L (sa+na) nb)++L.drop (sa+(na+nb)):=by
  rw [h1a,hL,<- yn];exact UO L sa (na+nb)
 by_cases hz:na - k=0
 ·rw [C8 (by simpa using hz)]
  have hk':k=na:=by lia
  subst hk'
  exact Eb (done st1 _ h1k h1f h1p same (sA.app sB fun x hx y hy=>Cz (A1 x hx) (b0 y hy)) (List.Perm.refl _))
 rw [C7 (by simpa using hz)]
 have hla:sa+k+(na - k) - 1 < (arrOf st).size:=by lia
 have eidx:sa+k+(na - k) - 1=sa+(na - 1):=by lia
 have kl:∀ x∈seg L sa na,C.key x<=C.key ((arrOf st)[sa+k+(na - k) - 1]'hla):=fun x hx=>by
  rw [<- hL] at hx
  obtain ⟨t,ht,z,rfl⟩:=qP hx
  have e:=KR sA' (by lia) (show t<=na - 1 by lia) (by lia)
  rw [Jo _ z,<- eidx,Jo _ hla] at e
  exact e
 refine Ea (Zr hla (Ea (YI (fun t=>decide (kx C (arrOf st) (sa+na+t) < C.key ((arrOf st)[sa+k+(na - k) - 1]'hla))) kd (memS' _ (by simp)) memS' (by lia) (by lia) (fun t _=>rfl) (fun s t h1 h2 h3=>?_) fun nb' g1 g2 g3=>?_)))
 ·exact Ec (Int.lt_of_le_of_lt (KR sB' (by lia) h1 h2) (Ed h3))
 dsimp only
 generalize hal:C.key ((arrOf st)[sa+k+(na - k) - 1]'hla)=al at kl g2 g3
 have B1:∀ y∈seg L (sa+na) nb',C.key y < al:=fun y hy=>by
  rw [<- hL] at hy
  obtain ⟨t,ht,z,rfl⟩:=qP hy
  have e:=Ed (g2 t ht)
  rwa [Jo _ z] at e
 have B2:∀ y∈seg L (sa+na+nb') (nb - nb'),al<=C.key y:=fun y hy=>by
  rw [<- hL] at hy
  obtain ⟨t,ht,z,rfl⟩:=qP hy
  have e:=of_decide_eq_false (g3 (nb'+t) (by lia) (by lia))
  rw [<- Nat.add_assoc,Jo _ z] at e
  lia
 have eB:seg L (sa+na) nb=seg L (sa+na) nb'++seg L (sa+na+nb') (nb - nb'):=by rw [<- yn,show nb'+(nb - nb')=nb by lia]
 by_cases hz2:nb'=0
 ·rw [C8 (by simpa using hz2)]
  subst hz2
  refine Eb (done st1 _ h1k h1f h1p same (sA.app sB fun x hx y hy=>?_) (List.Perm.refl _))
  exact Cz (kl x hx) (B2 y (by simpa using hy))
 rw [C7 (by simpa using hz2)]
 have ex:((arrOf st).extract (sa+k) (sa+na)).toList=seg L (sa+k) (na - k):=by
  rw [show sa+na=sa+k+(na - k) by lia,Qbr,hL]
 have ey:((arrOf st).extract (sa+na) (sa+na+nb')).toList=seg L (sa+na) nb':=by rw [Qbr,hL]
 have sx:((arrOf st).extract (sa+k) (sa+na)).size=na - k:=by rw [<- Cj,ex,XQ (by lia)]
 have sy:((arrOf st).extract (sa+na) (sa+na+nb')).size=nb':=by rw [<- Cj,ey,XQ (by lia)]
 have sX:Srt C (seg L (sa+k) (na - k)):=by rw [eA] at sA;exact (Bv.mp sA).2.1
 have sY:Srt C (seg L (sa+na) nb'):=by rw [eB] at sB;exact (Bv.mp sB).1
 have sY2:Srt C (seg L (sa+na+nb') (nb - nb')):=by rw [eB] at sB;exact (Bv.mp sB).2.1
 have sA1:Srt C (seg L sa k):=by rw [eA] at sA;exact (Bv.mp sA).1
 have inL:∀ s n,∀ p∈seg L s n,p∈L:=fun s n p U=>Cd (Bx U)
 have T:Two C ((arrOf st).extract (sa+k) (sa+na)) ((arrOf st).extract (sa+na) (sa+na+nb')):=by
  refine ⟨by rw [ex];exact sX,by rw [ey];exact sY,by rw [ex];exact fun p U=>memS p (inL _ _ p U),by rw [ey];exact fun p U=>memS p (inL _ _ p U),by lia,by lia,?_,?_⟩
  ·rw [ex,ey]
   intro y hy x hx
   have:x∈seg L (sa+na) 1:=by
    unfold seg at hx ⊢
    rw [List.take_take] at hx
    rwa [Nat.min_eq_left (by lia)] at hx
   rw [<- hL] at this
   have e:=XH (arrOf st) hbs
   unfold seg at this
   rw [e] at this
   rw [Ar.mp this]
   exact Ck (A2 y hy)
  ·rw [ex,ey,sx]
   intro x hx y hy
   have hx':x∈seg L (sa+k+(na - k) - 1) 1:=by
    unfold seg at hx ⊢
    rw [List.drop_take,Ct,show na - k - (na - k - 1)=1 by lia] at hx
    rwa [show sa+k+(na - k) - 1=sa+k+(na - k - 1) by lia]
   rw [<- hL] at hx'
   have e:=XH (arrOf st) hla
   unfold seg at hx'
   rw [e] at hx'
   rw [Ar.mp hx',hal]
   exact Ck (B1 y hy)
 have fin:∀ (r:Array Keyed) (st2:SortSt),Sm st1 st2->Fin C ((arrOf st).extract (sa+k) (sa+na)).toList ((arrOf st).extract (sa+na) (sa+na+nb')).toList r.toList->W C (do
   modify fun s=>setArr s (r.toList.zipIdx.foldl (fun a x=>a.setIfInBounds (sa+k+x.2) x.1) (arrOf s))
   let __do_lift <- get
   pure (failedOf __do_lift).isNone:StateT SortSt Sem Bool) Q st2:=by
  intro r st2 hs ⟨f1,f2⟩
  rw [ex,ey] at f2
  refine Ea (wpS_modify (Ea (wpS_get ?_)))
  have hf:failedOf (setArr st2 (r.toList.zipIdx.foldl (fun a x=>a.setIfInBounds (sa+k+x.2) x.1) (arrOf st2)))=none:=(hs.2.2.2.trans h1f).trans g.fine
  rw [hf]
  have rl:r.toList.length=na - k+nb':=by rw [f2.length_eq,An,XQ (by lia),XQ (by lia)]
  have a2:arrOf st2=arrOf st:=hs.2.1.trans h1a
  have mem2:∀ x∈r.toList,x∈seg L (sa+k) (na - k)∨x∈seg L (sa+na) nb':=fun x hx=>Ai.mp (f2.mem_iff.mp hx)
  refine Eb (done _ (seg L sa k++r.toList++seg L (sa+na+nb') (nb - nb')) (hs.1.trans h1k) (hs.2.2.2.trans h1f) (hs.2.2.1.trans h1p) ?_ ?_ ?_)
  ·show ((r.toList.zipIdx.foldl (fun a x=>a.setIfInBounds (sa+k+x.2) x.1) (arrOf st2)).toList)=_
   rw [a2,GG (sa+k) r.toList 0 (arrOf st) (by rw [rl];lia),hL,Nat.add_zero,rl]
   have t1:L.take (sa+k)=L.take sa++seg L sa k:=by unfold seg;rw [List.take_add]
   have t2:L.drop (sa+k+(na - k+nb'))=seg L (sa+na+nb') (nb - nb')++L.drop (sa+(na+nb)):=by
    unfold seg
    rw [show sa+k+(na - k+nb')=sa+na+nb' by lia,show L.drop (sa+(na+nb))=(L.drop (sa+na+nb')).drop (nb - nb') by rw [Ct];congr 1;lia,B0]
   rw [t1,t2]
   simp [A8]
  ·refine (sA1.app f1 fun x hx y hy=>?_).app sY2 fun x hx y hy=>?_
   ·rcases mem2 y hy with w | w
    ·exact Cz (A1 x hx) (Ck (A2 y w))
    ·exact Cz (A1 x hx) (b0 y (by rw [eB];exact A7 _ w))
   ·have hy':=B2 y hy
    rcases Ai.mp hx with w | w
    ·exact Cz (A1 x w) (b0 y (by rw [eB];exact Aj _ hy))
    ·rcases mem2 x w with v | v
     ·exact Cz (kl x (by rw [eA];exact Aj _ v)) hy'
     ·exact Ck (Int.lt_of_lt_of_le (B1 x v) hy')
  ·rw [eA,eB]
   have:(seg L sa k++r.toList++seg L (sa+na+nb') (nb - nb')).Perm (seg L sa k++(seg L (sa+k) (na - k)++seg L (sa+na) nb')++seg L (sa+na+nb') (nb - nb')):=List.Perm.append_right _ (List.Perm.append_left _ f2)
   simpa [A8] using this
 by_cases hle2:na - k<=nb'
 ·rw [C8 hle2]
  exact Ea (QgS T kd fun r st2 hs hf=>fin r st2 hs hf)
 ·rw [C7 hle2]
  exact Ea (QgR T kd fun r st2 hs hf=>fin r st2 hs hf)
variable {C:Cmp}
structure Bs (C:Cmp) (st₀ st:SortSt) (lo:Nat):Prop where
 kind:kindOf st=C.kd
 fine:failedOf st=none
 pend:pendingOf st=pendingOf st₀
 perm:(arrOf st).toList.Perm (arrOf st₀).toList
 low:∀ i:Nat,i < lo->(arrOf st)[i]?=(arrOf st₀)[i]?
 mem:∀ p∈(arrOf st₀).toList,C.S p
def SR (C:Cmp) (st:SortSt) (lo n:Nat):Prop:=∀ i j,i<=j->j < n->kx C (arrOf st) (lo+i)<=kx C (arrOf st) (lo+j)
def NI (C:Cmp) (st:SortSt) (lo n:Nat):Prop:=∀ i j,i<=j->j < n->kx C (arrOf st) (lo+j)<=kx C (arrOf st) (lo+i)
section
variable {st₀ st:SortSt} {lo n m:Nat}
theorem Bs.size (b:Bs C st₀ st lo):(arrOf st).size=(arrOf st₀).size:=by have:=b.perm.length_eq;simpa using this
def Bs.ok (b:Bs C st₀ st lo):Ok C st:=⟨b.kind,b.fine,fun p U=>b.mem p (b.perm.mem_iff.mp U)⟩
theorem Bs.set (b:Bs C st₀ st lo) {xs:Array Keyed} (U:xs.Perm (arrOf st)) (hl:∀ i:Nat,i < lo->xs[i]?=(arrOf st)[i]?):Bs C st₀ (setArr st xs) lo :=
 ⟨b.kind,b.fine,b.pend,(Array.perm_iff_toList_perm.mp U).trans b.perm,fun i h=>(hl i h).trans (b.low i h),b.mem⟩
theorem GQ {xs ys:Array Keyed} {i j:Nat} (h:xs[i]?=ys[j]?):kx C xs i=kx C ys j:=by unfold kx;rw [h]
theorem xh {xs:Array Keyed} {i j:Nat} (hj:j<=xs.size) (k:Nat):kx C (mirror xs i j ((j - i) / 2)) k=if i<=k/\k < j then kx C xs (i+j - 1 - k) else kx C xs k:=by
 have e:=getElem?_mirror_all (i:=i) hj k
 split at e<;>rename_i q
 ·rw [C8 q];exact GQ e
 ·rw [C7 q];exact GQ e
theorem Bs.mirror (b:Bs C st₀ st lo) {i j:Nat} (hi:lo<=i) (hj:j<=(arrOf st).size):Bs C st₀ (setArr st (mirror (arrOf st) i j ((j - i) / 2))) lo :=
 b.set (mirror_perm _ _ _ _) fun k hk=>by rw [getElem?_mirror_all hj,C7 (by lia)]
theorem Kw {xs:Array Keyed} {i j:Nat} (hj:j<=xs.size) (he:∀ k,i<=k->k < j->kx C xs k=kx C xs (j - 1)) (k:Nat):kx C (mirror xs i j ((j - i) / 2)) k=kx C xs k:=by
 rw [xh hj]
 split
 ·rename_i q
  rw [he (i+j - 1 - k) (by lia) (by lia),he k q.1 q.2]
 ·rfl
theorem ki {i j:Nat} {Q:Unit->SortSt->Prop} (h:Q () (setArr st (mirror (arrOf st) i j ((j - i) / 2)))):W C (reverseSlice' i j) Q st:=by
 rw [reverseSlice'_eq];exact wpS_modify h
def QcI (lo n nrem:Nat):StateT SortSt Sem (Option Nat):=do
 reverseSlice' lo (lo+n)
 let mut m:=n
 for _ in [n:nrem] do
  let some less <- ltAt' (lo+m) (lo+m - 1) | return none
  if less then break
  m:=m+1
 return some m
theorem kB {nrem:Nat} {Q:Option Nat->SortSt->Prop} (b:Bs C st₀ st lo) (h1:1<=n) (hn:n<=nrem) (hs:lo+nrem<=(arrOf st₀).size) (ni:NI C st lo n) (h:∀ m st',Bs C st₀ st' lo->1<=m->m<=nrem->SR C st' lo m->Q (some m) st'):W C (QcI lo n nrem) Q st:=by
 unfold QcI
 have hz:=b.size
 refine Ea (ki ?_)
 have b1:=b.mirror (i:=lo) (j:=lo+n) (Ae _) (by lia)
 have s1:SR C (setArr st (PyProof.Rows.mirror (arrOf st) lo (lo+n) ((lo+n - lo) / 2))) lo n:=fun i j hij hj=>by
  show kx C (PyProof.Rows.mirror _ _ _ _) _<=kx C (PyProof.Rows.mirror _ _ _ _) _
  rw [xh (by lia),xh (by lia),C8 (by lia),C8 (by lia)]
  have:=ni (n - 1 - j) (n - 1 - i) (by lia) (by lia)
  rw [show lo+(lo+n) - 1 - (lo+i)=lo+(n - 1 - i) by lia,show lo+(lo+n) - 1 - (lo+j)=lo+(n - 1 - j) by lia]
  exact this
 generalize setArr st (PyProof.Rows.mirror (arrOf st) lo (lo+n) ((lo+n - lo) / 2))=st1 at b1 s1 ⊢
 have hz1:=b1.size
 dsimp only
 refine Ea (wpS_mono (wpS_forRange (I:=fun x c st'=>st'=st1/\c=(none,x)/\SR C st1 lo x) (Q:=fun c st'=>st'=st1/\∃ m,c=(none,m)/\1<=m/\m<=nrem/\SR C st1 lo m) ?step ?fin ⟨rfl,rfl,s1⟩) ?post)
 case post =>
  rintro c st' ⟨rfl,m,rfl,q1,q2,q3⟩
  exact Eb (h m _ b1 q1 q2 q3)
 case fin =>
  rintro c st' ⟨rfl,rfl,q⟩
  rw [show max n nrem=nrem by lia] at q ⊢
  exact ⟨rfl,nrem,rfl,by lia,Ae _,q⟩
 case step =>
  rintro x c st' hx hxn ⟨rfl,rfl,q⟩
  dsimp only
  refine Ea (xj b1.ok (by lia) (by lia) ?_)
  by_cases hl:kx C (arrOf st') (lo+x) < kx C (arrOf st') (lo+x - 1)
  ·simp only [hl,decide_true,if_true]
   exact Eb ⟨rfl,x,rfl,by lia,by lia,q⟩
  ·simp only [hl,decide_false,Az,if_false]
   refine Eb ⟨rfl,rfl,fun i j hij hj=>?_⟩
   rcases Bh j x with w | w
   ·exact q i j hij w
   ·have:j=x:=by lia
    subst this
    rcases Bh i j with v | v
    ·have:=q i (j - 1) (by lia) (by lia)
     rw [show lo+(j - 1)=lo+j - 1 by lia] at this
     lia
    ·have:i=j:=by lia
     subst this;exact Bo _
def Qey (lo n0 nrem:Nat):StateT SortSt Sem (Option Nat):=do
 rule "list.sort.descending-run"
 let mut n:=n0+1
 let mut eqs:=0
 for _ in [n:nrem] do
  let some less <- ltAt' (lo+n) (lo+n - 1) | return none
  if less then
   if eqs > 0 then reverseSlice' (lo+n - (eqs+1)) (lo+n)
   eqs:=0
  else
   let some more <- ltAt' (lo+n - 1) (lo+n) | return none
   if more then break
   eqs:=eqs+1
  n:=n+1
 if eqs > 0 then reverseSlice' (lo+n - (eqs+1)) (lo+n)
 QcI lo n nrem
theorem gq {nrem:Nat} {Q:Option Nat->SortSt->Prop} (b:Bs C st₀ st lo) (hn:n+1<=nrem) (hs:lo+nrem<=(arrOf st₀).size) (ni:NI C st lo (n+1)) (h:∀ m st',Bs C st₀ st' lo->1<=m->m<=nrem->SR C st' lo m->Q (some m) st'):W C (Qey lo n nrem) Q st:=by
 unfold Qey
 refine Ea (xq ?_)
 dsimp only
 refine Ea (wpS_mono (wpS_forRange (I:=fun x c st'=>∃ eqs,c=(none,x,eqs)/\Bs C st₀ st' lo/\NI C st' lo x/\eqs+1<=x/\∀ i,x - (eqs+1)<=i->i < x->kx C (arrOf st') (lo+i)=kx C (arrOf st') (lo+x - 1))
  (Q:=fun c st'=>∃ x eqs,c=(none,x,eqs)/\Bs C st₀ st' lo/\NI C st' lo x/\eqs+1<=x/\1<=x/\x<=nrem/\∀ i,x - (eqs+1)<=i->i < x->kx C (arrOf st') (lo+i)=kx C (arrOf st') (lo+x - 1)) ?step ?fin ⟨0,rfl,b,ni,by lia,fun i h1 h2=>by congr 1;lia⟩) ?post)
 case fin =>
  rintro c st' ⟨eqs,rfl,q1,q2,q3,q4⟩
  rw [show max (n+1) nrem=nrem by lia] at q2 q3 q4 ⊢
  exact ⟨nrem,eqs,rfl,q1,q2,q3,by lia,Ae _,q4⟩
 case step =>
  rintro x c st' hx hxn ⟨eqs,rfl,q1,q2,q3,q4⟩
  dsimp only
  have hz:=q1.size
  refine Ea (xj q1.ok (by lia) (by lia) ?_)
  by_cases hl:kx C (arrOf st') (lo+x) < kx C (arrOf st') (lo+x - 1)
  ·simp only [hl,decide_true,if_true]
   have more:∀ ys:Array Keyed,(∀ k,kx C ys k=kx C (arrOf st') k)->∀ i j,i<=j->j < x+1->kx C ys (lo+j)<=kx C ys (lo+i):=fun ys hy i j hij hj=>by
    rw [hy,hy]
    rcases Bh j x with w | w
    ·exact q2 i j hij w
    ·have:j=x:=by lia
     subst this
     rcases Bh i j with v | v
     ·have:=q2 i (j - 1) (by lia) (by lia)
      rw [show lo+(j - 1)=lo+j - 1 by lia] at this
      lia
     ·have:i=j:=by lia
      subst this;exact Bo _
   by_cases he:eqs > 0
   ·rw [C8 he]
    refine Ea (ki (Eb ⟨0,rfl,q1.mirror (by lia) (by lia),more _ (Kw (by lia) fun k h1 h2=>?_),by lia,fun i h1 h2=>by congr 1;lia⟩))
    have e:=q4 (k - lo) (by lia) (by lia)
    rwa [show lo+(k - lo)=k by lia] at e
   ·rw [C7 he]
    exact Eb ⟨0,rfl,q1,more _ fun _=>rfl,by lia,fun i h1 h2=>by congr 1;lia⟩
  ·simp only [hl,decide_false,Az,if_false]
   refine Ea (xj q1.ok (by lia) (by lia) ?_)
   by_cases hm:kx C (arrOf st') (lo+x - 1) < kx C (arrOf st') (lo+x)
   ·simp only [hm,decide_true,if_true]
    exact Eb ⟨x,eqs,rfl,q1,q2,q3,by lia,by lia,q4⟩
   ·simp only [hm,decide_false,Az,if_false]
    have ee:kx C (arrOf st') (lo+x)=kx C (arrOf st') (lo+x - 1):=by lia
    refine Eb ⟨eqs+1,rfl,q1,fun i j hij hj=>?_,by lia,fun i h1 h2=>?_⟩
    ·rcases Bh j x with w | w
     ·exact q2 i j hij w
     ·have:j=x:=by lia
      subst this
      rcases Bh i j with v | v
      ·have:=q2 i (j - 1) (by lia) (by lia)
       rw [show lo+(j - 1)=lo+j - 1 by lia] at this
       lia
      ·have:i=j:=by lia
       subst this;exact Bo _
    ·rw [show lo+(x+1) - 1=lo+x by lia]
     rcases Bh i x with w | w
     ·rw [q4 i (by lia) w,ee]
     ·have:i=x:=by lia
      subst this;rfl
 case post =>
  rintro c st' ⟨x,eqs,rfl,q1,q2,q3,q4,q5,q6⟩
  dsimp only
  have hz:=q1.size
  by_cases he:eqs > 0
  ·rw [C8 he]
   refine Ea (ki (kB (q1.mirror (by lia) (by lia)) q4 q5 hs ?_ h))
   intro i j hij hj
   show kx C (PyProof.Rows.mirror _ _ _ _) _<=kx C (PyProof.Rows.mirror _ _ _ _) _
   have same:=Kw (C:=C) (xs:=arrOf st') (i:=lo+x - (eqs+1)) (j:=lo+x) (by lia) fun k h1 h2=>by
    have e:=q6 (k - lo) (by lia) (by lia)
    rwa [show lo+(k - lo)=k by lia] at e
   rw [same,same]
   exact q2 i j hij hj
  ·rw [C7 he]
   exact kB q1 q4 q5 hs q2 h
theorem vM {nrem:Nat} {Q:Option Nat->SortSt->Prop} (b:Bs C st₀ st lo) (h1:1<=nrem) (hs:lo+nrem<=(arrOf st₀).size) (h:∀ m st',Bs C st₀ st' lo->1<=m->m<=nrem->SR C st' lo m->Q (some m) st'):W C (countRun' lo nrem) Q st:=by
 have hz:=b.size
 rw [countRun'_eq]
 dsimp only
 refine Ea (wpS_mono (wpS_forRange (I:=fun x c st'=>st'=st/\c=(none,x)/\SR C st lo x) (Q:=fun c st'=>st'=st/\∃ m,c=(none,m)/\1<=m/\m<=nrem/\SR C st lo m/\(m=nrem∨kx C (arrOf st) (lo+m) < kx C (arrOf st) (lo+m - 1))) ?step ?fin ⟨rfl,rfl,fun i j hij hj=>(by obtain rfl:i=j:=(by lia);exact Bo _)⟩) ?post)
 case fin =>
  rintro c st' ⟨rfl,rfl,q⟩
  rw [show max 1 nrem=nrem by lia] at q ⊢
  exact ⟨rfl,nrem,rfl,by lia,Ae _,q,.inl rfl⟩
 case step =>
  rintro x c st' hx hxn ⟨rfl,rfl,q⟩
  dsimp only
  refine Ea (xj b.ok (by lia) (by lia) ?_)
  by_cases hl:kx C (arrOf st') (lo+x) < kx C (arrOf st') (lo+x - 1)
  ·simp only [hl,decide_true,if_true]
   exact Eb ⟨rfl,x,rfl,by lia,by lia,q,.inr hl⟩
  ·simp only [hl,decide_false,Az,if_false]
   refine Eb ⟨rfl,rfl,fun i j hij hj=>?_⟩
   rcases Bh j x with w | w
   ·exact q i j hij w
   ·have:j=x:=by lia
    subst this
    rcases Bh i j with v | v
    ·have:=q i (j - 1) (by lia) (by lia)
     rw [show lo+(j - 1)=lo+j - 1 by lia] at this
     lia
    ·have:i=j:=by lia
     subst this;exact Bo _
 case post =>
  rintro c st' ⟨rfl,m,rfl,q1,q2,q3,q4⟩
  dsimp only
  by_cases hm:m=nrem
  ·rw [C8 (by simpa using hm)]
   exact Eb (h m _ b q1 q2 q3)
  ·rw [C7 (by simpa using hm)]
   have lt:=q4.resolve_left hm
   by_cases hg:m > 1
   ·rw [C8 hg]
    refine Ea (xj b.ok (by lia) (by lia) ?_)
    by_cases hr:kx C (arrOf st') lo < kx C (arrOf st') (lo+m - 1)
    ·simp only [hr,decide_true,if_true]
     exact Eb (h m _ b q1 q2 q3)
    ·simp only [hr,decide_false,Az,if_false]
     have all:∀ k,k < m->kx C (arrOf st') (lo+k)=kx C (arrOf st') (lo+m - 1):=fun k hk=>by
      have e1:=q3 0 k (by lia) hk
      have e2:=q3 k (m - 1) (by lia) (by lia)
      rw [show lo+(m - 1)=lo+m - 1 by lia] at e2
      rw [Nat.add_zero] at e1
      lia
     have same:=Kw (C:=C) (xs:=arrOf st') (i:=lo) (j:=lo+m) (by lia) fun k h1 h2=>by
      have e:=all (k - lo) (by lia)
      rwa [show lo+(k - lo)=k by lia] at e
     refine Ea (ki (gq (b.mirror (Ae _) (by lia)) (by lia) hs (fun i j hij hj=>?_) h))
     show kx C (PyProof.Rows.mirror _ _ _ _) _<=kx C (PyProof.Rows.mirror _ _ _ _) _
     rw [same,same]
     rcases Bh j m with w | w
     ·rw [all i (by lia),all j w];exact Bo _
     ·have:j=m:=by lia
      subst this
      rcases Bh i j with v | v
      ·rw [all i v];exact Ck lt
      ·have:i=j:=by lia
       subst this;exact Bo _
   ·rw [C7 hg]
    have:m=1:=by lia
    subst this
    refine gq b (by lia) hs (fun i j hij hj=>?_) h
    rcases Bh i j with v | v
    ·have e1:i=0:=by lia
     have e2:j=1:=by lia
     subst e1 e2
     rw [Nat.add_zero]
     exact Ck lt
    ·have:i=j:=by lia
     subst this;exact Bo _
theorem Qal {xs:Array Keyed} {src d:Nat} (hs:src < xs.size) (hd:d<=src) (k:Nat):kx C (bubble xs src d) k=if k=src - d then kx C xs src else if src - d < k/\k<=src then kx C xs (k - 1) else kx C xs k:=by
 have e:=getElem?_bubble hs d hd k
 split at e<;>rename_i q
 ·rw [C8 q];exact GQ e
 ·rw [C7 q]
  split at e<;>rename_i q2
  ·rw [C8 q2];exact GQ e
  ·rw [C7 q2];exact GQ e
theorem Qa4 {ok:Nat} {Q:Bool->SortSt->Prop} (b:Bs C st₀ st lo) (h1:1<=ok) (hn:ok<=n) (hs:lo+n<=(arrOf st₀).size) (sr:SR C st lo ok) (h:∀ st',Bs C st₀ st' lo->SR C st' lo n->Q true st'):W C (binarySort' lo n ok) Q st:=by
 rw [binarySort'_eq]
 refine Ea (wpS_mono (wpS_forRange (I:=fun k c st'=>c=(none,())/\Bs C st₀ st' lo/\SR C st' lo (min k n)) (Q:=fun c st'=>c=(none,())/\Bs C st₀ st' lo/\SR C st' lo n) ?step ?fin ?init) ?post)
 case post =>
  rintro c st' ⟨rfl,q1,q2⟩
  exact Eb (h st' q1 q2)
 case init=>exact ⟨rfl,b,fun i j hij hj=>sr i j hij (by lia)⟩
 case fin =>
  rintro c st' ⟨e,q1,q2⟩
  refine ⟨e,q1,?_⟩
  rwa [show min (max (max ok 1) n) n=n by lia] at q2
 case step =>
  rintro k c st' hk hkn ⟨rfl,q1,q2⟩
  rw [show min k n=k by lia] at q2
  have hz:=q1.size
  refine Ea (wpS_mono (wpS_forRange (I:=fun x c st''=>st''=st'/\∃ l r,c=(none,l,r)/\l<=r/\r<=k/\r - l<=k - x/\(∀ i,i < l->kx C (arrOf st') (lo+i)<=kx C (arrOf st') (lo+k))/\(∀ i,r<=i->i < k->kx C (arrOf st') (lo+k) < kx C (arrOf st') (lo+i)))
   (Q:=fun c st''=>st''=st'/\∃ l r,c=(none,l,r)/\l<=k/\(∀ i,i < l->kx C (arrOf st') (lo+i)<=kx C (arrOf st') (lo+k))/\(∀ i,l<=i->i < k->kx C (arrOf st') (lo+k) < kx C (arrOf st') (lo+i))) ?st2 ?fi2 ⟨rfl,0,k,rfl,by lia,by lia,by lia,(fun i hi=>by lia),fun i h1 h2=>by lia⟩) ?po2)
  case fi2 =>
   rintro c st'' ⟨rfl,l,r,rfl,g1,g2,g3,g4,g5⟩
   have:l=r:=by lia
   subst this
   exact ⟨rfl,l,l,rfl,g2,g4,g5⟩
  case st2 =>
   rintro x c st'' _ hx ⟨rfl,l,r,rfl,g1,g2,g3,g4,g5⟩
   dsimp only
   by_cases hlr:l≥r
   ·rw [C8 hlr]
    have:l=r:=by lia
    subst this
    exact Eb ⟨rfl,l,l,rfl,g2,g4,g5⟩
   ·rw [C7 hlr]
    refine Ea (xj q1.ok (by lia) (by lia) ?_)
    by_cases hl:kx C (arrOf st'') (lo+k) < kx C (arrOf st'') (lo+(l+r) / 2)
    ·simp only [hl,decide_true,if_true]
     exact Eb ⟨rfl,l,(l+r) / 2,rfl,by lia,by lia,by lia,g4,fun i u1 u2=>Int.lt_of_lt_of_le hl (q2 _ _ u1 u2)⟩
    ·simp only [hl,decide_false,Az,if_false]
     exact Eb ⟨rfl,(l+r) / 2+1,r,rfl,by lia,by lia,by lia,(fun i u1=>Cz (q2 i ((l+r) / 2) (by lia) (by lia)) (Int.not_lt.mp hl)),g5⟩
  case po2 =>
   rintro c st'' ⟨rfl,l,r,rfl,g1,g2,g3⟩
   show W C (do moveDown' (lo+k) (lo+l);pure (ForInStep.yield (none,()))) _ _
   rw [moveDown'_eq]
   have hks:lo+k < (arrOf st'').size:=by lia
   refine Ea (wpS_modify (Eb ⟨rfl,q1.set (bubble_perm _ _ _) (fun i hi=>?_),?_⟩))
   ·rw [getElem?_bubble hks _ (by lia),C7 (by lia),C7 (by lia)]
   rw [show min (k+1) n=k+1 by lia]
   intro i j hij hj
   show kx C (bubble (arrOf st'') (lo+k) (lo+k - (lo+l))) (lo+i)<=kx C (bubble (arrOf st'') (lo+k) (lo+k - (lo+l))) (lo+j)
   have val:∀ i,i<=k->kx C (bubble (arrOf st'') (lo+k) (lo+k - (lo+l))) (lo+i)=if i=l then kx C (arrOf st'') (lo+k) else if l < i then kx C (arrOf st'') (lo+(i - 1)) else kx C (arrOf st'') (lo+i):=fun i hi=>by
    rw [Qal hks (by lia)]
    by_cases e1:i=l
    ·rw [C8 (by lia),C8 e1]
    ·rw [C7 (by lia),C7 e1]
     by_cases e2:l < i
     ·rw [C8 (by lia),C8 e2,show lo+i - 1=lo+(i - 1) by lia]
     ·rw [C7 (by lia),C7 e2]
   rw [val i (by lia),val j (by lia)]
   by_cases i1:i=l
   ·rw [C8 i1]
    by_cases j1:j=l
    ·rw [C8 j1];exact Bo _
    ·rw [C7 j1,C8 (by lia)]
     exact Ck (g3 (j - 1) (by lia) (by lia))
   ·rw [C7 i1]
    by_cases i2:l < i
    ·rw [C8 i2,C7 (by lia),C8 (by lia)]
     exact q2 _ _ (by lia) (by lia)
    ·rw [C7 i2]
     by_cases j1:j=l
     ·rw [C8 j1];exact g2 i (by lia)
     ·rw [C7 j1]
      by_cases j2:l < j
      ·rw [C8 j2];exact q2 _ _ (by lia) (by lia)
      ·rw [C7 j2];exact q2 _ _ (by lia) (by lia)
end
end TS
open PySem PyProof PyProof.Rows
namespace TS
variable {C:Cmp}
theorem QaJ {L L':List Keyed} {lo a n:Nat} (h:∀ i:Nat,i < lo->L'[i]?=L[i]?) (hl:a+n<=lo):seg L' a n=seg L a n:=by
 apply List.ext_getElem?
 intro i
 unfold seg
 by_cases hi:i < n
 ·rw [Ca hi,Ca hi,Cc,Cc];exact h _ (by lia)
 ·rw [List.getElem?_eq_none (by simp;lia),List.getElem?_eq_none (by simp;lia)]
theorem Bs.g {L0:List Keyed} {st₀ st:SortSt} {lo:Nat} (b:Bs C st₀ st lo) (g:G C L0 st₀ lo):G C L0 st lo:=by
 refine ⟨b.kind,b.fine,b.perm.trans g.perm,?_,by have:=b.size;have:=g.le;lia⟩
 rw [b.pend]
 refine g.runs.congr fun a n _ hn=>QaJ (lo:=lo) (fun i hi=>?_) hn
 have:=b.low i hi
 simpa using this
theorem Qcp {L L':List Keyed} {lo n:Nat} (h:L'.drop lo=L.drop lo):seg L' lo n=seg L lo n:=by unfold seg;rw [h]
theorem Runs.pw {pw:Nat}:∀ {r:List (Nat×Nat×Nat)} {s e:Nat} (k:Nat),Runs C L r s e->Runs C L (r.modify k fun (a,b,_)=>(a,b,pw)) s e
 | [],_,_,k,h=>by simpa using h
 | (x,n,_)::r,s,e,0,⟨h0,h1,h2,h3⟩=>⟨h0,h1,h2,h3⟩
 | (x,n,_)::r,s,e,k+1,⟨h0,h1,h2,h3⟩=>⟨h0,h1,h2,h3.pw k⟩
theorem G.pw {L0:List Keyed} {st:SortSt} {lo pw:Nat} (g:G C L0 st lo):G C L0 (setPending st ((pendingOf st).modify ((pendingOf st).size - 1) fun (st,len,_)=>(st,len,pw))) lo:=by
 refine ⟨g.kind,g.fine,g.perm,?_,g.le⟩
 show Runs C (arrOf st).toList ((pendingOf st).modify _ _).toList 0 lo
 rw [Array.toList_modify]
 exact g.runs.pw _
theorem G.push {L0:List Keyed} {st:SortSt} {lo n:Nat} (g:G C L0 st lo) (h1:1<=n) (hn:lo+n<=(arrOf st).size) (hs:Srt C (seg (arrOf st).toList lo n)):G C L0 (setPending st ((pendingOf st).push (lo,n,0))) (lo+n):=by
 refine ⟨g.kind,g.fine,g.perm,?_,hn⟩
 show Runs C (arrOf st).toList ((pendingOf st).push (lo,n,0)).toList 0 (lo+n)
 rw [Array.toList_push]
 exact Runs.app.mpr ⟨lo,g.runs,rfl,h1,hs,rfl⟩
theorem G.size {L0:List Keyed} {st:SortSt} {lo:Nat} (g:G C L0 st lo):(arrOf st).size=L0.length:=by have:=g.perm.length_eq;simpa using this
theorem Qci {L:List Keyed} {r:List (Nat×Nat×Nat)} {e:Nat} (h:Runs C L r 0 e) (hr:r.length<=1):Srt C (L.take e):=by
  match r,hr,h with
  | [],_,h=>cases h;simp [Srt]
  | [(x,n,_)],_,⟨_,_,h2,h3⟩ => 
    have:0+n=e:=h3
    subst this
    simpa [seg] using h2
theorem Qdo (b:Bool) (k:Nat):(if b=true then k - 1 else k)<=k:=by cases b<;>simp
theorem uJ {L0:List Keyed} {st:SortSt} {Q:Unit->SortSt->Prop} (hS:∀ p∈L0,C.S p) (g0:G C L0 st 0) (h:∀ st',failedOf st'=none->(arrOf st').toList.Perm L0->Srt C (arrOf st').toList->Q () st'):W C sortRuns' Q st:=by
  rw [sortRuns'_eq]
  refine Ea (wpS_get ?_)
  dsimp only
  rw [g0.size]
  generalize hm:minRun' L0.length L0.length 0=minrun
  generalize hsz:L0.length=size
  refine Ea (wpS_mono (wpS_forRange
    (I:=fun x c st'=>∃ lo,c=(none,lo)/\G C L0 st' lo/\min x size<=lo)
    (Q:=fun c st'=>c=(none,size)/\G C L0 st' size) ?step ?fin ⟨0,rfl,g0,by lia⟩) ?post)
  case fin =>
    rintro c st' ⟨lo,rfl,g,q⟩
    have a:=g.le
    have b:=g.size
    obtain rfl:lo=size:=by lia
    exact ⟨rfl,g⟩
  case step =>
    rintro x c st' _ hx ⟨lo,rfl,g,q⟩
    dsimp only
    have hz:=g.size
    have hle:=g.le
    by_cases hlo:lo≥size
    . rw [C8 hlo]
      obtain rfl:lo=size:=by lia
      exact Eb ⟨rfl,g⟩
    rw [C7 hlo]
    have b0:Bs C st' st' lo:=⟨g.kind,g.fine,rfl,List.Perm.refl _,fun _ _=>rfl,fun p U=>hS p (g.perm.mem_iff.mp U)⟩
    refine Ea (vM b0 (by lia) (by lia) fun m st1 b1 hm1 hm2 sr1=>?_)
    dsimp only
    by_cases hlt:m < minrun
    rw [C8 hlt]
    refine Ea (xq ?_)
    refine Ea (Qa4 b1 hm1 (n:=min (size - lo) minrun) (by lia) (by lia) sr1 fun st2 b sr=>?_)
    simp only [Bool.not_true,Az,if_false]
    have hn1:1<=min (size - lo) minrun:=by lia
    have hn2:lo+min (size - lo) minrun<=size:=by lia
    generalize min (size - lo) minrun=n at hn1 hn2 sr ⊢
    rotate_left
    rw [C7 hlt]
    have hn2:lo+m<=size:=by lia
    have hn1:=hm1
    have b:=b1
    have sr:=sr1
    clear sr1 b1 hm1 hm2 hlt
    generalize m=n at hn1 hn2 sr ⊢
    generalize st1=st2 at b sr ⊢
    all_goals
      have g2:=b.g g
      have hz2:=g2.size
      have hseg:Srt C (seg (arrOf st2).toList lo n):=Qeh (by lia) sr
      refine Ea (wpS_get ?_)
      cases hb:(pendingOf st2).back? with
      | none =>
        dsimp only
        exact Ea (wpS_modify (Eb ⟨lo+n,rfl,g2.push hn1 (by lia) hseg,by lia⟩))
      | some v =>
        obtain ⟨s1,n1,pw0⟩:=v
        dsimp only
        generalize power' size (2 * s1+n1) (2 * s1+n1+n1+n) size=pw
        refine Ea (wpS_mono (wpS_forRange (I:=fun _ c st'=>c=(none,())/\G C L0 st' lo/\(arrOf st').toList.drop lo=(arrOf st2).toList.drop lo) (Q:=fun c st'=>c=(none,())/\G C L0 st' lo/\(arrOf st').toList.drop lo=(arrOf st2).toList.drop lo) ?_ (fun _ _ hh=>hh) ⟨rfl,g2,rfl⟩) ?_)
        . rintro y c st3 _ hy ⟨rfl,g3,t3⟩
          refine Ea (wpS_get ?_)
          by_cases h1:(pendingOf st3).size > 1
          . rw [C8 h1,getElem?_pos (pendingOf st3) ((pendingOf st3).size - 2) (by lia)]
            obtain ⟨⟨q1,q2,older⟩,eo⟩:∃ x,(pendingOf st3)[(pendingOf st3).size - 2]'(by omega)=x:=⟨_,rfl⟩
            rw [eo]
            dsimp only
            by_cases ho:older<=pw
            . rw [C8 ho]
              exact Eb ⟨rfl,g3,t3⟩
            . rw [C7 ho]
              refine Ea (QeE hS g3 (by lia) fun st4 g4 _ t4=>?_)
              simp only [Bool.not_true,Az,if_false]
              exact Eb ⟨rfl,g4,t4.trans t3⟩
          . rw [C7 h1]
            exact Eb ⟨rfl,g3,t3⟩
        . rintro c st3 ⟨rfl,g3,t3⟩
          dsimp only
          have hz3:=g3.size
          refine Ea (wpS_modify (Ea (wpS_modify (Eb ⟨lo+n,rfl,G.push g3.pw hn1 (by show lo+n<=(arrOf st3).size;lia) ?_,by lia⟩))))
          show Srt C (seg (arrOf st3).toList lo n)
          rw [Qcp t3];exact hseg
  case post =>
    rintro c st' ⟨rfl,g⟩
    dsimp only
    have hz:=g.size
    have hrl:=g.runs.le
    have hpl:(pendingOf st').toList.length=(pendingOf st').size:=by simp
    refine Ea (wpS_mono (wpS_forRange (I:=fun x c st''=>c=(none,())/\G C L0 st'' size/\(pendingOf st'').size+x<=size) (Q:=fun c st''=>c=(none,())/\G C L0 st'' size/\(pendingOf st'').size<=1) ?_ ?_ ⟨rfl,g,by lia⟩) ?_)
    . rintro x c st2 _ hx ⟨rfl,g2,U⟩
      refine Ea (wpS_get ?_)
      by_cases h1:(pendingOf st2).size<=1
      . rw [C8 h1]
        exact Eb ⟨rfl,g2,h1⟩
      . rw [C7 h1]
        generalize hi:(if Option.any (fun x=>decide (x < Option.elim (pendingOf st2)[(pendingOf st2).size - 2+1]? 0 fun x=>x.2.1)) (if (pendingOf st2).size - 2 > 0 then Option.map (fun x=>x.2.1) (pendingOf st2)[(pendingOf st2).size - 2 - 1]? else none)=true then (pendingOf st2).size - 2 - 1 else (pendingOf st2).size - 2)=i
        have hi2:i<=(pendingOf st2).size - 2:=by rw [<- hi];exact Qdo _ _
        refine Ea (QeE hS g2 (by lia) fun st3 g3 hq _=>?_)
        simp only [Bool.not_true,Az,if_false]
        exact Eb ⟨rfl,g3,by lia⟩
    . rintro c st2 ⟨rfl,g2,U⟩
      exact ⟨rfl,g2,by lia⟩
    . rintro c st2 ⟨rfl,g2,U⟩
      have hz2:=g2.size
      have s2:=Qci g2.runs (by simpa using U)
      rw [Ci (by simp;lia)] at s2
      exact Eb (h st2 g2.fine g2.perm s2)
open PySem PyProof PyProof.Rows
section
variable {prog:Program} {w:World} {A:Around} {E:Eg} {s:Shared}
def CI (prog:Program) (w:World) (A:Around) (E:Eg) (s:Shared):Cmp where
 key p:=numOf p.1
 kd:=oneType'
 S p:=∃ n t,p.1=.int n t
 prog:=prog
 w:=w
 A:=A
 E:=E
 s:=s
 lt:=by
  rintro st ⟨_,p⟩ ⟨_,q⟩ Q ⟨n,t,rfl⟩ ⟨k,u,rfl⟩ hk h
  rw [lt'_eq]
  refine Ea (wpS_get ?_)
  rw [hk]
  exact Ea (wpS_lift (wpAny_attempt (keyLt'_oneType _ _▸oneLt_int ⟨rfl,Eb h⟩)))
theorem QgN (xs:Array Keyed) (i:Nat):kx (CI prog w A E s) xs i=K xs i:=by
 unfold kx K
 cases xs[i]?<;>rfl
theorem QaG {vs:List Value} {ns:List Int} (hI:IntsAre vs ns):wpAny (model prog w) A (sortRuns'.run (SortSt.mk' oneType' (vs.toArray.zip vs.toArray) #[] 7 none)) (fun r s'=>s'=s/\failedOf r.2=none/\(arrOf r.2).Perm (pairsOf vs)/\SortedTo (arrOf r.2) (pairsOf vs).size) E s:=by
 have q:W (CI prog w A E s) sortRuns' (fun _ st'=>failedOf st'=none/\(arrOf st').Perm (pairsOf vs)/\SortedTo (arrOf st') (pairsOf vs).size) (SortSt.mk' oneType' (vs.toArray.zip vs.toArray) #[] 7 none):=by
  refine uJ (L0:=(pairsOf vs).toList) (fun p U=>hI.intKeys p U) ⟨rfl,rfl,List.Perm.refl _,rfl,Be _⟩ fun st' a1 a2 a3=>?_
  have pm:(arrOf st').Perm (pairsOf vs):=Array.perm_iff_toList_perm.mpr a2
  refine ⟨a1,pm,fun i j hij hj=>?_⟩
  have e:=Vy a3 hij (by rw [pm.size_eq];exact hj)
  rwa [QgN,QgN] at e
 exact q
def Keeps (h h':Heap) (a:Addr):Prop:=∀ b o,b≠a->h.get? b=some o->h'.get? b=some o
theorem Keeps.upd (h:Heap) (a:Addr) (f:Obj->Obj):Keeps h (h.update a f) a:=fun b o hb e=>by
 rw [Heap.get?_update_ne _ _ _ _ hb];exact e
theorem QaN {a:Addr} {vs:List Value} {ns:List Int} {n:Nat} {P:PySem.Fin->Shared->Prop} (ho:s.heap.get? a=some (seqObj "list" vs.toArray n)) (hI:IntsAre vs ns) (hz:vs.length<=sizeLine)
  (h:∀ (h':Heap) (out:List Value) (ns':List Int) (c:Nat),Keeps s.heap h' a->h'.get? a=some (seqObj "list" out.toArray c)->IntsAre out ns'->ns'.Perm ns->ns'.Pairwise (· <= ·)->P (.done (.ret .none)) { s with heap:=h' }) :
  wpAny (model prog w) A (Builtin.«list.sort» ⟨[.ref a],[]⟩) P E s:=by
 have k1:=Keeps.upd s.heap a (Obj.mapSeq fun _=>#[])
 obtain ⟨c1,g1⟩:∃ c1,(s.heap.update a (Obj.mapSeq fun _=>#[])).get? a=some (seqObj "list" #[] c1):=⟨_,get?_update_seq ho (fun _=>#[])⟩
 generalize hh1:s.heap.update a (Obj.mapSeq fun _=>#[])=H1 at k1 g1
 have g3:=Ad (seqObj "list" #[] 0) (Ad (seqObj "tuple" vs.toArray 0) g1)
 have k3:Keeps s.heap ((H1.push (seqObj "tuple" vs.toArray 0)).push (seqObj "list" #[] 0)) a:=fun b o hb e=>Ad _ (Ad _ (k1 b o hb e))
 have hsz:vs.toArray.size=vs.length:=by simp
 have fin:∀ st':SortSt,failedOf st'=none->(arrOf st').Perm (pairsOf vs)->SortedTo (arrOf st') (pairsOf vs).size->wpAny (model prog w) A (do
   let touched:=(<- seqEpoch a) != c1
   Builtin.List.listUpdate (.ref a) fun _=>(arrOf st').map (·.2)
   if let some e:=failedOf st' then rule "list.sort.comparison-raised"; throw e
   if touched then rule "list.sort.modified"; raiseError "ValueError" "list modified during sort"
   ret .none) P E { s with heap:=(H1.push (seqObj "tuple" vs.toArray 0)).push (seqObj "list" #[] 0) }:=by
  intro st' f1 f2 f3
  obtain ⟨ns',o1,o2,o3⟩:=sorted_out hI f2 f3
  refine C6 (seqEpoch_at g3 rfl ?_)
  have oz:((arrOf st').map (·.2)).size<=sizeLine+1:=by rw [Array.size_map,f2.size_eq,pairsOf_size];lia
  refine C6 (listUpdate_at g3 rfl ?_ (Be _) oz)
  rw [f1]
  simp only [bne_self_eq_false,Az,if_false]
  obtain ⟨c2,e⟩:∃ c2,(((H1.push (seqObj "tuple" vs.toArray 0)).push (seqObj "list" #[] 0)).update a (Obj.mapSeq fun _=>(arrOf st').map (·.2))).get? a=some (seqObj "list" ((arrOf st').map (·.2)) c2):=⟨_,get?_update_seq g3 fun _=>(arrOf st').map (·.2)⟩
  refine C9 (h _ ((arrOf st').map (·.2)).toList ns' c2 (fun b o hb e=>Keeps.upd _ a _ b o hb (k3 b o hb e)) ?_ o1 o2 o3)
  rw [Array.toArray_toList];exact e
 rw [list_sort_plain]
 refine C6 (listItems_at ho rfl (C6 (listUpdate_at ho rfl ?_ (by rw [hsz];exact hz) (Be _))))
 rw [hh1]
 refine C6 (seqEpoch_at g1 rfl (C6 (wpAny_newTuple ?_ (by simpa using hz))))
 refine C6 (wpAny_newList (wpAny_holding ?_) (Be _))
 show wpAny (model prog w) A _ P E { s with heap:=(H1.push (seqObj "tuple" vs.toArray 0)).push (seqObj "list" #[] 0) }
 dsimp only
 by_cases h2:vs.toArray.size < 2
 ·rw [C8 h2,C8 h2]
  refine C6 (C9 ?_)
  rw [StateT.run_pure]
  refine C6 (C9 (fin (SortSt.mk' general' (vs.toArray.zip vs.toArray) #[] 7 none) rfl (Array.Perm.refl _) fun i j hij hj=>?_))
  obtain rfl:i=j:=by rw [pairsOf_size] at hj;lia
  exact Bo _
 ·rw [C7 h2,C7 h2]
  have kk:keyKind' vs.toArray=pure oneType':=by
   match vs,hI,h2 with
   | [],_,h2=>simp at h2
   | [_],_,h2=>simp at h2
   | _::_::_,hI,_=>exact keyKind_ints hI
  rw [kk]
  refine C6 (C9 (C6 (wpAny_mono (QaG hI) ?_ fun _ _ e=>e)))
  rintro ⟨⟨⟩,st'⟩ s' ⟨rfl,f1,f2,f3⟩
  exact fin st' f1 f2 f3
theorem sorted_of {x:Value} {ns:List Int} {Q:Eg}
  (hc:∀ (R:List Value->Shared->Prop),(∀ (h':Heap) (tk:Nat) (vs:List Value),IntsAre vs ns->vs.length<=sizeLine->(∀ b o,s.heap.get? b=some o->h'.get? b=some o)->R vs { s with heap:=h',toks:=tk })->wpAny (model prog w) A.in1 (collect x) R E s)
  (h:∀ (h1 h':Heap) (tk:Nat) (out:List Value) (ns':List Int) (c:Nat),(∀ b o,s.heap.get? b=some o->h1.get? b=some o)->(∀ b o,h1.get? b=some o->h'.get? b=some o)->h'.get? h1.objs.size=some (seqObj "list" out.toArray c)->IntsAre out ns'->ns'.Perm ns->ns'.Pairwise (· <= ·)->Q (.ref h1.objs.size) { s with heap:=h',toks:=tk }) :
  wpAny (model prog w) A (call (.builtin "sorted") [x]) Q E s:=by
 refine Calls.call_function_entry kind_sorted plain_sorted entry_sorted (args_sorted1 _) ?_
 unfold Builtin.«sorted»
 refine C6 (m:=checkCount "sorted" 1 1 _) (C9 (C6 (hc _ fun h1 tk vs hI hz k1=>?_)))
 refine C6 (wpAny_newList ?_ hz)
 have g:(h1.push (seqObj "list" vs.toArray 0)).get? h1.objs.size=some (seqObj "list" vs.toArray 0):=Av _ rfl
 refine C6 (wpAny_holding (wpAny_call_entry slot_list_sort ⟨_,g,rfl⟩ entry_list_sort (QaN g hI hz fun h2 out ns' c k2 g2 o1 o2 o3=>⟨_,rfl,?_⟩) (args_list_sort _)))
 refine C9 ⟨_,rfl,h h1 h2 tk out ns' c k1 (fun b o e=>k2 b o (Bf (Ap e)) (Ad _ e)) g2 o1 o2 o3⟩
end
end TS
namespace D
open PySem PySem.Spec PyProof.Rows L2
variable {X:Cx}
def srt (ns:List Int):List Int:=ns.mergeSort (fun a b=>decide (a<=b))
def vi (ns:List Int):(srt ns).Perm ns:=List.mergeSort_perm _ _
theorem uK (ns:List Int):(srt ns).Pairwise (· <= ·):=by
 have:=List.pairwise_mergeSort (le:=fun a b:Int=>decide (a<=b)) (fun a b c h1 h2=>by simp at *;lia) (fun a b=>by simp;lia) ns
 exact this.imp fun h=>by simpa using h
theorem Vz {ns ms:List Int} (p:ms.Perm ns) (h:ms.Pairwise (· <= ·)):ms=srt ns :=
 (p.trans (vi ns).symm).eq_of_pairwise (fun a b _ _ h1 h2=>Int.le_antisymm h1 h2) h (uK ns)
theorem Us:∀ {ns:List Int} {us:List Value},Vals (ns.map V.int) us->IntsAre us ns
 | [],_,.nil=>.nil
 | n::ns,_,.cons ⟨t,e⟩ r=>by subst e;exact .cons n t (Us r)
theorem YU:∀ {us:List Value} {ns:List Int},IntsAre us ns->Vals (ns.map V.int) us
 | _,_,.nil=>.nil
 | _,_,.cons n t r=>.cons ⟨t,rfl⟩ (YU r)
theorem gF:∀ {us:List Value} {ns:List Int},us.length=ns.length->(∀ (j:Nat) (u:Value) (n:Int),us[j]?=some u->ns[j]?=some n->∃ t,u=.int n t)->IntsAre us ns
  | [],[],_,_=>.nil
  | u::us,n::ns,hl,h=>by
    obtain ⟨t,rfl⟩:=h 0 u n rfl rfl
    exact .cons n t (gF (by simpa using hl) fun j u n a b=>h (j+1) u n a b)
theorem gK:∀ {kvs:List (Key×V)} {vs:List (Key×Value)},KV kvs vs->vs.map (·.1)=kvs.map (·.1)
 | _,_,.nil=>rfl
 | _,_,.cons a b=>by rw [Bb,Bb,gK b,a.1]
def QaW (K:Aa) (H:Hp) (p:Addr) (ns:List Int):Prop:=SqL K H p (ns.map .int)∨∃ kvs:List (Key×V),H p=some (.dK kvs)/\kvs.map (·.1)=ns.map .inl
theorem Gg (hc:X.calm=true):CallR X (.builtin "sorted") (fun xs H Q=>∃ p ns,xs=[.ref p]/\QaW X.K H p ns/\∀ l,H l=none->Q (.ref l) (upd H l (.lst ((srt ns).map .int)))):=by
 intro O9 s σ H xs us Q I r h
 obtain ⟨p,ns,rfl,hq,q⟩:=h
 have hh:X.A.handled=none:=I.ok.hd hc
 obtain ⟨u,rfl,rx⟩:=VF r
 cases rx
 have hz:ns.length<=sizeLine:=by
  rcases hq with hq | ⟨kvs,hq,e⟩
  ·have:=(I.list hq).choose_spec.2.2;simpa using this
  ·have a:=(Uj I.hok hq).1
   have b:=congrArg List.length e
   simp at b;lia
 refine TS.sorted_of (ns:=ns) (fun R hR=>?_) fun h1 h' tk out ns' c k1 k2 g o1 o2 o3=>?_
 ·rcases hq with hq | ⟨kvs,hq,e⟩
  ·obtain ⟨its,r',pl,z⟩:=I.list hq
   have hI:=Us r'
   have hl:its.length=ns.length:=by have:=r'.length;simpa using this.symm
   have R1:=hR ((s.heap.push (seqObj "list" #[] 0)).update s.heap.objs.size (Obj.mapSeq (· ++ its.toArray))) s.toks its hI (by lia) fun b o e=>by
    have hlt:b < s.heap.objs.size:=Ap e
    rw [Heap.get?_update_ne _ _ _ _ (Bf hlt)];exact Ad _ e
   exact collect_list pl.isList R1 (by lia)
  ·obtain ⟨_,lo,vs,kv,hd⟩:=Uj I.hok hq
   obtain ⟨ep,hat⟩:=hd.dictAt
   have kl:vs.map (·.1)=ns.map Sum.inl:=(gK kv).trans e
   have hvl:vs.length=ns.length:=by have:=congrArg List.length kl;simpa using this
   refine PySem.W.kdu_collect (PySem.W.kdl_dict (knd:=ZD X.prog X.w) (kvs:=vs) (ep:=ep) lo) hh hat (by lia) fun h1 tk acc k1 it=>hR h1 tk acc.toList (gF ?_ fun j u n a b=>?_) ?_ k1
   ·rw [Cj,it.1,hvl]
   ·obtain ⟨k,x,e1,e2⟩:=it.2 j u (by simpa using a)
    have:k=Sum.inl n:=by
     have e3:=congrArg (fun l=>l[j]?) kl
     simp [e1,b] at e3
     exact e3
    subst this
    rcases ZP (show yO (Sum.inl n) u=true from e2) with ⟨i,t,h1,h2⟩ | ⟨_,_,h1,_⟩
    ·cases h1;exact ⟨t,h2⟩
    ·cases h1
   ·rw [Cj,it.1];lia
 ·obtain rfl:=Vz o2 o3
  have I1:Inv X O9 σ H { s with heap:=h1,toks:=tk }:=I.kept k1
  have hlen:(srt ns).length<=sizeLine:=by rw [(vi ns).length_eq];exact hz
  exact ⟨.ref h1.objs.size,_,I1.laid (t':=tk) k2 (Ae _) (show ObjOk X.prog X.w _ h' _ (.lst ((srt ns).map .int)) from ⟨by simpa using hlen,out,c,YU o1,g⟩),rfl,q _ (I1.hok.fresh (Ae _))⟩
def Uh:List DV->Option (List Int)
 | []=>some []
 | .int n::r=>(Uh r).map (n :: ·)
 | _=>none
def ju:List (Key×DV)->Option (List Int)
 | []=>some []
 | (.inl n,_)::r=>(ju r).map (n :: ·)
 | _=>none
def uq {α:Type}:Option α->M α
 | some d=>pure d
 | none=>failure
theorem xo {α:Type} {o:Option α} {d:α} {U hp':Hs} (h:uq o U=some (d,hp')):o=some d/\U=hp':=by
 cases o with
 | none=>cases h
 | some x=>obtain ⟨rfl,rfl⟩:=Qh h;exact ⟨rfl,rfl⟩
def QbB:DV->M (List Int)
  | .lst ds=>uq (Uh ds)
  | .ref n=>do
    match <- ZE n with
    | .lst ds=>uq (Uh ds)
    | .dic kvs=>uq (ju kvs)
    | _=>failure
  | _=>failure
def UW:List DV->M DV:=Qdw fun d=>do let ns <- QbB d;pure (.lst ((srt ns).map .int))
variable {K:Aa} {ρ:Eo} {B:Em} {H:Hp}
theorem j6:∀ {ds:List DV} {ns:List Int} {xs:List V},Uh ds=some ns->RepL K ρ B H ds xs->xs=ns.map .int
  | [],_,xs,h,r=>by cases h;exact r
  | .int n::ds,ns,xs,h,⟨x,q,e,r1,r2⟩=>by
    obtain ⟨ms,h1,rfl⟩:=Cg.mp (show (Uh ds).map (n :: ·)=some ns from h)
    rw [e,r1.intI,j6 h1 r2];rfl
theorem Ur:∀ ns:List Int,RepL K ρ B H (ns.map .int) (ns.map .int)
 | []=>rfl
 | n::ns=>⟨_,_,rfl,JQ,Ur ns⟩
theorem yN:∀ {kvs:List (Key×DV)} {ns:List Int},ju kvs=some ns->kvs.map (·.1)=ns.map .inl
  | [],_,h=>by cases h;rfl
  | (.inl n,d)::kvs,ns,h=>by
    obtain ⟨ms,h1,rfl⟩:=Cg.mp (show (ju kvs).map (n :: ·)=some ns from h)
    rw [Bb,Bb,yN h1]
theorem Uf (hc:X.calm=true):CallR X (.builtin "sorted") (tPn X.K UW):=by
  intro O9 s σ H xs us Q I r h
  obtain ⟨ρ,B,U,ds,d,hp',W,rl,e,k⟩:=h
  obtain ⟨x,rfl,e⟩:=Uz e
  obtain ⟨ns,hp1,e1,e2⟩:=Qe e
  obtain ⟨rfl,rfl⟩:=Qh e2
  obtain ⟨v,rfl,rv⟩:=rl.oneI
  have key:U=hp1/\∃ p,v=.ref p/\QaW X.K H p ns:=by
    cases x with
    | lst zs =>
      obtain ⟨h1,rfl⟩:=xo e1
      obtain ⟨a,ys,rfl,_,sq,l⟩:=rv.lstI
      exact ⟨rfl,a,rfl,.inl (j6 h1 l▸sq)⟩
    | ref n =>
      obtain ⟨o,hp2,e3,e4⟩:=Qe (show (ZE n >>= fun o=>(match o with | .lst ds=>uq (Uh ds) | .dic kvs=>uq (ju kvs) | _=>failure:M (List Int))) U=some (ns,hp1) from e1)
      obtain ⟨e5,rfl⟩:=Zx e3
      cases o with
      | lst zs =>
        obtain ⟨h1,rfl⟩:=xo e4
        obtain ⟨a,rfl,_,ys,h2,l1⟩:=RepV.refW W rv e5
        exact ⟨rfl,a,rfl,.inl (j6 h1 l1▸SqL.of h2)⟩
      | dic kvs =>
        obtain ⟨h1,rfl⟩:=xo e4
        obtain ⟨a,rfl,_,ro⟩:=RepV.refW W rv e5
        obtain ⟨ys,h2,rk⟩:=ro.dic
        exact ⟨rfl,a,rfl,.inr ⟨ys,h2,rk.to.1.trans (yN h1)⟩⟩
      | ins _ _=>cases e4
    | tup _=>cases e1
    | non=>cases e1
    | bl _=>cases e1
    | int _=>cases e1
    | str _=>cases e1
  obtain ⟨rfl,p,rfl,io⟩:=key
  exact Gg hc O9 s σ H _ us Q I r ⟨p,ns,rfl,io,jm W (Ur _) k⟩
abbrev ClsN (K:Aa) (c:Str) (C:Addr):Prop:=PySem.W.nsIn K mainGlobals c=some (some (.ref C))
theorem ClsN.uniq {K:Aa} {c:Str} {C C':Addr} (h:ClsN K c C) (h':ClsN K c C'):C=C':=by
 have e:=h.symm.trans h';cases e;rfl
structure Y2 (K:Aa) (c f:Str):Prop where
 ex:∃ C,ClsN K c C/\Cls K C/\NoAttr K C f
structure Xt (P:Program) (w:World) (K:Aa) (mg:Ei) (O8:Heap) (c m:Str) (k n:Nat) (F:Ep):Prop where
 ex:∃ (C f:Addr) (fd:FuncData) (ps:List Str),ClsN K c C/\Cls K C/\vD K C m f/\qD P w K mg O8 CX0 k f fd ps (spD K n F)/\Binds K fd ps []
structure QaV (P:Program) (w:World) (K:Aa) (mg:Ei) (O8:Heap) (c:Str) (k n:Nat) (F:Ep):Prop where
 ex:∃ (C f:Addr) (fd:FuncData) (ps:List Str),ClsN K c C/\mg c=some (.ref C)/\Mk K C f/\qD P w K mg O8 CX0 k f fd ps (spD K n F)/\Binds K fd ps []
section
variable {K:Aa} {ρ:Eo} {B:Em} {H:Hp} {U:Hs}
abbrev RepF (K:Aa) (ρ:Eo) (B:Em) (H:Hp):List (Str×DV)->List (Str×V)->Prop:=Paired fun p q=>p.1=q.1/\RepV K ρ B H p.2 q.2
theorem g9:∀ {fs:List (Str×DV)} {xs:List (Str×V)},xs.map (·.1)=fs.map (·.1)->RepL K ρ B H (fs.map (·.2)) (xs.map (·.2))->RepF K ρ B H fs xs
  | [],[],_,_=>.nil
  | [],_::_,e,_=>by simp at e
  | _::_,[],e,_=>by simp at e
  | p::fs,q::xs,e,r=>by
    simp only [Bb,List.cons.injEq] at e
    simp only [Bb] at r
    unfold RepL at r
    obtain ⟨x,t,e2,h1,h2⟩:=r
    simp only [List.cons.injEq] at e2
    obtain ⟨rfl,rfl⟩:=e2
    exact .cons ⟨e.1.symm,h1⟩ (g9 e.2 h2)
theorem RepF.to {fs:List (Str×DV)} {xs:List (Str×V)} (r:RepF K ρ B H fs xs):xs.map (·.1)=fs.map (·.1)/\RepL K ρ B H (fs.map (·.2)) (xs.map (·.2)):=by
 induction r with
 | nil=>exact ⟨rfl,RepL.nil⟩
 | cons h _ ih=>exact ⟨by simp [ih.1,h.1],by simpa using RepL.cons h.2 ih.2⟩
theorem RepF.look {fs:List (Str×DV)} {xs:List (Str×V)} (r:RepF K ρ B H fs xs) (f:Str):(fs.lookup f=none/\xs.lookup f=none)∨∃ d v,fs.lookup f=some d/\xs.lookup f=some v/\RepV K ρ B H d v:=by
  induction r with
  | nil=>exact .inl ⟨rfl,rfl⟩
  | @cons p q _ _ h _ ih =>
    obtain ⟨p1,p2⟩:=p
    obtain ⟨q1,q2⟩:=q
    obtain ⟨h1,h2⟩:=h
    have h1:p1=q1:=h1
    subst h1
    cases e:f==p1 with
    | true=>exact .inr ⟨p2,q2,by simp [List.lookup,e],by simp [List.lookup,e],h2⟩
    | false=>simpa [List.lookup,e] using ih
def J8 (f:Str) (d:DV):List (Str×DV)->List (Str×DV)
 | []=>[(f,d)]
 | (g,x)::r=>if g=f then (g,d)::r else (g,x)::J8 f d r
theorem RepF.put (r:RepF K ρ B H fs xs) (f:Str) (rd:RepV K ρ B H d v):RepF K ρ B H (J8 f d fs) (Yv f v xs):=by
  induction r with
  | nil=>exact .cons ⟨rfl,rd⟩ .nil
  | @cons p q _ _ h t ih =>
    obtain ⟨p1,p2⟩:=p
    obtain ⟨q1,q2⟩:=q
    obtain ⟨h1,h2⟩:=h
    have h1:p1=q1:=h1
    subst h1
    unfold J8 Yv
    by_cases e:p1=f
    . rw [C8 e,C8 e];exact .cons ⟨rfl,rd⟩ t
    . rw [C7 e,C7 e];exact .cons ⟨rfl,h2⟩ ih
def RepF.len {fs:List (Str×DV)} {xs:List (Str×V)} (r:RepF K ρ B H fs xs):fs.length=xs.length:=Paired.length r
def RepF.gs (g:Gs K ρ B H ρ' B' H') (r:RepF K ρ B H fs xs):RepF K ρ' B' H' fs xs:=L2.Paired.mapP r fun _ _ h=>⟨h.1,RepV.gs g _ _ h.2⟩
theorem ORep.ins {a:Addr} {c:Str} (h:ORep K ρ B H a (.ins c fs)):∃ C dx xs,ClsN K c C/\H a=some (.ins C dx xs)/\RepF K ρ B H fs xs:=by
 obtain ⟨C,dx,xs,nc,e,ek,rl⟩:=h
 exact ⟨C,dx,xs,nc,e,g9 ek rl⟩
def RepF.orep {a C dx:Addr} {c:Str} (nc:ClsN K c C) (r:RepF K ρ B H fs xs) (e:H a=some (.ins C dx xs)):ORep K ρ B H a (.ins c fs):=⟨C,dx,xs,nc,e,r.to.1,r.to.2⟩
theorem QcQ {n:Nat} {a C dx:Addr} {c:Str} (W:WOk K ρ B U H) (i:ρ[n]?=some a) (nc:ClsN K c C) (e:H a=some (.ins C dx xs)) (r:RepF K ρ B H fs' xs'):Gr K ρ B H ρ B (upd H a (.ins C dx xs'))/\WOk K ρ B (U.set n (.ins c fs')) (upd H a (.ins C dx xs')):=by
 have g:Gr K ρ B H ρ B (upd H a (.ins C dx xs')):=Gr.wset i e
 exact ⟨g,W.wset (o':=.ins C dx xs') (v:=.ins c fs') i e ((r.gs (g.gs W.rb)).orep nc Q3)⟩
end
def onI {α:Type} (c:Str) (x:DV) (k:Nat->List (Str×DV)->M α):M α:=match x with
  | .ref n=>do
    match <- ZE n with
    | .ins c' fs=>do Qx (decide (c'=c));k n fs
    | _=>failure
  | _=>failure
theorem jy {α:Type} {c:Str} {x:DV} {d:α} {k:Nat->List (Str×DV)->M α} {U hp':Hs} (h:onI c x k U=some (d,hp')):∃ n fs,x=.ref n/\U[n]?=some (.ins c fs)/\k n fs U=some (d,hp'):=by
  cases x with
  | ref n =>
    obtain ⟨o,hp1,e1,e2⟩:=Qe (show (ZE n >>= fun o=>(match o with | .ins c' fs=>do Qx (decide (c'=c));k n fs | _=>failure:M α)) U=some (d,hp') from h)
    obtain ⟨e3,rfl⟩:=Zx e1
    cases o with
    | ins c' fs =>
      obtain ⟨_,hp2,e4,e5⟩:=Qe e2
      obtain ⟨hl,rfl⟩:=QH e4
      obtain rfl:=Ed hl
      exact ⟨n,fs,rfl,e3,e5⟩
    | lst _=>cases e2
    | dic _=>cases e2
  | non=>cases h
  | bl _=>cases h
  | int _=>cases h
  | str _=>cases h
  | tup _=>cases h
  | lst _=>cases h
def zM (c f:Str) (x:DV):M DV:=onI c x fun _ fs=>qg (fs.lookup f)
def zU (c f:Str) (x d:DV):M Unit:=onI c x fun n fs=>do Qx (decide (fs.length < 1000));xw n (.ins c (J8 f d fs))
def QD (c f:Str) (g:DEx):DEx:=fun env=>do let x <- g env;zM c f x
def Zb (c f:Str) (fo fv:DEx):DSx:=fun env=>do let y <- fv env;let x <- fo env;zU c f x y;pure (.nx,env)
def X7 (c f:Str) (op:DV->DV->M DV) (fo fv:DEx):DSx:=fun env=>do let x <- fo env;let v <- zM c f x;let y <- fv env;let z <- op v y;zU c f x z;pure (.nx,env)
def zi:DV->DV->M DV
 | .int i,.int j=>pure (.int (i+j))
 | _,_=>failure
def VA:DV->DV->M DV
 | .int i,.int j=>pure (.int (i - j))
 | _,_=>failure
def QE (c m:Str) (n:Nat) (F:Ep) (fo:DEx) (fa:DAx):DEx:=fun env=>do
 let x <- fo env
 onI c x fun _ fs=>Qx (fs.lookup m).isNone
 let ds <- fa env
 Qx (decide (ds.length+1=n))
 F (x::ds)
def Xj (c:Str) (n:Nat) (F:Ep) (fa:DAx):DEx:=fun env=>do
 let ds <- fa env
 Qx (decide (ds.length+1=n))
 let x <- X0 (.ins c [])
 let r <- F (x::ds)
 match r with
 | .non=>pure x
 | _=>failure
section
variable {X:Cx} {o e value:Expr} {c f m:Str} {pos pos' tpos apos:Pos} {fo fv:DEx}
theorem GH {K:Aa} {H:Hp} {U hp':Hs} {v:V} (W:WOk K ρ B U H) (r:RepV K ρ B H x v) (h:zM c f x U=some (d,hp')):U=hp'/\∃ a C dx xs u,v=.ref a/\ClsN K c C/\H a=some (.ins C dx xs)/\xs.lookup f=some u/\RepV K ρ B H d u:=by
 obtain ⟨n,fs,rfl,e1,e2⟩:=jy h
 obtain ⟨hl,rfl⟩:=q8 e2
 obtain ⟨a,rfl,i,ro⟩:=RepV.refW W r e1
 obtain ⟨C,dx,xs,nc,e,rf⟩:=ro.ins
 rcases rf.look f with ⟨z,_⟩ | ⟨d',u,z,zu,ru⟩
 ·rw [hl] at z;cases z
 ·rw [hl] at z;cases z
  exact ⟨rfl,a,C,dx,xs,u,rfl,nc,e,zu,ru⟩
theorem vf {K:Aa} {H:Hp} {v y:V} {z:Unit} (W:WOk K ρ B U H) (r:RepV K ρ B H x v) (rd:RepV K ρ B H d y) (h:zU c f x d U=some (z,hp')):∃ a C dx xs,v=.ref a/\ClsN K c C/\H a=some (.ins C dx xs)/\xs.length < 1000/\Gr K ρ B H ρ B (upd H a (.ins C dx (Yv f y xs)))/\WOk K ρ B hp' (upd H a (.ins C dx (Yv f y xs))):=by
 obtain ⟨n,fs,rfl,e1,e2⟩:=jy h
 obtain ⟨_,hp1,e3,e4⟩:=Qe e2
 obtain ⟨hl,rfl⟩:=QH e3
 cases e4
 obtain ⟨a,rfl,i,ro⟩:=RepV.refW W r e1
 obtain ⟨C,dx,xs,nc,e,rf⟩:=ro.ins
 obtain ⟨g,W'⟩:=QcQ W i nc e (rf.put f rd)
 exact ⟨a,C,dx,xs,rfl,nc,e,by rw [<- rf.len];exact Ed hl,g,W'⟩
theorem Qz (hk:Y2 X.K c f) (ho:DE X o fo) (hb:attributeBase o f X.env (eval o X.env)=eval o X.env:=by rfl):DE X (.Attribute o f pos) (QD c f fo) :=
 L2.PE.imp (QfD ho hb) fun σ H Q zz1=>by
  obtain ⟨Z,env,ρ,B,U,d,hp',S,e,k⟩:=zz1
  obtain ⟨x,hp1,e1,e2⟩:=Qe e
  refine tD.run S e1 fun v ρ1 B1 H1 g1 S1 r1=>?_
  obtain ⟨rfl,a,C,dx,xs,u,rfl,nc,ea,hl,ru⟩:=GH S1.wo r1 e2
  obtain ⟨C',nc',cl,na⟩:=hk.ex
  obtain rfl:=nc.uniq nc'
  exact ⟨a,C,dx,xs,u,rfl,ea,cl,na,hl,k u ρ1 B1 H1 g1 S1.wo ru⟩
theorem Zk (hk:Y2 X.K c f) (ho:DE X o fo) (hv:DE X value fv) (hs:swapsWith value (some (.Attribute o f pos')) pos.line X.env=pure false:=by rfl):DS X (.Assign [.Attribute o f pos'] value pos) (Zb c f fo fv) :=
 L2.PS.imp (QfV ho hv hs) fun D σ H zz1=>by
  obtain ⟨Z,env,ρ,B,U,fl,env',hp',S,e,k⟩:=zz1
  obtain ⟨y,hp1,e1,e⟩:=Qe e
  obtain ⟨x,hp2,e2,e⟩:=Qe e
  obtain ⟨z,hp3,e3,e⟩:=Qe e
  obtain ⟨q,rfl⟩:=Qh e
  cases q
  refine tD.run S e1 fun u ρ1 B1 H1 g1 S1 r1=>tD.run S1 e2 fun v ρ2 B2 H2 g2 S2 r2=>?_
  obtain ⟨a,C,dx,xs,rfl,nc,ea,hl,g,W⟩:=vf S2.wo r2 (RepV.grow S1.wo.rb g2 _ _ r1) e3
  obtain ⟨C',nc',cl,na⟩:=hk.ex
  obtain rfl:=nc.uniq nc'
  exact ⟨a,C,dx,xs,rfl,ea,cl,na,hl,k σ ρ2 B2 _ ((g1.trans (g2.trans g)).gs S.wo.rb) (S2.grow g W)⟩
theorem j9 (hk:Y2 X.K c f) (ho:DE X o fo) (hv:DE X value fv):DS X (.AugAssign (.Attribute o f tpos) .Add value pos) (X7 c f zi fo fv) :=
 L2.PS.imp (QaA ho hv Qe7) fun D σ H zz1=>by
  obtain ⟨Z,env,ρ,B,U,fl,env',hp',S,e,k⟩:=zz1
  obtain ⟨x,hp1,e1,e⟩:=Qe e
  obtain ⟨v,hp2,e2,e⟩:=Qe e
  obtain ⟨y,hp3,e3,e⟩:=Qe e
  obtain ⟨z,hp4,e4,e⟩:=Qe e
  obtain ⟨_,hp5,e5,e⟩:=Qe e
  obtain ⟨q,rfl⟩:=Qh e
  cases q
  refine tD.run S e1 fun vx ρ1 B1 H1 g1 S1 r1=>?_
  obtain ⟨rfl,a,C,dx,xs,u,rfl,nc,ea,hl,ru⟩:=GH S1.wo r1 e2
  obtain ⟨C',nc',cl,na⟩:=hk.ex
  obtain rfl:=nc.uniq nc'
  refine ⟨a,C,dx,xs,u,rfl,ea,cl,na,hl,tD.run S1 e3 fun w ρ2 B2 H2 g2 S2 r2=>?_⟩
  have ru2:=RepV.grow S1.wo.rb g2 _ _ ru
  have r12:=RepV.grow S1.wo.rb g2 _ _ r1
  unfold zi at e4
  split at e4
  ·obtain ⟨rfl,rfl⟩:=Qh e4
   refine ⟨_,_,ru2.intI,r2.intI,?_⟩
   obtain ⟨a',C2,dx',xs',q1,nc2,ea',hl',g,W⟩:=vf S2.wo r12 JQ e5
   cases q1
   obtain rfl:=nc2.uniq nc
   exact ⟨dx',xs',ea',hl',k σ ρ2 B2 _ ((g1.trans (g2.trans g)).gs S.wo.rb) (S2.grow g W)⟩
  ·cases e4
theorem QbR {C:Addr} {n:Nat} {F:Ep} (nc:ClsN X.K c C) (h:tD X.K (QE c m n F fo fa) σ H Q):QcH C m (spD X.K n F) [] E0 (tD X.K fo) (tDA X.K fa) σ H Q:=by
 obtain ⟨Z,env,ρ,B,U,d,hp',S,e,k⟩:=h
 obtain ⟨x,hp1,e1,e⟩:=Qe e
 obtain ⟨_,hp2,e2,e⟩:=Qe e
 obtain ⟨ds,hp3,e3,e⟩:=Qe e
 obtain ⟨_,hp4,e4,ef⟩:=Qe e
 obtain ⟨hl,rfl⟩:=QH e4
 refine tD.run S e1 fun v ρ1 B1 H1 g1 S1 r1=>?_
 obtain ⟨i,fs,rfl,w1,w2⟩:=jy e2
 obtain ⟨hn,rfl⟩:=QH w2
 obtain ⟨a,rfl,_,ro⟩:=RepV.refW S1.wo r1 w1
 obtain ⟨C',dx,xs,nc',ea,rf⟩:=ro.ins
 obtain rfl:=nc'.uniq nc
 have hx:xs.lookup m=none:=by
  rcases rf.look m with ⟨_,z⟩ | ⟨_,_,z,_,_⟩
  ·exact z
  ·rw [z] at hn;cases hn
 refine ⟨a,dx,xs,rfl,ea,hx,tDA.run S1 e3 fun vs ρ2 B2 H2 g2 S2 r2=>?_⟩
 refine ⟨?_,ρ2,B2,hp3,_,d,hp',S2.wo,?_,ef,k.after (g1.trans g2)⟩
 ·rw [Bt,Ba,<- r2.length];exact Ed hl
 ·rw [Bt];exact RepL.cons (RepV.grow S1.wo.rb g2 _ _ r1) r2
theorem Zv {k j n:Nat} {F:Ep} {es:List Expr} {pl:Sem Bool} (h:Xt X.prog X.w X.K X.mg X.O8 c m j n F) (hr:Room k X.A) (hj:j<=k) (hx:Yn CX0 X E0) (ho:DE X o fo) (ha:DA X (e::es) fa)
  (hst:starEach (e::es) X.env=(false,eval e X.env)::starEach es X.env:=by rfl) (hpl:(backTo pos (starEach es X.env)).any (·.1)=false:=by rfl)
  (ht:eval (.Call (.Attribute o m apos) (e::es) [] pos) X.env=(do
   let ov <- eval o X.env
   standAt apos.atName
   let (f,first) <- holding [ov] (getMethod ov m pl)
   callWith pos f first (backTo pos (starEach (e::es) X.env)) (backToKw pos (keywordEach [] X.env))):=by rfl):DE X (.Call (.Attribute o m apos) (e::es) [] pos) (QE c m n F fo fa):=by
 obtain ⟨C,g,fd,ps,nc,cl,hm,F',hb⟩:=h.ex
 exact L2.PE.imp (QdJ (pl:=pl) ho cl hm F' (hr.mono hj) hb .nil hx ha hst hpl ht) fun σ H Q q=>QbR nc q
theorem Zm {k j n:Nat} {F:Ep} {pl:Sem Bool} (h:Xt X.prog X.w X.K X.mg X.O8 c m j n F) (hr:Room k X.A) (hj:j<=k) (hx:Yn CX0 X E0) (ho:DE X o fo)
  (ht:eval (.Call (.Attribute o m apos) [] [] pos) X.env=(do
   let ov <- eval o X.env
   standAt apos.atName
   let (f,first) <- holding [ov] (getMethod ov m pl)
   callWith pos f first (backTo pos (starEach [] X.env)) (backToKw pos (keywordEach [] X.env))):=by rfl):DE X (.Call (.Attribute o m apos) [] [] pos) (QE c m n F fo Qn):=by
 obtain ⟨C,g,fd,ps,nc,cl,hm,F',hb⟩:=h.ex
 refine L2.PE.imp (Qb1 (pl:=pl) ho cl hm F' (hr.mono hj) hb .nil hx ht) fun σ H Q q=>?_
 obtain ⟨Z,env,ρ,B,U,d,hp',S,e,k⟩:=q
 obtain ⟨x,hp1,e1,e⟩:=Qe e
 obtain ⟨_,hp2,e2,e⟩:=Qe e
 obtain ⟨ds,hp3,e3,e⟩:=Qe e
 obtain ⟨_,hp4,e4,ef⟩:=Qe e
 obtain ⟨hl,rfl⟩:=QH e4
 obtain ⟨rfl,rfl⟩:=Qh e3
 refine tD.run S e1 fun v ρ1 B1 H1 g1 S1 r1=>?_
 obtain ⟨i,fs,rfl,w1,w2⟩:=jy e2
 obtain ⟨hn,rfl⟩:=QH w2
 obtain ⟨a,rfl,_,ro⟩:=RepV.refW S1.wo r1 w1
 obtain ⟨C',dx,xs,nc',ea,rf⟩:=ro.ins
 obtain rfl:=nc'.uniq nc
 have hx:xs.lookup m=none:=by
  rcases rf.look m with ⟨_,z⟩ | ⟨_,_,z,_,_⟩
  ·exact z
  ·rw [z] at hn;cases hn
 exact ⟨a,dx,xs,rfl,ea,hx,Ed hl,ρ1,B1,hp1,_,d,hp',S1.wo,RepL.cons r1 RepL.nil,ef,k.after g1⟩
theorem QaF {k:Nat} {C g:Addr} {O9:Eh} {σ:St} {H:Hp} {s:Shared} {Q:VK} {us:List Value} {vs:List V} (M:Mk X.K C g) (F:qD X.prog X.w X.K X.mg X.O8 CX0 k g fd ps sp) (hr:Room (k+1) X.A) (hb:Binds X.K fd ps [])
    (hx:Yn CX0 X E0) (I:Inv X O9 σ H s) (r:Vals vs us)
    (h:∀ x dx,H x=none->H dx=none->dx≠x->X.K.lookup x=none->sp (.ref x::vs) (upd (upd H dx (.own x)) x (.ins C dx [])) (fun v H2=>v=.non/\Q (.ref x) H2) E0) :
    wpAny (model X.prog X.w) X.A (call (.ref C) us) (EP X O9 σ Q) X.xe s:=by
  have kf:X.K.lookup (s.heap.objs.size+1)=none:=by
    cases q:X.K.lookup (s.heap.objs.size+1) with
    | none=>rfl
    | some o=>exact absurd (Ap (I.kIn _ _ q)) (Nat.not_lt.mpr (Nat.le_succ _))
  have hq:=h _ _ (I.hok.fresh (Nat.le_succ _)) (I.hok.fresh (Ae _)) (Bf (C0 _)) kf
  have J:=Inv.made (C:=C) I
  have rr:Vals (V.ref (s.heap.objs.size+1)::vs) (Value.ref (s.heap.objs.size+1)::us):=.cons rfl r
  have ll:((Value.ref (s.heap.objs.size+1)::us)++[]).length=ps.length:=by
    rw [Bt,<- rr.length];exact F.len _ _ _ _ hq
  have bb:=hb _ (Value.ref (s.heap.objs.size+1)::us) J.kIn ll
  rw [Bt] at bb
  refine wpAny_call (QbP (f:=g) I.kIn M.makes M.init (beq_iff_eq.mp M.fn) (codeAny_mono (F.run _ X.stack _ _ ⟨Value.ref (s.heap.objs.size+1)::us,[]⟩ _ _ _ E0 (hr.make C us []) (J.env0.make C us []) bb rr hq) fun q s' z=>?_))
  cases q with
  | error e=>exact hx O9 σ _ _ e s' J z
  | ok fl =>
    cases fl with
    | ret u =>
      obtain ⟨v,H',I3,rv,ev,q3⟩:=J.after z
      subst ev
      exact ⟨rv,⟨V.ref (s.heap.objs.size+1),H',I3,rfl,q3⟩⟩
    | next=>exact z.elim
    | brk=>exact z.elim
    | cont=>exact z.elim
theorem QbO {C:Addr} {n:Nat} {F:Ep} {K:Aa} {U hp':Hs} {ds:List DV} {d:DV} {Q:VK} (nc:ClsN K c C) (hl:ds.length+1=n) (W:WOk K ρ B U H) (r:RepL K ρ B H ds vs)
  (e:(do let x <- X0 (.ins c []);let r <- F (x::ds);match r with | .non=>pure x | _=>failure:M DV) U=some (d,hp')) (k:Fol K ρ B H d hp' Q) :
  ∀ x dx,H x=none->H dx=none->dx≠x->K.lookup x=none->spD K n F (.ref x::vs) (upd (upd H dx (.own x)) x (.ins C dx [])) (fun v H2=>v=.non/\Q (.ref x) H2) E0:=by
 intro x dx hx hdx ne kf
 have e1:F (.ref U.length::ds) (U++[.ins c []])=some (.non,hp')/\d=.ref U.length:=by
  obtain ⟨y,hp1,a1,a2⟩:=Qe e
  cases a1
  obtain ⟨y,hp2,a3,a4⟩:=Qe a2
  cases y with
  | non=>obtain ⟨rfl,rfl⟩:=Qh a4;exact ⟨a3,rfl⟩
  | bl _=>cases a4
  | int _=>cases a4
  | str _=>cases a4
  | tup _=>cases a4
  | lst _=>cases a4
  | ref _=>cases a4
 obtain ⟨e1,rfl⟩:=e1
 have hx':upd H dx (.own x) x=none:=by rw [QI (Ne.symm ne)];exact hx
 have g0:Gr K ρ B H ρ B (upd H dx (.own x)):=Gr.laid hdx
 have g1:Gr K ρ B (upd H dx (.own x)) (ρ++[x]) (xX B x) (upd (upd H dx (.own x)) x (.ins C dx [])):=Gr.wnew hx' kf
 have W1:WOk K (ρ++[x]) (xX B x) (U++[.ins c []]) (upd (upd H dx (.own x)) x (.ins C dx [])):=(W.laid hdx).wnew hx' kf (RepF.orep nc .nil Q3)
 have rx:RepV K (ρ++[x]) (xX B x) (upd (upd H dx (.own x)) x (.ins C dx [])) (.ref U.length) (.ref x):=by
  unfold RepV
  exact ⟨x,rfl,by rw [<- W.len];simp⟩
 refine ⟨?_,ρ++[x],xX B x,U++[.ins c []],.ref U.length::ds,.non,hp',W1,RepL.cons rx (RepL.grow W.rb (g0.trans g1) _ _ r),e1,fun v ρ' B' H' g' W' r'=>?_⟩
 ·rw [Ba,<- r.length];exact hl
 ·exact ⟨r'.nonI,k _ ρ' B' H' ((g0.trans g1).trans g') W' (RepV.grow W1.rb g' _ _ rx)⟩
theorem gi {k j n:Nat} {F:Ep} {es:List Expr} {p:Pos} (h:QaV X.prog X.w X.K X.mg X.O8 c j n F) (hr:Room k X.A) (hj:j+1<=k) (hx:Yn CX0 X E0) (ha:DA X (e::es) fa) (hg:Gl X c:=by rfl)
  (hdb:(c==("__debug__" : Str))=false:=by decide) (he:starEach (e::es) X.env=(false,eval e X.env)::starEach es X.env:=by rfl) (hpl:(backTo pos (starEach es X.env)).any (·.1)=false:=by rfl):DE X (.Call (.Name c p) (e::es) [] pos) (Xj c n F fa):=by
 obtain ⟨C,g,fd,ps,nc,hm,M,F',hb⟩:=h.ex
 intro O9 s σ H Q I q
 obtain ⟨Z,env,ρ,B,U,d,hp',S,e,k⟩:=q
 obtain ⟨ds,hp1,e1,e2⟩:=Qe e
 obtain ⟨_,hp2,e3,e4⟩:=Qe e2
 obtain ⟨hl,rfl⟩:=QH e3
 refine wpAny_Call_Name_kw (KA I hg hm ?_ hdb)
 refine PySem.W.callWith_K (h₀:=X.O8) I.ok.mod.kin M.kp (thn (ha pos O9 s σ H _ I (tDA.run S e1 fun vs ρ1 B1 H1 g1 S1 r1=>QbO (Q:=Q) nc (Ed hl) S1.wo r1 e4 (k.after g1))) fun us s1 ⟨vs,H1,I1,r,q⟩=>⟨I1.kIn,?_⟩) he hpl
 exact QaF M F' (hr.mono hj) hb hx I1 r q
end
theorem Qbt {P:Program} {w:World} {K:Aa} {mg:Ei} {O8:Heap} {x qual:Str} {g:Addr} {k:Nat} {body:DSx} (F:Fun K x qual stm g fd) (Sc:Qt N ps (Qo stm))
  (h:∀ (cdv:Value) (A:Around) (outer:List Env) (s:Shared) (H:Hp) (E:XK),Room k (A.deeper (envOfC qual (Qo stm) s.heap.objs.size g cdv))->DSs (xZ CX0 P w K mg O8 N qual (Qo stm) g cdv A outer s H E).nox (ZB stm) body) :
  qD P w K mg O8 CX0 (k+1) g fd ps (spD K ps.length (Q2 N.length body)):=by
 refine F.ok Sc (fun vs H Q E h=>h.1) (fun cdv A outer s H vs Q E hr sp=>?_)
 obtain ⟨hn,ρ,B,U,ds,d,hp',W,r,e,k⟩:=sp
 obtain ⟨⟨fl,env'⟩,hp1,e1,e2⟩:=Qe e
 refine ⟨_,h cdv A outer s H E hr,⟨ρ,B,H⟩,_,ρ,B,U,fl,env',hp1,xr W r,e1,fun σ' ρ' B' H' g' S'=>?_⟩
 cases fl with
 | nx=>obtain ⟨rfl,rfl⟩:=Qh e2;exact k .non ρ' B' H' S'.gr S'.wo zd
 | rt x=>obtain ⟨rfl,rfl⟩:=Qh e2;exact fun v rv=>k v ρ' B' H' S'.gr S'.wo rv
 | bk=>cases e2
 | ct=>cases e2
theorem QbQ {P:Program} {w:World} {K:Aa} {mg:Ei} {O8:Heap} {c m qual:Str} {C g:Addr} {k:Nat} {body:DSx} (nc:ClsN K c C) (cl:Cls K C) (me:vD K C m g) (F:Fun K m qual stm g fd) (Sc:Qt N ps (Qo stm))
  (hb:∀ (kV doc pm:Value) (an:Option Addr) (cdv ct:Value) (us:List Value),us.length=ps.length->bindArgs (PySem.W.fnOf m qual (Jv stm) (ZB stm) (Qo stm) .none kV doc pm an cdv ct) ⟨us,[]⟩=pure (ps.zip us))
  (h:∀ (cdv:Value) (A:Around) (outer:List Env) (s:Shared) (H:Hp) (E:XK),Room k (A.deeper (envOfC qual (Qo stm) s.heap.objs.size g cdv))->DSs (xZ CX0 P w K mg O8 N qual (Qo stm) g cdv A outer s H E).nox (ZB stm) body) :
  Xt P w K mg O8 c m (k+1) ps.length (Q2 N.length body):=⟨C,g,fd,ps,nc,cl,me,Qbt F Sc h,F.binds hb⟩
theorem QbA {P:Program} {w:World} {K:Aa} {mg:Ei} {O8:Heap} {c qual:Str} {C g:Addr} {k:Nat} {body:DSx} (nc:ClsN K c C) (hm:mg c=some (.ref C)) (me:Mk K C g) (F:Fun K "__init__" qual stm g fd) (Sc:Qt N ps (Qo stm))
  (hb:∀ (kV doc pm:Value) (an:Option Addr) (cdv ct:Value) (us:List Value),us.length=ps.length->bindArgs (PySem.W.fnOf "__init__" qual (Jv stm) (ZB stm) (Qo stm) .none kV doc pm an cdv ct) ⟨us,[]⟩=pure (ps.zip us))
  (h:∀ (cdv:Value) (A:Around) (outer:List Env) (s:Shared) (H:Hp) (E:XK),Room k (A.deeper (envOfC qual (Qo stm) s.heap.objs.size g cdv))->DSs (xZ CX0 P w K mg O8 N qual (Qo stm) g cdv A outer s H E).nox (ZB stm) body) :
  QaV P w K mg O8 c (k+1) ps.length (Q2 N.length body):=⟨C,g,fd,ps,nc,hm,me,Qbt F Sc h,F.binds hb⟩
section
variable {X:Cx}
def QeM:DSx:=fun _=>failure
theorem Qc8 {st:Stmt}:DS X st QeM:=L2.PS.imp Qb9 fun D σ H ⟨Z,env,ρ,B,U,fl,env',hp',S,e,k⟩=>by cases e
def Ve (i:Nat) (op:DV->DV->M DV) (fe:DEx):DSx:=fun env=>do let v <- Qd i env;let y <- fe env;let z <- op v y;pure (.nx,env.set i (.val z))
end
theorem Jg {α β:Type} (m:M α) (k:α->M β) (U:Hs):(m >>= k) U=(m U).bind fun p=>k p.1 p.2:=by
 show (StateT.bind m k U)=_
 unfold StateT.bind
 cases m U with
 | none=>rfl
 | some p=>obtain ⟨a,h⟩:=p;rfl
theorem Xa {α β:Type} (f:α->β) (m:M α) (U:Hs):(f <$> m) U=(m U).map fun p=>(f p.1,p.2):=by
 show (StateT.map f m U)=_
 unfold StateT.map
 cases m U with
 | none=>rfl
 | some p=>obtain ⟨a,h⟩:=p;rfl
def run_pure {α:Type} (a:α) (U:Hs):(pure a:M α) U=some (a,U):=rfl
def JC {α:Type} (U:Hs):(failure:M α) U=none:=rfl
theorem Jh (b:Bool) (U:Hs):Qx b U=if b=true then some ((),U) else none:=by cases b<;>rfl
theorem J9 (n:Nat) (U:Hs):ZE n U=(U[n]?).map fun o=>(o,U):=by unfold ZE;cases U[n]?<;>rfl
def run_set (n:Nat) (o:OV) (U:Hs):xw n o U=some ((),U.set n o):=rfl
def Xb (o:OV) (U:Hs):X0 o U=some (.ref U.length,U++[o]):=rfl
theorem QZ (U:Hs) (k:Nat) (X:OV) (h:(U[k]?).isSome=true):(U.set k X)[k]?=some X:=by
 have:k < U.length:=by
  rcases Bh k U.length with q | q
  ·exact q
  ·rw [List.getElem?_eq_none q] at h;cases h
 rw [Au this]
def QL (U:Hs) (k n:Nat) (X:OV) (h:k≠n):(U.set k X)[n]?=U[n]?:=Am h
theorem ZY (U:Hs) (X:OV):(U++[X])[U.length]?=some X:=by simp
mutual
def KRep (K:Aa):DV->V->Prop
 | .non,v=>v=.non
 | .bl b,v=>v=.bl b
 | .int i,v=>v=.int i
 | .str x,v=>v=.str x
 | .tup ds,v=>∃ (a:Addr) (o:Obj) (its:Array Value) (n:Nat) (xs:List V),v=.ref a/\K.lookup a=some o/\o.cls=.type "tuple" /\ o.data=.seq its n/\its.size<=sizeLine/\Vals xs its.toList/\KRepL K ds xs
 | _,_=>False
def KRepL (K:Aa):List DV->List V->Prop
 | [],xs=>xs=[]
 | d::ds,xs=>∃ x r,xs=x::r/\KRep K d x/\KRepL K ds r
end
mutual
theorem KRep.rep {K:Aa} {B:Em} (hb:∀ a,B a->K.lookup a=none):∀ (d:DV) (v:V),KRep K d v->RepV K ρ B H d v
  | .non,_,h=>by unfold KRep at h;unfold RepV;exact h
  | .bl _,_,h=>by unfold KRep at h;unfold RepV;exact h
  | .int _,_,h=>by unfold KRep at h;unfold RepV;exact h
  | .str _,_,h=>by unfold KRep at h;unfold RepV;exact h
  | .lst _,_,h=>by unfold KRep at h;exact h.elim
  | .ref _,_,h=>by unfold KRep at h;exact h.elim
  | .tup ds,_,h=>by
    unfold KRep at h;unfold RepV
    obtain ⟨a,o,its,n,xs,rfl,h1,h2,h3,h4,h5,h6⟩:=h
    exact ⟨a,xs,rfl,fun z=>(by rw [hb a z] at h1;cases h1),.inr ⟨o,its,n,h1,h2,h3,h4,h5⟩,KRepL.rep hb ds xs h6⟩
theorem KRepL.rep {K:Aa} {B:Em} (hb:∀ a,B a->K.lookup a=none):∀ (ds:List DV) (xs:List V),KRepL K ds xs->RepL K ρ B H ds xs
  | [],_,h=>by unfold KRepL at h;unfold RepL;exact h
  | d::ds,_,h=>by
    unfold KRepL at h;unfold RepL
    obtain ⟨x,r,e,h1,h2⟩:=h
    exact ⟨x,r,e,KRep.rep hb d x h1,KRepL.rep hb ds r h2⟩
end
theorem v9 {K:Aa} {a:Addr} {od:Option Addr} {its:Array Value} {n:Nat} {sl:Array (Option Value)} (h:K.lookup a=some ⟨.type "tuple", od,.seq its n,sl⟩) (hs:its.size<=sizeLine) (hv:Vals xs its.toList) (hl:KRepL K ds xs):KRep K (.tup ds) (.ref a):=by
 unfold KRep;exact ⟨a,_,its,n,xs,rfl,h,rfl,rfl,hs,hv,hl⟩
theorem QbF {K:Aa}:KRep K .non .non:=by unfold KRep;rfl
theorem Qff {K:Aa} {i:Int}:KRep K (.int i) (.int i):=by unfold KRep;rfl
theorem Kv {K:Aa}:KRepL K [] []:=by unfold KRepL;rfl
theorem qL {K:Aa} {d:DV} {x:V} (h:KRep K d x) (h':KRepL K ds r):KRepL K (d::ds) (x::r):=by unfold KRepL;exact ⟨x,r,rfl,h,h'⟩
theorem Qc4 {X:Cx} {x:Str} {a:Addr} {pos:Pos} (hg:Gl X x) (hm:X.mg x=some (.ref a)) (hk:KRep X.K (.tup ds) (.ref a)) (hd:(x==("__debug__" : Str))=false:=by decide):DE X (.Name x pos) (eC (.tup ds)) :=
 (gR (v:=.ref a) hg hm rfl hd).imp fun σ H Q zz1=>by
  obtain ⟨Z,env,ρ,B,U,d',hp',S,e,k⟩:=zz1
  obtain ⟨rfl,rfl⟩:=Qh e
  exact k _ ρ B H Gr.refl S.wo (KRep.rep S.wo.bk _ _ hk)
theorem Qbv (U:Hs) (x:OV) (t:Hs):(U++x::t)[U.length]?=some x:=by simp
theorem Qcr (U:Hs) (x y:OV) (t:Hs):(U++x::t).set U.length y=U++y::t:=by
 rw [List.set_append_right _ _ (Ae _)];simp
theorem Qed {U:Hs} {n:Nat} (h:U[n]?=some x):U.set n x=U:=by
 obtain ⟨hl,rfl⟩:=Ac.mp h
 exact List.set_getElem_self hl
theorem kj {n i:Nat} {d:DV} (h:(Jf 0 n)[i]?=some d):i < n/\d=.int (i:Int):=by
 obtain ⟨h1,h2⟩:=uA h
 exact ⟨h1,by rw [h2];simp⟩
theorem QaM {n:Nat} (h:n<=1000000):Vx (n:Int)=true:=QcB (by lia) (by lia)
theorem Qfp {i:Int} (h:0<=i):∃ j:Nat,i=j:=⟨i.toNat,by lia⟩
theorem Qdq {n i:Nat} (h:i < n):ixN n (i:Int)=some i:=by unfold ixN;rw [C8 (by lia),C8 (by lia)];simp
theorem Vf {f:DXx} {g:DGx} {r:(Fl×En)×Hs} (h:f env U=some (nxD ds,hp1)) (h':YH (nxD ds) (fun d env=>do let env' <- g d env;body env') 100000 0 env hp1=some r):jJ f g body env U=some r:=by
 unfold jJ
 rw [Qg h];exact h'
theorem Qd3 {m:Nat} (h:m<=1000000) (U:Hs):QaC [.int (m:Int)] U=some (Jf 0 m,U):=by
 have e:QaC [.int (m:Int)]=pure (Jf 0 (m:Int).toNat):=by
  simp only [QaC,QaM h,Qx,if_true,Ef]
 rw [e,B7];rfl
theorem Qdj {f:DAx} {m:Nat} (h:f env U=some ([.int (m:Int)],hp1)) (hm:m<=1000000):Qdi f env U=some (Jf 0 m,hp1):=by
 unfold Qdi
 rw [Qg h];exact Qd3 hm hp1
theorem VN {f:DEx} (h:f env U=some (.lst ds,hp1)):xLs f env U=some (nxD ds,hp1):=by
 unfold xLs
 rw [Qg h];rfl
section
variable {X:Cx}
def jv (x:DV):List DV->M DV
 | [y]=>onL x fun n ds=>onL y fun _ es=>do Qx (decide (ds.length+es.length<=lim));xw n (.lst (ds++es));pure .non
 | _=>failure
theorem QbN:MtR X "list.extend" (tPm X.K jv):=by
 intro O9 s σ H x vs v us Q I rx rv h
 obtain ⟨ρ,B,U,dx,es,d,hp',W,r1,r2,e,k⟩:=h
 unfold jv at e
 split at e
 ·rename_i y
  obtain ⟨n,ds,rfl,h0,e⟩:=yY e
  obtain ⟨m,zs,rfl,h0',e⟩:=yY e
  obtain ⟨_,hp1,e1,e2⟩:=Qe e
  obtain ⟨hl,rfl⟩:=QH e1
  cases e2
  obtain ⟨a,rfl,i1,xs,h1,l1⟩:=RepV.refW W r1 h0
  obtain ⟨w,rfl,rw'⟩:=r2.oneI
  obtain ⟨b,rfl,i2,ys,h2,l2⟩:=RepV.refW W rw' h0'
  obtain ⟨g,W'⟩:=VM W i1 h1 (RepL.append l1 l2)
  exact Qar O9 s σ H _ _ v us Q I rx rv ⟨a,b,xs,ys,rfl,rfl,h1,h2,by rw [<- l1.length,<- l2.length];exact Bj (Ed hl) KB,k _ ρ B _ g W' zd⟩
 ·cases e
end
end D
namespace L2
open PySem PySem.Spec PyProof.Rows
abbrev XD (h:Heap) (z p o:Addr) (f:Value) (b:Bool):Prop:=h.get? z=some { cls:=Value.type "zip", data:=Data.fields #[f,Value.bool b,Value.bool false,Value.ref p,Value.ref o] }
structure ZU (h:Heap) (z p o i j a b:Addr) (n:Nat):Prop where
 zz:∃ f fl,XD h z p o f fl/\(f=.none∨∃ T:Nat,f=rawInt T)
 pp:IsPair h p (.ref i) (.ref j)
 oo:∃ x y,IsPair h o x y
 ii:h.IsTupleIter i a n
 jj:h.IsTupleIter j b n
section
variable {prog:Program} {w:World} {A:Around} {E:Eg} {s:Shared}
theorem vw {a:Addr} {Q:Option Obj->Shared->Prop} (h:Q (s.heap.get? a) s):wpAny (model prog w) A (loadIfAlive a) Q E s:=by
 intro Γ p hΓ
 unfold loadIfAlive
 rw [Sem.wp_loadIfAlive]
 exact C9 (M:=model prog w) (A:=A) (E:=E) h Γ p hΓ
theorem kF {z p o:Addr} {f:Value} {fl:Bool} {Q:Bool->Shared->Prop} (zz:XD s.heap z p o f fl) (hf:f=.none∨∃ T:Nat,f=rawInt T) (q1:Q true s) (q2:∀ g,XD g z p o f true->Heap.ExtBut z s.heap g->g.objs.size=s.heap.objs.size->Q false { s with heap:=g }):
    wpAny (model prog w) A (Builtin.SmallTypes.ownedTupleIsFree (.ref z)) Q E s:=by
  unfold Builtin.SmallTypes.ownedTupleIsFree
  rcases hf with rfl | ⟨T,rfl⟩
  . exact C6 (wpAny_field zz rfl (x:=.none) rfl (C9 q1))
  . refine C6 (wpAny_field zz rfl (x:=rawInt T) rfl ?_)
    show wpAny _ _ (loadIfAlive (T:Int).toNat >>= _) _ _ _
    refine C6 (vw ?_)
    cases hT:s.heap.get? (T:Int).toNat with
    | none=>exact C9 q1
    | some ob =>
      show wpAny _ _ (field (.ref z) 1 >>= _) _ _ _
      refine C6 (wpAny_field zz rfl (x:=.bool fl) rfl ?_)
      cases fl with
      | true=>exact C9 (q2 _ zz (fun _ _ _ e=>e) rfl)
      | false =>
        show wpAny _ _ (setField (.ref z) 1 (.bool true) >>= _) _ _ _
        exact C6 (wpAny_setField_rec zz (by simp) fun g z1 k1=>C9 (q2 g z1 k1.extBut k1.1))
theorem kG {z p o i j a b:Addr} {n:Nat} {xs ys:Array Value} {Q:Eg} (D:ZA z p o i j a b) (S:ZU s.heap z p o i j a b n) (ha:s.heap.IsTuple a xs) (hb:s.heap.IsTuple b ys) (hx:xs[n]?=some x) (hy:ys[n]?=some y)
  (k:∀ g,ZU g z p o i j a b (n+1)->IsPair g s.heap.objs.size x y->g.objs.size=s.heap.objs.size+1->(∀ c u,c≠z->c≠o->c≠i->c≠j->s.heap.get? c=some u->g.get? c=some u)->Q (.ref s.heap.objs.size) { s with heap:=g }) :
  wpAny (model prog w) A (Builtin.«zip.__next__» ⟨[.ref z],[]⟩) (fun fin s'=>∃ v,fin=.done (.ret v)/\Q v s') E s:=by
 obtain ⟨⟨f,fl,zz,hf⟩,pp,⟨u1,u2,oo⟩,ii,jj⟩:=S
 have ht:∀ {g g':Heap} {q c:Addr} {vs:Array Value},Heap.SameBut q g g'->c≠q->g.IsTuple c vs->g'.IsTuple c vs:=fun {g g' q c vs} sb hc ⟨ob,e,r⟩=>⟨ob,sb.extBut _ _ hc e,r⟩
 show wpAny _ _ (field (.ref z) 2 >>= _) _ _ _
 refine C6 (wpAny_field zz rfl (x:=.bool false) rfl ?_)
 show wpAny _ _ (field (.ref z) 3 >>= _) _ _ _
 refine C6 (wpAny_field zz rfl (x:=.ref p) rfl ?_)
 refine C6 (wpAny_seqItems pp rfl ?_)
 show wpAny _ _ (Builtin.SmallTypes.ownedTupleIsFree (.ref z) >>= _) _ _ _
 refine C6 (kF zz hf ?_ ?_)
 ·simp only [if_true]
  refine C6 (wpAny_rule ?_)
  refine C6 (wpAny_field zz rfl (x:=.ref o) rfl ?_)
  refine C6 (wpAny_setField_rec zz (by simp) fun g1 z1 k1=>?_)
  replace z1:XD g1 z p o .ellipsis fl:=z1
  refine C6 ?_
  simp only [List.zipIdx_cons,List.zipIdx_nil,List.forIn_cons,List.forIn_nil]
  refine C6 (C6 (wpAny_onRaise ?_))
  show wpAny _ _ (Builtin.SmallTypes.nextOf (.ref i) >>= _) _ _ _
  refine C6 (zf (ii.extBut k1.extBut D.iz) (ht k1 D.az ha) hx fun g2 i2 k2=>C9 ?_)
  have o2:IsPair g2 o u1 u2:=k2.extBut _ _ D.oi (k1.extBut _ _ D.oz oo)
  refine C6 (wpAny_seqItems o2 rfl ?_)
  refine C6 (wpAny_updateSeq_pair o2 fun g3 o3 k3=>?_)
  replace o3:IsPair g3 o x u2:=o3
  refine C6 (wpAny_letGo (C9 ?_))
  refine C6 (C6 (wpAny_onRaise ?_))
  show wpAny _ _ (Builtin.SmallTypes.nextOf (.ref j) >>= _) _ _ _
  refine C6 (zf (((jj.extBut k1.extBut D.jz).extBut k2.extBut D.ij.symm).extBut k3.extBut D.oj.symm) (ht k3 D.bo (ht k2 D.bi (ht k1 D.bz hb))) hy fun g4 j4 k4=>C9 ?_)
  have o4:IsPair g4 o x u2:=k4.extBut _ _ D.oj o3
  refine C6 (wpAny_seqItems o4 rfl ?_)
  refine C6 (wpAny_updateSeq_pair o4 fun g5 o5 k5=>?_)
  replace o5:IsPair g5 o x y:=o5
  refine C6 (wpAny_letGo (C9 (C9 ?_)))
  refine C6 (wpAny_seqItems o5 rfl ?_)
  refine C6 (wpAny_newTuple ?_)
  have sz:g5.objs.size=s.heap.objs.size:=by rw [k5.1,k4.1,k3.1,k2.1,k1.1]
  have z5:XD g5 z p o .ellipsis fl:=k5.extBut _ _ D.oz.symm (k4.extBut _ _ D.jz.symm (k3.extBut _ _ D.oz.symm (k2.extBut _ _ D.iz.symm z1)))
  have kk:∀ c u,c≠z->c≠o->c≠i->c≠j->s.heap.get? c=some u->g5.get? c=some u:=fun c u c1 c2 c3 c4 e=>k5.extBut _ _ c2 (k4.extBut _ _ c4 (k3.extBut _ _ c2 (k2.extBut _ _ c3 (k1.extBut _ _ c1 e))))
  have i5:g5.IsTupleIter i a (n+1):=((i2.extBut k3.extBut D.oi.symm).extBut k4.extBut D.ij).extBut k5.extBut D.oi.symm
  have j5:g5.IsTupleIter j b (n+1):=j4.extBut k5.extBut D.oj.symm
  have zl:z < g5.objs.size:=Ap z5
  show wpAny _ _ (Builtin.SmallTypes.ownedTupleHandOut (.ref z) (.ref g5.objs.size) >>= _) _ _ _
  refine C6 ?_
  unfold Builtin.SmallTypes.ownedTupleHandOut
  have z6:XD (g5.push { cls:=.type "tuple", data:=.seq #[x,y] }) z p o .ellipsis fl:=Ad _ z5
  refine C6 (wpAny_setField_rec z6 (by simp) fun g7 z7 k7=>?_)
  replace z7:XD g7 z p o (rawInt g5.objs.size) fl:=z7
  refine wpAny_setField_rec z7 (by simp) fun g8 z8 k8=>?_
  replace z8:XD g8 z p o (rawInt g5.objs.size) false:=z8
  have up:∀ c u,c≠z->g5.get? c=some u->g8.get? c=some u:=fun c u c1 e=>k8.extBut _ _ c1 (k7.extBut _ _ c1 (Ad _ e))
  have t8:IsPair g8 g5.objs.size x y:=k8.extBut _ _ (C4 zl) (k7.extBut _ _ (C4 zl) (Av _ rfl))
  have s8:g8.objs.size=g5.objs.size+1:=by rw [k8.1,k7.1,Co]
  refine C9 ⟨_,rfl,?_⟩
  show Q (.ref g5.objs.size) _
  rw [sz] at z8 t8 s8
  rw [sz]
  exact k g8 ⟨⟨_,_,z8,.inr ⟨_,rfl⟩⟩,up _ _ D.pz (kk _ _ D.pz D.po D.pi D.pj pp),⟨x,y,up _ _ D.oz o5⟩,i5.at fun u e=>up _ u D.iz e,j5.at fun u e=>up _ u D.jz e⟩ t8 s8 fun c u c1 c2 c3 c4 e=>up c u c1 (kk c u c1 c2 c3 c4 e)
 ·intro g1 z1 k1 sz1
  simp only [Az,if_false]
  refine C6 ?_
  have ia1:g1.IsTuple a xs:=let ⟨ob,e,r⟩:=ha;⟨ob,k1 _ _ D.az e,r⟩
  have ib1:g1.IsTuple b ys:=let ⟨ob,e,r⟩:=hb;⟨ob,k1 _ _ D.bz e,r⟩
  simp only [List.forIn_toArray,List.forIn_cons,List.forIn_nil]
  refine C6 (C6 (wpAny_holding ?_))
  show wpAny _ _ (Builtin.SmallTypes.nextOf (.ref i) >>= _) _ _ _
  refine C6 (zf (s:={ s with heap:=g1 }) (ii.extBut k1 D.iz) ia1 hx fun g2 i2 k2=>C9 (C9 ?_))
  refine C6 (C6 (wpAny_holding ?_))
  show wpAny _ _ (Builtin.SmallTypes.nextOf (.ref j) >>= _) _ _ _
  refine C6 (zf (s:={ s with heap:=g2 }) ((jj.extBut k1 D.jz).extBut k2.extBut D.ij.symm) (ht k2 D.bi ib1) hy fun g3 j3 k3=>C9 (C9 ?_))
  refine C9 ?_
  refine C6 (wpAny_newTuple ?_ (show (2:Nat)<=sizeLine by decide))
  have sz:g3.objs.size=s.heap.objs.size:=by rw [k3.1,k2.1,sz1]
  have kk:∀ c u,c≠z->c≠i->c≠j->s.heap.get? c=some u->(g3.push { cls:=.type "tuple", data:=.seq #[x,y] }).get? c=some u:=fun c u c1 c3 c4 e=>Ad _ (k3.extBut _ _ c4 (k2.extBut _ _ c3 (k1 _ _ c1 e)))
  have z3:XD (g3.push { cls:=.type "tuple", data:=.seq #[x,y] }) z p o f true:=Ad _ (k3.extBut _ _ D.jz.symm (k2.extBut _ _ D.iz.symm z1))
  refine C9 ⟨_,rfl,?_⟩
  show Q (.ref g3.objs.size) _
  rw [sz]
  refine k _ ⟨⟨f,true,z3,hf⟩,kk _ _ D.pz D.pi D.pj pp,⟨u1,u2,kk _ _ D.oz D.oi D.oj oo⟩,(i2.extBut k3.extBut D.ij).at fun u e=>Ad _ e,j3.at fun u e=>Ad _ e⟩ ?_ (by rw [Co,sz]) fun c u c1 _ c3 c4 e=>kk c u c1 c3 c4 e
  rw [<- sz];exact Av _ rfl
theorem kH {z p o i j a b:Addr} {n:Nat} {xs ys:Array Value} {Q:PySem.Fin->Shared->Prop} (hh:A.handled=none) (D:ZA z p o i j a b) (S:ZU s.heap z p o i j a b n) (ha:s.heap.IsTuple a xs) (hb:s.heap.IsTuple b ys) (he:xs[n]?=none∨ys[n]?=none)
    (k:∀ g x,(∀ c u,c≠z->c≠o->c≠i->c≠j->s.heap.get? c=some u->g.get? c=some u)->(∃ u,g.get? x=some u/\u.cls=.type "StopIteration")->E (.ref x) { s with heap:=g }) :
    wpAny (model prog w) A (Builtin.«zip.__next__» ⟨[.ref z],[]⟩) Q E s:=by
  obtain ⟨⟨f,fl,zz,hf⟩,pp,⟨u1,u2,oo⟩,ii,jj⟩:=S
  have ht:∀ {g g':Heap} {q c:Addr} {vs:Array Value},Heap.SameBut q g g'->c≠q->g.IsTuple c vs->g'.IsTuple c vs:=fun {g g' q c vs} sb hc ⟨ob,e,r⟩=>⟨ob,sb.extBut _ _ hc e,r⟩
  show wpAny _ _ (field (.ref z) 2 >>= _) _ _ _
  refine C6 (wpAny_field zz rfl (x:=.bool false) rfl ?_)
  show wpAny _ _ (field (.ref z) 3 >>= _) _ _ _
  refine C6 (wpAny_field zz rfl (x:=.ref p) rfl ?_)
  refine C6 (wpAny_seqItems pp rfl ?_)
  show wpAny _ _ (Builtin.SmallTypes.ownedTupleIsFree (.ref z) >>= _) _ _ _
  refine C6 (kF zz hf ?_ ?_)
  . simp only [if_true]
    refine C6 (wpAny_rule ?_)
    refine C6 (wpAny_field zz rfl (x:=.ref o) rfl ?_)
    refine C6 (wpAny_setField_rec zz (by simp) fun g1 z1 k1=>?_)
    replace z1:XD g1 z p o .ellipsis fl:=z1
    refine C6 ?_
    simp only [List.zipIdx_cons,List.zipIdx_nil,List.forIn_cons,List.forIn_nil]
    refine C6 (C6 (wpAny_onRaise ?_))
    show wpAny _ _ (Builtin.SmallTypes.nextOf (.ref i) >>= _) _ _ _
    cases hx:xs[n]? with
    | none =>
      refine C6 (K4 hh (ii.extBut k1.extBut D.iz) (ht k1 D.az ha) hx fun g2 x k2 h2=>?_)
      obtain ⟨oe,h3,h4⟩:=h2
      have z2:XD g2 z p o .ellipsis fl:=k2 _ _ D.iz.symm z1
      have xz:x≠z:=fun q=>by subst q;rw [z2] at h3;cases h3;simp at h4
      exact wpAny_setField_rec z2 (by simp) fun g3 _ k3=>k g3 x (fun c u c1 _ c3 _ e=>k3.extBut _ _ c1 (k2 _ _ c3 (k1.extBut _ _ c1 e))) ⟨oe,k3.extBut _ _ xz h3,h4⟩
    | some x0 =>
      have hy:ys[n]?=none:=by rcases he with h | h;rw [hx] at h;cases h;exact h
      refine C6 (zf (ii.extBut k1.extBut D.iz) (ht k1 D.az ha) hx fun g2 i2 k2=>C9 ?_)
      have o2:IsPair g2 o u1 u2:=k2.extBut _ _ D.oi (k1.extBut _ _ D.oz oo)
      refine C6 (wpAny_seqItems o2 rfl ?_)
      refine C6 (wpAny_updateSeq_pair o2 fun g3 o3 k3=>?_)
      refine C6 (wpAny_letGo (C9 ?_))
      refine C6 (C6 (wpAny_onRaise ?_))
      show wpAny _ _ (Builtin.SmallTypes.nextOf (.ref j) >>= _) _ _ _
      refine C6 (K4 hh (((jj.extBut k1.extBut D.jz).extBut k2.extBut D.ij.symm).extBut k3.extBut D.oj.symm) (ht k3 D.bo (ht k2 D.bi (ht k1 D.bz hb))) hy fun g4 x k4 h2=>?_)
      obtain ⟨oe,h3,h4⟩:=h2
      have z4:XD g4 z p o .ellipsis fl:=k4 _ _ D.jz.symm (k3.extBut _ _ D.oz.symm (k2.extBut _ _ D.iz.symm z1))
      have xz:x≠z:=fun q=>by subst q;rw [z4] at h3;cases h3;simp at h4
      exact wpAny_setField_rec z4 (by simp) fun g5 _ k5=>k g5 x (fun c u c1 c2 c3 c4 e=>k5.extBut _ _ c1 (k4 _ _ c4 (k3.extBut _ _ c2 (k2.extBut _ _ c3 (k1.extBut _ _ c1 e))))) ⟨oe,k5.extBut _ _ xz h3,h4⟩
  . intro g1 z1 k1 sz1
    simp only [Az,if_false]
    refine C6 ?_
    have ia1:g1.IsTuple a xs:=let ⟨ob,e,r⟩:=ha;⟨ob,k1 _ _ D.az e,r⟩
    have ib1:g1.IsTuple b ys:=let ⟨ob,e,r⟩:=hb;⟨ob,k1 _ _ D.bz e,r⟩
    simp only [List.forIn_toArray,List.forIn_cons,List.forIn_nil]
    refine C6 (C6 (wpAny_holding ?_))
    show wpAny _ _ (Builtin.SmallTypes.nextOf (.ref i) >>= _) _ _ _
    cases hx:xs[n]? with
    | none =>
      exact C6 (K4 (s:={ s with heap:=g1 }) hh (ii.extBut k1 D.iz) ia1 hx fun g2 x k2 h2=>k g2 x (fun c u c1 _ c3 _ e=>k2 _ _ c3 (k1 _ _ c1 e)) h2)
    | some x0 =>
      have hy:ys[n]?=none:=by rcases he with h | h;rw [hx] at h;cases h;exact h
      refine C6 (zf (s:={ s with heap:=g1 }) (ii.extBut k1 D.iz) ia1 hx fun g2 i2 k2=>C9 (C9 ?_))
      refine C6 (C6 (wpAny_holding ?_))
      show wpAny _ _ (Builtin.SmallTypes.nextOf (.ref j) >>= _) _ _ _
      exact C6 (K4 (s:={ s with heap:=g2 }) hh ((jj.extBut k1 D.jz).extBut k2.extBut D.ij.symm) (ht k2 D.bi ib1) hy fun g3 x k3 h2=>k g3 x (fun c u c1 _ c3 c4 e=>k3 _ _ c4 (k2.extBut _ _ c3 (k1 _ _ c1 e))) h2)
end
theorem ZU.at {h h':Heap} {z p o i j a b:Addr} {n:Nat} (S:ZU h z p o i j a b n) (k:∀ c∈[z,p,o,i,j],∀ u,h.get? c=some u->h'.get? c=some u):ZU h' z p o i j a b n:=by
 obtain ⟨⟨f,fl,zz,hf⟩,pp,⟨u1,u2,oo⟩,ii,jj⟩:=S
 exact ⟨⟨f,fl,k z (by simp) _ zz,hf⟩,k p (by simp) _ pp,⟨u1,u2,k o (by simp) _ oo⟩,ii.at fun u e=>k i (by simp) u e,jj.at fun u e=>k j (by simp) u e⟩
inductive QaY:Expr->Prop
 | nm (x:Str) (p:Pos):QaY (.Name x p)
 | tp (l:List Expr) (k:Nat) (p:Pos):QaY (.Tuple l k p)
theorem Qhr {prog:Program} {w:World} {A:Around} {E:Eg} {s:Shared} (ht:QaY tg) {z p o i j a b T:Addr} {n:Nat} {Q:Unit->Shared->Prop} (D:ZA z p o i j a b) (S:ZU s.heap z p o i j a b n) (hQ:∀ h',ZU h' z p o i j a b n->Heap.ExtBut z s.heap h'->Q () { s with heap:=h' }):wpAny (model prog w) A (letOwnedTupleGo tg (.ref z) (.ref T)) Q E s:=by
  cases ht with
  | nm x p'=>exact C9 (hQ s.heap S fun _ _ _ e=>e)
  | tp l k p' =>
    obtain ⟨f,fl,zz,hf⟩:=S.zz
    unfold letOwnedTupleGo
    refine C6 (wpAny_load zz ?_)
    dsimp only
    split
    . refine C6 (wpAny_rule ?_)
      show wpAny _ _ (setField (.ref z) 0 .none) Q E s
      obtain ⟨_,pp,⟨u1,u2,oo⟩,ii,jj⟩:=S
      exact wpAny_setField_rec zz (by simp) fun h' z' k'=>hQ h' ⟨⟨.none,fl,z',.inl rfl⟩,k'.extBut _ _ D.pz pp,⟨u1,u2,k'.extBut _ _ D.oz oo⟩,ii.extBut k'.extBut D.iz,jj.extBut k'.extBut D.jz⟩ k'.extBut
    . exact C9 (hQ s.heap S fun _ _ _ e=>e)
theorem UZ {P:Program} {w:World} {K:Aa} {tg:Expr} (ht:QaY tg) {z p o i j a b:Addr} (D:ZA z p o i j a b):kK P w K tg (Itz K a b) [z,p,o,i,j] z (fun n h=>ZU h z p o i j a b n) where
 mem:=by simp
 obj:=fun n h S c hc=>by
  obtain ⟨⟨f,fl,zz,hf⟩,pp,⟨u1,u2,oo⟩,⟨oi,ei,ci,di⟩,⟨oj,ej,cj,dj⟩⟩:=S
  simp only [Bk,Cf,or_false] at hc
  rcases hc with rfl | rfl | rfl | rfl | rfl
  ·exact ⟨_,zz,fun v q=>by have q':Data.fields _=Data.cell v:=q;cases q'⟩
  ·exact ⟨_,pp,fun v q=>by have q':Data.seq _ _=Data.cell v:=q;cases q'⟩
  ·exact ⟨_,oo,fun v q=>by have q':Data.seq _ _=Data.cell v:=q;cases q'⟩
  ·exact ⟨oi,ei,fun v q=>by rw [di] at q;cases q⟩
  ·exact ⟨oj,ej,fun v q=>by rw [dj] at q;cases q⟩
 keep:=fun n h h' S k=>S.at k
 item:=by
  intro X hP hw hK hc n O9 s σ H E I hf S hg
  subst hP hw hK
  obtain ⟨xs,ys,x,y,qa,qb,hx,hy⟩:=hg
  obtain ⟨ia,ra,pa,_⟩:=I.tuple qa
  obtain ⟨ib,rb,pb,_⟩:=I.tuple qb
  obtain ⟨u,hu,ru⟩:=ra.get hx
  obtain ⟨v,hv,rv⟩:=rb.get hy
  obtain ⟨f0,fl0,zz0,hf0⟩:=S.zz
  have hT:s.TypeIs (.ref z) "zip" := ⟨_,zz0,rfl⟩
  unfold pyNext
  refine C6 (wpAny_attempt (wpAny_callSpecial?_slot (name:=Str.ofString "__next__") hT F.slot_zip_next (wpAny_call_entry F.slot_zip_next hT F.entry_zip_next
   (kG D S (show s.heap.IsTuple a ia.toArray from pa) (show s.heap.IsTuple b ib.toArray from pb) (by simpa using hu) (by simpa using hv) fun g' S' tp sz kp=>C9 ?_) (F.args_zip_next_1 _))))
  refine ⟨_,rfl,Qhr (s:={ s with heap:=g' }) ht D S' fun g2 S' kx=>?_⟩
  replace tp:=kx _ _ (C4 (Ap zz0)) tp
  have kp':∀ c q,c∉[z,p,o,i,j]->s.heap.get? c=some q->g2.get? c=some q:=fun c q hc e=>by
   simp only [Bk,Cf,or_false,not_or] at hc
   refine kx _ _ hc.1 (kp c q hc.1 hc.2.2.1 hc.2.2.2.1 hc.2.2.2.2 e)
  have ne:∀ c∈[z,p,o,i,j],c≠s.heap.objs.size:=fun c hc e=>by
   obtain ⟨_,pp,⟨u1,u2,oo⟩,⟨oi,ei,_⟩,⟨oj,ej,_⟩⟩:=S
   simp only [Bk,Cf,or_false] at hc
   rcases hc with rfl | rfl | rfl | rfl | rfl
   ·exact Bf (Ap zz0) e
   ·exact Bf (Ap pp) e
   ·exact Bf (Ap oo) e
   ·exact Bf (Ap ei) e
   ·exact Bf (Ap ej) e
  refine ⟨.ref s.heap.objs.size,upd H s.heap.objs.size (.tup [x,y]),I.turnNew (t':=s.toks) hf kp' (us:=[u,v]) (.cons ru (.cons rv .nil)) (show 2<=sizeLine by decide) ⟨_,tp,rfl,_,rfl⟩,rfl,
   ⟨_,x,y,I.hok.fresh (Ae _),fun xs' h=>by rw [I.tuple_inj h qa];exact hx,fun ys' h=>by rw [I.tuple_inj h qb];exact hy,rfl,rfl⟩,S',fun c hc=>?_⟩
  rw [QI (ne c hc)];exact (hf c hc).1
 done:=by
  intro X hP hw hK hc n O9 s σ H E I hf S hg
  subst hP hw hK
  obtain ⟨xs,ys,qa,qb,hs⟩:=hg
  obtain ⟨ia,ra,pa,_⟩:=I.tuple qa
  obtain ⟨ib,rb,pb,_⟩:=I.tuple qb
  have l1:=ra.length
  have l2:=rb.length
  obtain ⟨f0,fl0,zz0,hf0⟩:=S.zz
  have hT:s.TypeIs (.ref z) "zip" := ⟨_,zz0,rfl⟩
  unfold pyNext
  refine C6 (wpAny_attempt (wpAny_callSpecial?_slot (name:=Str.ofString "__next__") hT F.slot_zip_next (wpAny_call_entry F.slot_zip_next hT F.entry_zip_next
   (kH (I.ok.hd hc) D S (show s.heap.IsTuple a ia.toArray from pa) (show s.heap.IsTuple b ib.toArray from pb) (by rcases hs with q | q;exact .inl (by simp;lia);exact .inr (by simp;lia)) fun g x kp hx=>?_) (F.args_zip_next_1 _))))
  obtain ⟨ox,h1,h2⟩:=hx
  refine C6 (wpAny_isInstance (T := "StopIteration") (b:=true) ⟨ox,h1,h2⟩ isSubtype_stop ?_)
  refine C9 ⟨rfl,I.turnL (t':=s.toks) hf fun c q hc e=>?_⟩
  simp only [Bk,Cf,or_false,not_or] at hc
  exact kp c q hc.1 hc.2.2.1 hc.2.2.2.1 hc.2.2.2.2 e
 self:=fun _ _ _ _ _ S h=>by
  obtain ⟨f0,fl0,zz0,hf0⟩:=S.zz
  have hT:Shared.TypeIs _ (Value.ref z) "zip" := ⟨_,zz0,rfl⟩
  refine wpAny_pyIter_slot hT F.slot_zip_iter (wpAny_call_entry F.slot_zip_iter hT F.entry_zip_iter ?_ (F.args_zip_iter_1 _))
  exact C9 ⟨_,rfl, "zip", _,hT,(F.slot_zip_next).1,h⟩
section
variable {X:Cx} {xn:Str} {p2:Pos} {O9:Eh} {σ:L2.St}
theorem QcT {E:Eg} {Q:Eg} {a b:Addr} (I:Inv X O9 σ H s) (qa:SqT X.K H a xs) (qb:SqT X.K H b ys)
  (k:∀ (s':Shared) (z p o i j:Addr),Inv X O9 σ H s'->ZA z p o i j a b->ZU s'.heap z p o i j a b 0->(∀ c∈[z,p,o,i,j],xU X O9 H c)->Q (.ref z) s'):wpAny (model X.prog X.w) X.A (call (.type "zip") [.ref a,.ref b]) Q E s:=by
 obtain ⟨ia,ra,pa,_⟩:=I.tuple qa
 obtain ⟨ib,rb,pb,_⟩:=I.tuple qb
 refine callType_new F.called_zip (by decide) (F.typeCall_zip_2 _ _) (F.newCall_zip_2 _ _) (fun obj=>F.args_object_init_3 obj _ _) F.entry_zip_new (Qet a b ia.toArray ib.toArray) ⟨show s.heap.IsTuple a ia.toArray from pa,show s.heap.IsTuple b ib.toArray from pb,?_⟩
 have z1:(zt1 s.heap a).objs.size=s.heap.objs.size+1:=Co ..
 have z2:(zt2 s.heap a b).objs.size=s.heap.objs.size+2:=by rw [Co,z1]
 have z3:(zt3 s.heap a b).objs.size=s.heap.objs.size+3:=by rw [Co,z2]
 have z4:(zt4 s.heap a b).objs.size=s.heap.objs.size+4:=by rw [Co,z3]
 have g5:(zt5 s.heap a b).get? (zt4 s.heap a b).objs.size=some _:=Av _ rfl
 have g4:(zt5 s.heap a b).get? (zt3 s.heap a b).objs.size=some _:=Ad _ (Av _ rfl)
 have g3:(zt5 s.heap a b).get? (zt2 s.heap a b).objs.size=some _:=Ad _ (Ad _ (Av _ rfl))
 have g2:(zt5 s.heap a b).get? (zt1 s.heap a).objs.size=some _:=Ad _ (Ad _ (Ad _ (Av _ rfl)))
 have g1:(zt5 s.heap a b).get? s.heap.objs.size=some _:=Ad _ (Ad _ (Ad _ (Ad _ (Av _ rfl))))
 show _/\_
 have kp:∀ c o,s.heap.get? c=some o->(zt5 s.heap a b).get? c=some o:=fun c o e=>Ad _ (Ad _ (Ad _ (Ad _ (Ad _ e))))
 refine ⟨⟨_,g5,rfl⟩,?_⟩
 rw [z2,z3,z4] at g5
 rw [z1,z2] at g3
 rw [z3] at g4
 rw [z1] at g2
 rw [z4]
 have la:a < s.heap.objs.size:=by obtain ⟨o,e,_⟩:=pa;exact Ap e
 have lb:b < s.heap.objs.size:=by obtain ⟨o,e,_⟩:=pb;exact Ap e
 have D:ZA (s.heap.objs.size+4) (s.heap.objs.size+2) (s.heap.objs.size+3) s.heap.objs.size (s.heap.objs.size+1) a b:=by constructor<;>first | exact Bf la | exact Bf lb | exact Bf (Ay la (Nat.le_add_right _ _)) | exact Bf (Ay lb (Nat.le_add_right _ _)) | exact Bf (by lia) | exact C4 (by lia)
 have I1:Inv X O9 σ H { s with heap:=zt5 s.heap a b }:=I.kept (t':=s.toks) kp
 have S:ZU (zt5 s.heap a b) (s.heap.objs.size+4) (s.heap.objs.size+2) (s.heap.objs.size+3) s.heap.objs.size (s.heap.objs.size+1) a b 0:=⟨⟨_,_,g5,.inl rfl⟩,g3,⟨_,_,g4⟩,⟨_,g1,rfl,rfl⟩,⟨_,g2,rfl,rfl⟩⟩
 refine k { s with heap:=zt5 s.heap a b } _ _ _ _ _ I1 D S fun c hc=>?_
 have hc':s.heap.objs.size<=c:=by
  simp only [Bk,Cf,or_false] at hc
  rcases hc with rfl | rfl | rfl | rfl | rfl<;>first | exact Ae _ | exact Nat.le_add_right _ _
 exact I.fpOk hc' (I.hok.fresh hc')
theorem kD (ht:QaY tg) {R:It->Hp->Prop} {E:Eg} {a b:Addr} (I:Inv X O9 σ H s) (qa:SqT X.K H a xs) (qb:SqT X.K H b ys) (q:R (Itz X.K a b) H):
  wpAny (model X.prog X.w) X.A (call (.type "zip") [.ref a,.ref b]) (fun v s1=>wpAny (model X.prog X.w) X.A (pyIter v) (PIE X O9 σ tg R) E s1) E s :=
 QcT I qa qb fun s' z p o i j I1 D S hf=>(UZ (K:=X.K) ht D).self _ _ _ _ _ S ⟨_,[z,p,o,i,j],_,Itz X.K a b,H,rfl,I1,UZ ht D,S,hf,q⟩
theorem QdP {p pos:Pos} (hg:Gl X "zip") (hm:X.mg "zip" = none) (ha:PA X [x,y] ta) (hs:starEach [x,y] X.env=[(false,eval x X.env),(false,eval y X.env)]:=by rfl) (hs2:starEach [y] X.env=[(false,eval y X.env)]:=by rfl):
    PI X (.Name xn p2) (.Call (.Name "zip" p) [x,y] [] pos) (QgK X.K ta):=by
  intro O9 s σ H R I h
  refine Call_ (qO I hg hm boot_zip (PyProof.Rows.callWith_type1 (thn (ha pos O9 s σ H _ I h) fun us s1 ⟨vs,H1,I1,r1,q1⟩=>?_) (by rw [hs,hs2]) (by rw [hs2];rfl)))
  obtain ⟨a,b,xs,ys,e,qa,qb,q⟩:=q1
  subst e
  cases r1 with
  | cons r rr =>
    cases rr with
    | cons r' rr =>
      cases rr
      cases r
      cases r'
      exact kD (.nm ..) I1 qa qb q
end
end L2
namespace D
open PySem PySem.Spec PyProof.Rows L2
section
variable {X:Cx} {xn:Str} {p2:Pos} {f g:DEx}
theorem Qc7 {p pos:Pos} (hg:Gl X "zip") (hm:X.mg "zip" = none) (hx:DE X x f) (hy:DE X y g) (hs:starEach [x,y] X.env=[(false,eval x X.env),(false,eval y X.env)]:=by rfl) (hs2:starEach [y] X.env=[(false,eval y X.env)]:=by rfl):
  DI X (.Name xn p2) (.Call (.Name "zip" p) [x,y] [] pos) (v7 f g) :=
 L2.PI.imp (QdP hg hm (JJ hx (JJ hy pa_nil (by rw [hs2];rfl)) (by rw [hs,hs2])) hs hs2) fun σ H R zz1=>by
  obtain ⟨Z,env,ρ,B,U,ds,hp',S,e,k⟩:=zz1
  obtain ⟨d1,hp1,e1,e⟩:=Qe e
  obtain ⟨xs,hp2,e2,e⟩:=Qe e
  obtain ⟨rfl,rfl⟩:=XW e2
  obtain ⟨d2,hp3,e3,e⟩:=Qe e
  obtain ⟨ys,hp4,e4,e⟩:=Qe e
  obtain ⟨rfl,rfl⟩:=XW e4
  obtain ⟨rfl,rfl⟩:=Qh e
  refine tD.run S e1 fun v ρ1 B1 H1 g1 S1 r1=>tD.run S1 e3 fun u ρ2 B2 H2 g2 S2 r2=>?_
  obtain ⟨a,vs,rfl,na,qa,la⟩:=(RepV.grow S1.wo.rb g2 _ _ r1).tupI
  obtain ⟨b,us,rfl,nb,qb,lb⟩:=r2.tupI
  exact ⟨a,b,vs,us,rfl,qa,qb,k _ ρ2 B2 H2 (g1.trans g2) S2.wo (QbD na qa la nb qb lb)⟩
end
end D
namespace TR
structure Pg where
 lv:Nat
 ks:List Int
 ps:List Int
 hi:Option Int
 sd:Option Nat
structure Sh where
 O2:Nat
 pg:List Pg
 top:Nat
 rd:Int
 wr:Int
inductive Deed where
 | find (k:Int) | put (k w:Int) | cut (k:Int) | stretch (l h:Int)
def Deed.key:Deed->Int
 | .find k=>k
 | .put k _=>k
 | .cut k=>k
 | .stretch l _=>l
structure Wk where
 O0:Deed
 aim:Int
 O4:Nat
 O6:Option Nat
 O3:List (Nat×Nat)
 Oz:Option Nat
 O1:Option Int
 O5:List (Int×Int)
 O7:Bool
inductive Row where
 | non
 | side (n t:Nat)
 | down (n t:Nat)
 | found (n:Nat) (w:Option Int)
 | put (n:Nat) (w:Option Int) (k:Option Nat)
 | cut (n:Nat) (w:Option Int)
 | read (n:Nat) (ps:Ek) (t:Option (Nat×Int))
 | told (n:Nat) (k:Option Nat)
 | raised (n t:Nat)
def cLe (ks:List Int) (k:Int):Nat:=(ks.filter fun x=>decide (x<=k)).length
def cLt (ks:List Int) (k:Int):Nat:=(ks.filter fun x=>decide (x < k)).length
def Jj (fs:List (Nat×Nat)) (k:Nat):Option Nat:=(fs.find? fun p=>decide (p.1=k)).map (·.2)
def zR (fs:List (Nat×Nat)) (k v:Nat):List (Nat×Nat):=if (fs.any fun p=>decide (p.1=k))=true then fs.map (fun p=>if p.1=k then (p.1,v) else p) else fs++[(k,v)]
def Ze (p:Pg) (k:Int):Bool:=match p.hi with
 | none=>false
 | some h=>decide (h<=k)
def QK (p:Pg) (k:Int):Option Int:=if cLt p.ks k=cLe p.ks k then none else p.ps[cLt p.ks k]?
def QG (p:Pg) (k w:Int):Pg:={ p with ks:=p.ks.take (cLt p.ks k)++k::p.ks.drop (cLe p.ks k),ps:=p.ps.take (cLt p.ks k)++w::p.ps.drop (cLe p.ks k) }
def without (p:Pg) (k:Int):Pg:={ p with ks:=p.ks.take (cLt p.ks k)++p.ks.drop (cLe p.ks k),ps:=p.ps.take (cLt p.ks k)++p.ps.drop (cLe p.ks k) }
def Q1 (p:Pg) (k:Int) (c:Nat):Pg:={ p with ks:=p.ks.take (cLe p.ks k)++k::p.ks.drop (cLe p.ks k),ps:=p.ps.take (cLe p.ks k+1)++(c:Int)::p.ps.drop (cLe p.ks k+1) }
def mid (p:Pg):Nat:=p.ks.length / 2
def Zf (p:Pg):Nat:=if p.lv=0 then mid p else mid p+1
def JI (p:Pg):Int:=p.ks.getD (mid p) 0
def QN (p:Pg) (n:Nat):Pg:=⟨p.lv,p.ks.take (mid p),p.ps.take (Zf p),some (JI p),some n⟩
def QB (p:Pg):Pg:=⟨p.lv,p.ks.drop (Zf p),p.ps.drop (Zf p),p.hi,p.sd⟩
def Qr (S:Sh) (w:Wk) (n:Nat) (p:Pg):Option Nat×Sh×Wk :=
 if p.ks.length<=S.O2 then (none,{ S with pg:=S.pg.set n p,wr:=S.wr+1 },{ w with O7:=true })
 else (some S.pg.length,{ S with pg:=(S.pg++[QB p]).set n (QN p S.pg.length),wr:=S.wr+1+1 },{ w with Oz:=some S.pg.length,aim:=JI p,O4:=p.lv+1,O6:=Jj w.O3 (p.lv+1) })
def QO (p:Pg) (l h:Int):List (Int×Int):=(p.ks.zip p.ps).filter fun q=>decide (l<=q.1)&&decide (q.1 < h)
def ZZ (S:Sh) (w:Wk) (n:Nat) (p:Pg):Row×Sh×Wk:=match w.O0 with
  | .find _=>(.found n (QK p w.aim),S,{ w with O1:=QK p w.aim,O7:=true })
  | .put _ x=>match Qr S { w with O1:=QK p w.aim } n (QG p w.aim x) with
    | (r,S2,w2)=>(.put n (QK p w.aim) r,S2,w2)
  | .cut _=>(.cut n (QK p w.aim),if (QK p w.aim).isSome=true then { S with pg:=S.pg.set n (without p w.aim),wr:=S.wr+1 } else S,{ w with O1:=QK p w.aim,O7:=true })
  | .stretch l h=>match p.hi,p.sd with
    | some x,some s=>if h<=x then (.read n (QO p l h) none,S,{ w with O5:=w.O5++QO p l h,O7:=true })
        else (.read n (QO p l h) (some (s,x)),S,{ w with O5:=w.O5++QO p l h,aim:=x,O6:=some s })
    | _,_=>(.read n (QO p l h) none,S,{ w with O5:=w.O5++QO p l h,O7:=true })
def Jp (S:Sh) (w:Wk):Option (Row×Sh×Wk) :=
  if w.O7=true then some (.non,S,w) else
  match S.pg[w.O6.getD S.top]? with
  | none=>none
  | some p =>
    if w.O6=none/\p.lv < w.O4 then
      match w.Oz with
      | none=>none
      | some k=>some (.raised S.top S.pg.length,{ S with rd:=S.rd+1,pg:=S.pg++[⟨p.lv+1,[w.aim],[(S.top:Int),(k:Int)],none,none⟩],top:=S.pg.length,wr:=S.wr+1 },{ w with O7:=true })
    else if Ze p w.aim=true then
      match p.sd with
      | none=>none
      | some s=>some (.side (w.O6.getD S.top) s,{ S with rd:=S.rd+1 },{ w with O6:=some s })
    else if w.O4 < p.lv then
      match p.ps[cLe p.ks w.aim]? with
      | none=>none
      | some c=>some (.down (w.O6.getD S.top) c.toNat,{ S with rd:=S.rd+1 },{ w with O3:=zR w.O3 p.lv (w.O6.getD S.top),O6:=some c.toNat })
    else if 0 < w.O4 then
      match w.Oz with
      | none=>none
      | some k=>match Qr { S with rd:=S.rd+1 } w (w.O6.getD S.top) (Q1 p w.aim k) with
        | (r,S2,w2)=>some (.told (w.O6.getD S.top) r,S2,w2)
    else some (ZZ { S with rd:=S.rd+1 } w (w.O6.getD S.top) p)
theorem Yk {ks:List Int} (h:ks.Pairwise (· < ·)) (k:Int):ks.take (cLe ks k)=ks.filter (fun x=>decide (x<=k))/\ks.drop (cLe ks k)=ks.filter (fun x=>decide (k < x)):=by
  unfold cLe
  induction ks with
  | nil=>simp
  | cons x xs ih =>
    obtain ⟨h1,h2⟩:=Cp.mp h
    by_cases q:x<=k
    . obtain ⟨i1,i2⟩:=ih h2
      have q':¬ k < x:=by lia
      simp [As,q,q',i1,i2]
    . have e:xs.filter (fun y=>decide (y<=k))=[]:=by
        rw [List.filter_eq_nil_iff]
        intro y hy;have:=h1 y hy;simp;lia
      have e2:xs.filter (fun y=>decide (k < y))=xs:=by
        rw [Cs]
        intro y hy;have:=h1 y hy;simp;lia
      have q':k < x:=by lia
      simp [As,q,q',e,e2]
theorem qj {ks:List Int} (h:ks.Pairwise (· < ·)) (k:Int):ks.take (cLt ks k)=ks.filter (fun x=>decide (x < k))/\ks.drop (cLt ks k)=ks.filter (fun x=>decide (k<=x)):=by
  unfold cLt
  induction ks with
  | nil=>simp
  | cons x xs ih =>
    obtain ⟨h1,h2⟩:=Cp.mp h
    by_cases q:x < k
    . obtain ⟨i1,i2⟩:=ih h2
      have q':¬ k<=x:=by lia
      simp [As,q,q',i1,i2]
    . have e:xs.filter (fun y=>decide (y < k))=[]:=by
        rw [List.filter_eq_nil_iff]
        intro y hy;have:=h1 y hy;simp;lia
      have e2:xs.filter (fun y=>decide (k<=y))=xs:=by
        rw [Cs]
        intro y hy;have:=h1 y hy;simp;lia
      have q':k<=x:=by lia
      simp [As,q,q',e,e2]
def JB (ks:List Int) (k:Int):cLe ks k<=ks.length:=Cb _ _
def jY (ks:List Int) (k:Int):cLt ks k<=ks.length:=Cb _ _
theorem Kg (ks:List Int) (k:Int):cLt ks k<=cLe ks k:=by
  unfold cLt cLe
  induction ks with
  | nil=>simp
  | cons x xs ih =>
    by_cases q:x < k
    . have:x<=k:=by lia
      simp [As,q,this,ih]
    . by_cases q2:x<=k
      . simp [As,q,q2];lia
      . simp [As,q,q2,ih]
theorem Qa5 {ks:List Int} (h:ks.Pairwise (· < ·)) (k:Int):cLe ks k<=cLt ks k+1:=by
  unfold cLt cLe
  induction ks with
  | nil=>simp
  | cons x xs ih =>
    obtain ⟨h1,h2⟩:=Cp.mp h
    by_cases q:x < k
    . have:x<=k:=by lia
      have:=ih h2
      simp [As,q, *]
    . have e:xs.filter (fun y=>decide (y<=k))=[]:=by
        rw [List.filter_eq_nil_iff]
        intro y hy;have:=h1 y hy;simp;lia
      by_cases q2:x<=k<;>simp [As,q,q2,e]
theorem yL {ks:List Int} (h:ks.Pairwise (· < ·)) (k:Int):(ks.take (cLt ks k)++k::ks.drop (cLe ks k)).Pairwise (· < ·):=by
 rw [(qj h k).1,(Yk h k).2]
 rw [Bv]
 refine ⟨h.filter _,Cp.mpr ⟨fun y hy=>?_,h.filter _⟩,fun x hx y hy=>?_⟩
 ·simpa using (Bm.mp hy).2
 ·have h1:x < k:=by simpa using (Bm.mp hx).2
  rcases Bk.mp hy with rfl | hy
  ·exact h1
  ·have h2:k < y:=by simpa using (Bm.mp hy).2
   lia
theorem js {ks:List Int} (h:ks.Pairwise (· < ·)) {k x:Int} (hx:x∈ks.take (cLt ks k)++k::ks.drop (cLe ks k)):x=k∨x∈ks:=by
 rcases Ai.mp hx with hx | hx
 ·exact .inr (Bx hx)
 ·rcases Bk.mp hx with rfl | hx
  ·exact .inl rfl
  ·exact .inr (Cd hx)
theorem vP {ks:List Int} (h:ks.Pairwise (· < ·)) (k:Int):(ks.take (cLt ks k)++ks.drop (cLe ks k)).Pairwise (· < ·):=by
 rw [(qj h k).1,(Yk h k).2]
 rw [Bv]
 refine ⟨h.filter _,h.filter _,fun x hx y hy=>?_⟩
 have h1:x < k:=by simpa using (Bm.mp hx).2
 have h2:k < y:=by simpa using (Bm.mp hy).2
 lia
theorem gj {ks:List Int} {k x:Int} (hx:x∈ks.take (cLt ks k)++ks.drop (cLe ks k)):x∈ks:=by
 rcases Ai.mp hx with hx | hx
 ·exact Bx hx
 ·exact Cd hx
theorem Qa6 {ks:List Int} (h:k∉ks):cLt ks k=cLe ks k:=by
 unfold cLt cLe
 congr 1
 apply List.filter_congr
 intro x hx
 have:x≠k:=fun e=>h (e▸hx)
 by_cases q:x < k
 ·have:x<=k:=by lia
  simp [q,this]
 ·have:¬ x<=k:=by lia
  simp [q,this]
theorem qH (fs:List (Nat×Nat)) (k v j:Nat):Jj (zR fs k v) j=if j=k then some v else Jj fs j:=by
  unfold zR Jj
  by_cases h:(fs.any fun p=>decide (p.1=k))=true
  . rw [C8 h]
    induction fs with
    | nil=>simp at h
    | cons p fs ih =>
      simp only [Bb,B8]
      by_cases q:p.1=k
      . by_cases e:j=k
        . subst e;simp [q]
        . have:¬ k=j:=fun z=>e z.symm
          simp only [q,if_true,this,decide_false]
          by_cases h2:(fs.any fun p=>decide (p.1=k))=true
          . have:=ih h2;simpa [e] using this
          . have hid:fs.map (fun p=>if p.1=k then (p.1,v) else p)=fs:=by
              conv=>rhs;rw [<- List.map_id fs]
              apply List.map_congr_left
              intro x hx
              have:¬ x.1=k:=fun z=>h2 (by rw [List.any_eq_true];exact ⟨x,hx,by simpa using z⟩)
              simp [this]
            rw [hid,C7 e]
      . have h2:(fs.any fun p=>decide (p.1=k))=true:=by simpa [List.any_cons,q] using h
        have:=ih h2
        simp only [q,if_false]
        by_cases e:p.1=j
        . have:¬ j=k:=fun z=>q (e.trans z)
          simp [e,this]
        . simpa [e] using this
  . rw [C7 h,List.find?_append]
    have hn:∀ p∈fs,¬ p.1=k:=fun p U z=>h (by rw [List.any_eq_true];exact ⟨p,U,by simpa using z⟩)
    by_cases e:j=k
    . subst e
      have:fs.find? (fun p=>decide (p.1=j))=none:=by
        rw [List.find?_eq_none];intro p U;simpa using hn p U
      simp [this]
    . have:¬ k=j:=fun z=>e z.symm
      simp [this,e]
abbrev Bg:=Nat->Option Int
def leB (b:Option Int) (x:Int):Prop:=∀ v,b=some v->v<=x
def ltB (b:Option Int) (x:Int):Prop:=∀ v,b=some v->v < x
def ltH (x:Int) (h:Option Int):Prop:=∀ v,h=some v->x < v
def leBB (b c:Option Int):Prop:=∀ v,b=some v->∃ u,c=some u/\v<=u
def leBB.refl (b:Option Int):leBB b b:=fun v h=>⟨v,h,Bo _⟩
theorem leBB.trans {a b c:Option Int} (h:leBB a b) (g:leBB b c):leBB a c:=fun v e=>by
 obtain ⟨u,e1,l1⟩:=h v e
 obtain ⟨x,e2,l2⟩:=g u e1
 exact ⟨x,e2,by lia⟩
theorem leBB.leB {a b:Option Int} {x:Int} (h:leBB a b) (g:leB b x):leB a x:=fun v e=>by
 obtain ⟨u,e1,l1⟩:=h v e
 have:=g u e1;lia
def Z7 (b:Option Int) (ks:List Int):Nat->Option Int
 | 0=>b
 | j+1=>ks[j]?
structure Js (O2:Nat) (b:Option Int) (p:Pg):Prop where
 sorted:p.ks.Pairwise (· < ·)
 few:p.ks.length<=O2
 parts:p.ps.length=p.ks.length+(if p.lv=0 then 0 else 1)
 low:∀ k∈p.ks,leB b k
 lowF:0 < p.lv->∀ k∈p.ks,ltB b k
 high:∀ k∈p.ks,ltH k p.hi
 wide:∀ h,p.hi=some h->ltB b h
structure Tree (S:Sh) (bg:Bg):Prop where
 room2:2<=S.O2
 root:∃ r:Pg,S.pg[S.top]?=some r/\∀ (n:Nat) (p:Pg),S.pg[n]?=some p->p.lv<=r.lv
 rbg:bg S.top=none
 page:∀ (n:Nat) (p:Pg),S.pg[n]?=some p->Js S.O2 (bg n) p
 link:∀ (n:Nat) (p:Pg),S.pg[n]?=some p->(p.hi=none/\p.sd=none)∨∃ (h:Int) (s:Nat) (q:Pg),p.hi=some h/\p.sd=some s/\S.pg[s]?=some q/\q.lv=p.lv/\bg s=some h
 kid:∀ (n:Nat) (p:Pg),S.pg[n]?=some p->0 < p.lv->∀ j k,p.ps[j]?=some k->∃ (c:Nat) (q:Pg),k=(c:Int)/\S.pg[c]?=some q/\q.lv+1=p.lv/\bg c=Z7 (bg n) p.ks j
 dis:∀ (n m:Nat) (p q:Pg),S.pg[n]?=some p->S.pg[m]?=some q->p.lv=q.lv->n≠m->(∃ h v,p.hi=some h/\bg m=some v/\h<=v)∨(∃ h v,q.hi=some h/\bg n=some v/\h<=v)
 pred:∀ (n:Nat) (p:Pg),S.pg[n]?=some p->∀ v,bg n=some v->∃ (m:Nat) (q:Pg),S.pg[m]?=some q/\q.lv=p.lv/\q.hi=some v
theorem Tree.uniq {S:Sh} {bg:Bg} (T:Tree S bg) {n m:Nat} {p q:Pg} (hn:S.pg[n]?=some p) (hm:S.pg[m]?=some q) (hl:p.lv=q.lv) (hb:bg n=bg m):n=m:=by
 rcases Nat.decEq n m with h | h
 ·exfalso
  rcases T.dis n m p q hn hm hl h with ⟨x,v,h1,h2,h3⟩ | ⟨x,v,h1,h2,h3⟩
  ·have:=(T.page n p hn).wide x h1 v (hb.trans h2);lia
  ·have:=(T.page m q hm).wide x h1 v (hb.symm.trans h2);lia
 ·exact h
structure Grow (S:Sh) (bg:Bg) (S':Sh) (bg':Bg):Prop where
 old:∀ (n:Nat) (p:Pg),S.pg[n]?=some p->bg' n=bg n/\∃ p':Pg,S'.pg[n]?=some p'/\p'.lv=p.lv
def Grow.refl:Grow S bg S bg:=⟨fun n p h=>⟨rfl,p,h,rfl⟩⟩
theorem Grow.trans (a:Grow S bg S' bg') (b:Grow S' bg' S'' bg''):Grow S bg S'' bg'':=⟨fun n p h=>by
 obtain ⟨e1,p1,h1,l1⟩:=a.old n p h
 obtain ⟨e2,p2,h2,l2⟩:=b.old n p1 h1
 exact ⟨e2.trans e1,p2,h2,l2.trans l1⟩⟩
def Untold (S:Sh) (k:Nat):Prop:=∀ (n:Nat) (p:Pg),S.pg[n]?=some p->0 < p.lv->(k:Int)∉p.ps
structure WOk (S:Sh) (bg:Bg) (w:Wk):Prop where
 at_:∀ n:Nat,w.O6=some n->∃ p:Pg,S.pg[n]?=some p/\w.O4<=p.lv/\leB (bg n) w.aim
 none_:w.O6=none->∀ l f,Jj w.O3 l=some f->l < w.O4
 kept:∀ l f,Jj w.O3 l=some f->∃ p:Pg,S.pg[f]?=some p/\p.lv=l
 above:∀ (n:Nat) (p:Pg),w.O6=some n->S.pg[n]?=some p->∀ l f,Jj w.O3 l=some f->p.lv < l->leBB (bg f) (bg n)
 chain:∀ l f l' f',Jj w.O3 l=some f->Jj w.O3 l'=some f'->w.O4<=l->l < l'->leBB (bg f') (bg f)
 gap:∀ (n:Nat) (p:Pg),w.O6=some n->S.pg[n]?=some p->w.O4 < p.lv->∀ l f,Jj w.O3 l=some f->l < w.O4∨p.lv < l
 full:∀ (n:Nat) (p:Pg),w.O6=some n->S.pg[n]?=some p->∀ l' f',Jj w.O3 l'=some f'->∀ l,p.lv < l->l<=l'->∃ f,Jj w.O3 l=some f
 tell:0 < w.O4->∃ (k:Nat) (q:Pg),w.Oz=some k/\S.pg[k]?=some q/\q.lv+1=w.O4/\bg k=some w.aim
theorem WOk.fresh {w:Wk} (h1:w.O6=none) (h2:w.O3=[]) (h3:w.O4=0):WOk S bg w where
 at_:=fun n h=>by rw [h1] at h;cases h
 none_:=fun _ l f h=>by rw [h2] at h;cases h
 kept:=fun l f h=>by rw [h2] at h;cases h
 above:=fun n p h=>by rw [h1] at h;cases h
 chain:=fun l f l' f' h=>by rw [h2] at h;cases h
 gap:=fun n p h=>by rw [h1] at h;cases h
 full:=fun n p h=>by rw [h1] at h;cases h
 tell:=fun h=>by lia
theorem Jw {α:Type} {xs:List α} {n m:Nat} {x y:α} (h:(xs.set n x)[m]?=some y):(m=n/\y=x/\n < xs.length)∨(m≠n/\xs[m]?=some y):=by
 by_cases e:m=n
 ·subst e
  by_cases hl:m < xs.length
  ·rw [Au hl] at h;cases h;exact .inl ⟨rfl,rfl,hl⟩
  ·rw [List.getElem?_eq_none (by simpa using hl)] at h;cases h
 ·rw [Am (Ne.symm e)] at h;exact .inr ⟨e,h⟩
theorem ko {α:Type} {xs:List α} {n m:Nat} {x y:α} (h:xs[m]?=some y):(xs.set n x)[m]?=some (if m=n then x else y):=by
 have hl:=(Ac.mp h).1
 by_cases e:m=n
 ·subst e;rw [Au hl,C8 rfl]
 ·rw [Am (Ne.symm e),h,C7 e]
theorem Tree.write {S:Sh} {bg:Bg} (T:Tree S bg) {n:Nat} {p p':Pg} {x y:Int} (hn:S.pg[n]?=some p) (hl:p'.lv=p.lv) (hh:p'.hi=p.hi) (hs:p'.sd=p.sd) (ok:Js S.O2 (bg n) p')
  (hk:0 < p.lv->∀ j k,p'.ps[j]?=some k->∃ (c:Nat) (q:Pg),k=(c:Int)/\S.pg[c]?=some q/\q.lv+1=p.lv/\bg c=Z7 (bg n) p'.ks j) :
  Tree { S with pg:=S.pg.set n p',rd:=x,wr:=y } bg/\Grow S bg { S with pg:=S.pg.set n p',rd:=x,wr:=y } bg:=by
 have old:∀ (m:Nat) (q:Pg),S.pg[m]?=some q->∃ q':Pg,(S.pg.set n p')[m]?=some q'/\q'.lv=q.lv/\q'.hi=q.hi/\q'.sd=q.sd:=fun m q h=>by
  refine ⟨_,ko h,?_⟩
  by_cases e:m=n
  ·subst e;rw [hn] at h;cases h;simp [hl,hh,hs]
  ·simp [e]
 have new:∀ (m:Nat) (q':Pg),(S.pg.set n p')[m]?=some q'->∃ q:Pg,S.pg[m]?=some q/\q'.lv=q.lv/\q'.hi=q.hi/\q'.sd=q.sd:=fun m q' h=>by
  rcases Jw h with ⟨rfl,rfl,_⟩ | ⟨_,h⟩
  ·exact ⟨p,hn,hl,hh,hs⟩
  ·exact ⟨q',h,rfl,rfl,rfl⟩
 refine ⟨⟨T.room2,?_,T.rbg,fun m q h=>?_,fun m q h=>?_,fun m q h h0 j k hj=>?_,fun a b q r ha hb hab e=>?_,fun m q h v hv=>?_⟩,⟨fun m q h=>⟨rfl,by obtain ⟨q',h1,h2,_⟩:=old m q h;exact ⟨q',h1,h2⟩⟩⟩⟩
 ·obtain ⟨r,h1,h2⟩:=T.root
  obtain ⟨r',h3,h4,_⟩:=old _ _ h1
  exact ⟨r',h3,fun m q h=>by obtain ⟨q0,h5,h6,_⟩:=new m q h;rw [h6,h4];exact h2 m q0 h5⟩
 ·rcases Jw h with ⟨rfl,rfl,_⟩ | ⟨_,h⟩
  ·exact ok
  ·exact T.page m q h
 ·obtain ⟨q0,h1,h2,h3,h4⟩:=new m q h
  rcases T.link m q0 h1 with ⟨a,b⟩ | ⟨x,s,r,a,b,c,d,e⟩
  ·exact .inl ⟨h3.trans a,h4.trans b⟩
  ·obtain ⟨r',c1,c2,_⟩:=old s r c
   exact .inr ⟨x,s,r',h3.trans a,h4.trans b,c1,by rw [c2,d,h2],e⟩
 ·rcases Jw h with ⟨rfl,rfl,_⟩ | ⟨_,h⟩
  ·obtain ⟨c,r,h1,h2,h3,h4⟩:=hk (by lia) j k hj
   obtain ⟨r',c1,c2,_⟩:=old c r h2
   exact ⟨c,r',h1,c1,by lia,h4⟩
  ·obtain ⟨c,r,h1,h2,h3,h4⟩:=T.kid m q h h0 j k hj
   obtain ⟨r',c1,c2,_⟩:=old c r h2
   exact ⟨c,r',h1,c1,by lia,h4⟩
 ·obtain ⟨q0,h1,h2,h3,_⟩:=new a q ha
  obtain ⟨r0,h5,h6,h7,_⟩:=new b r hb
  rw [h3,h7]
  exact T.dis a b q0 r0 h1 h5 (by lia) e
 ·obtain ⟨q0,h1,h2,_⟩:=new m q h
  obtain ⟨a,r,h3,h4,h5⟩:=T.pred m q0 h1 v hv
  obtain ⟨r',c1,c2,c3,_⟩:=old a r h3
  exact ⟨a,r',c1,by lia,c3.trans h5⟩
theorem Jb {α:Type} {xs:List α} {x:α} {m:Nat} {y:α} (h:(xs++[x])[m]?=some y):(m=xs.length/\y=x)∨xs[m]?=some y:=by
 rcases Bh m xs.length with q | q
 ·rw [Ah q] at h;exact .inr h
 ·rw [Aq q] at h
  by_cases e:m - xs.length=0
  ·rw [e] at h;simp at h;exact .inl ⟨by lia,h.symm⟩
  ·rw [List.getElem?_eq_none (by simp;lia)] at h;cases h
theorem JF {α:Type} {xs:List α} {x:α} {m:Nat} {y:α} (h:xs[m]?=some y):(xs++[x])[m]?=some y:=by
 rw [Ah (Ac.mp h).1];exact h
def Q4 {α:Type} {xs:List α} {m:Nat} {y:α} (h:xs[m]?=some y):m < xs.length:=(Ac.mp h).1
def XL (bg:Bg) (l:Nat) (k:Option Int):Bg:=fun i=>if i=l then k else bg i
theorem Ua {bg:Bg} {l:Nat} {k:Option Int} {i:Nat} (h:i < l):XL bg l k i=bg i:=by unfold XL;rw [C7 (by lia)]
theorem Z3 {l:Nat} {k:Option Int}:XL bg l k l=k:=by unfold XL;rw [C8 rfl]
section
variable {S:Sh} {bg:Bg} {n:Nat} {p P:Pg}
theorem Yc (h3:1<=P.ks.length):P.ks[mid P]?=some (JI P):=by
 have:mid P < P.ks.length:=by unfold mid;lia
 unfold JI
 rw [List.getD_eq_getElem?_getD,Ab this];rfl
theorem X9 {ks:List Int} (h:ks.Pairwise (· < ·)) {i j:Nat} {x y:Int} (hi:ks[i]?=some x) (hj:ks[j]?=some y) (hij:i < j):x < y:=by
 obtain ⟨a,rfl⟩:=Ac.mp hi
 obtain ⟨b,rfl⟩:=Ac.mp hj
 exact List.pairwise_iff_getElem.mp h i j a b hij
theorem Kt (ok:Js P.ks.length (bg n) P) (h3:3<=P.ks.length):ltB (bg n) (JI P):=by
 intro v hv
 have h0:P.ks[0]?=some (P.ks[0]'(by lia)):=Ab _
 have a:=ok.low _ (B9 (by lia:0 < P.ks.length)) v hv
 have b:=X9 ok.sorted h0 (Yc (P:=P) (by lia)) (by unfold mid;lia)
 lia
theorem Qfu (ok:Js P.ks.length (bg n) P) (h3:3<=P.ks.length) (hr:P.ks.length<=S.O2+1) (l:Nat):Js S.O2 (bg n) (QN P l) where
 sorted:=ok.sorted.sublist (List.take_sublist _ _)
 few:=by show (P.ks.take (mid P)).length<=_;rw [A9];unfold mid;lia
 parts:=by
  show (P.ps.take (Zf P)).length=(P.ks.take (mid P)).length+(if P.lv=0 then 0 else 1)
  have:=ok.parts
  rw [A9,A9]
  unfold Zf mid
  split at this<;>split<;>simp_all<;>lia
 low:=fun k hk=>ok.low k (Bx hk)
 lowF:=fun h k hk=>ok.lowF h k (Bx hk)
 high:=fun k hk v hv=>by
  cases hv
  obtain ⟨i,hi,e⟩:=Cr.mp hk
  simp only [QN,Cw] at e
  have hi':i < mid P:=by have:=hi;rw [show (QN P l).ks=P.ks.take (mid P) from rfl,A9] at this;lia
  exact X9 ok.sorted (i:=i) (by rw [<- e];exact Ab _) (Yc (P:=P) (by lia)) hi'
 wide:=fun h hh=>by cases hh;exact Kt ok h3
theorem Qfq (ok:Js P.ks.length (bg n) P) (h3:3<=P.ks.length) (hr:P.ks.length<=S.O2+1):Js S.O2 (some (JI P)) (QB P) where
 sorted:=ok.sorted.sublist (List.drop_sublist _ _)
 few:=by show (P.ks.drop (Zf P)).length<=_;rw [Bq];unfold Zf mid;split<;>lia
 parts:=by
  show (P.ps.drop (Zf P)).length=(P.ks.drop (Zf P)).length+(if P.lv=0 then 0 else 1)
  have:=ok.parts
  rw [Bq,Bq]
  unfold Zf mid
  split at this<;>split<;>simp_all<;>lia
 low:=fun k hk v hv=>by
  cases hv
  obtain ⟨i,hi,e⟩:=Cr.mp hk
  rw [show (QB P).ks=P.ks.drop (Zf P) from rfl] at hi
  have hi2:Zf P+i < P.ks.length:=by rw [Bq] at hi;lia
  have e':P.ks[Zf P+i]?=some k:=by rw [<- e];rw [Ab hi2];simp [QB]
  rcases Bh (mid P) (Zf P+i) with q | q
  ·exact Ck (X9 ok.sorted (Yc (P:=P) (by lia)) e' q)
  ·have:mid P=Zf P+i:=by unfold Zf at q ⊢;split<;>simp_all<;>lia
   rw [<- this,Yc (P:=P) (by lia)] at e';cases e';lia
 lowF:=fun h k hk v hv=>by
  cases hv
  obtain ⟨i,hi,e⟩:=Cr.mp hk
  rw [show (QB P).ks=P.ks.drop (Zf P) from rfl] at hi
  have hi2:Zf P+i < P.ks.length:=by rw [Bq] at hi;lia
  have e':P.ks[Zf P+i]?=some k:=by rw [<- e];rw [Ab hi2];simp [QB]
  have h':0 < P.lv:=h
  exact X9 ok.sorted (Yc (P:=P) (by lia)) e' (by unfold Zf;rw [C7 (by lia)];lia)
 high:=fun k hk=>ok.high k (Cd hk)
 wide:=fun h hh v hv=>by
  cases hv
  exact ok.high _ (Aw (Yc (P:=P) (by lia))) h hh
theorem Tree.split (T:Tree S bg) {x y:Int} (hn:S.pg[n]?=some p) (hl:P.lv=p.lv) (hh:P.hi=p.hi) (hs:P.sd=p.sd) (ok:Js P.ks.length (bg n) P) (h1:S.O2 < P.ks.length) (h2:P.ks.length<=S.O2+1)
  (hk:0 < p.lv->∀ j k,P.ps[j]?=some k->∃ (c:Nat) (q:Pg),k=(c:Int)/\S.pg[c]?=some q/\q.lv+1=p.lv/\bg c=Z7 (bg n) P.ks j) :
  Tree { S with pg:=(S.pg++[QB P]).set n (QN P S.pg.length),rd:=x,wr:=y } (XL bg S.pg.length (some (JI P)))/\Grow S bg { S with pg:=(S.pg++[QB P]).set n (QN P S.pg.length),rd:=x,wr:=y } (XL bg S.pg.length (some (JI P))):=by
 have r2:=T.room2
 have h3:3<=P.ks.length:=by lia
 have hnl:=Q4 hn
 have kg:=Yc (P:=P) (by lia)
 have kl:=Kt ok h3
 have kh:∀ h,p.hi=some h->JI P < h:=fun h e=>ok.high _ (Aw kg) h (hh.trans e)
 have bo:∀ m q,S.pg[m]?=some q->XL bg S.pg.length (some (JI P)) m=bg m:=fun m q h=>Ua (Q4 h)
 have old:∀ (m:Nat) (q:Pg),S.pg[m]?=some q->∃ q':Pg,((S.pg++[QB P]).set n (QN P S.pg.length))[m]?=some q'/\q'.lv=q.lv/\(m≠n->q'=q)/\(m=n->q'=QN P S.pg.length):=fun m q h=>by
  refine ⟨_,ko (JF h),?_,fun e=>by rw [C7 e],fun e=>by rw [C8 e]⟩
  by_cases e:m=n
  ·subst e;rw [hn] at h;cases h;rw [C8 rfl];exact hl
  ·rw [C7 e]
 have gl:((S.pg++[QB P]).set n (QN P S.pg.length))[S.pg.length]?=some (QB P):=by
  rw [Am (by lia),Aq (Ae _)];simp
 have gn:((S.pg++[QB P]).set n (QN P S.pg.length))[n]?=some (QN P S.pg.length):=by
  rw [Au (by simp;lia)]
 have new:∀ (m:Nat) (q:Pg),((S.pg++[QB P]).set n (QN P S.pg.length))[m]?=some q->(m=n/\q=QN P S.pg.length)∨(m=S.pg.length/\q=QB P)∨(m≠n/\S.pg[m]?=some q):=fun m q h=>by
  rcases Jw h with ⟨a,b,_⟩ | ⟨a,b⟩
  ·exact .inl ⟨a,b⟩
  ·rcases Jb b with c | c
   ·exact .inr (.inl c)
   ·exact .inr (.inr ⟨a,c⟩)
 have olv:(QN P S.pg.length).lv=p.lv:=hl
 have nlv:(QB P).lv=p.lv:=hl
 refine ⟨⟨r2,?_,?_,fun m q h=>?_,fun m q h=>?_,fun m q h h0 j k hj=>?_,fun a b q r ha hb hab e=>?_,fun m q h v hv=>?_⟩,⟨fun m q h=>⟨bo m q h,by obtain ⟨q',a,b,_⟩:=old m q h;exact ⟨q',a,b⟩⟩⟩⟩
 ·obtain ⟨r,a,b⟩:=T.root
  obtain ⟨r',c,d,_⟩:=old _ _ a
  refine ⟨r',c,fun m q h=>?_⟩
  rcases new m q h with ⟨_,rfl⟩ | ⟨_,rfl⟩ | ⟨_,h⟩
  ·rw [olv,d];exact b n p hn
  ·rw [nlv,d];exact b n p hn
  ·rw [d];exact b m q h
 ·obtain ⟨r,a,_⟩:=T.root
  rw [show XL bg S.pg.length (some (JI P)) S.top=bg S.top from bo _ _ a];exact T.rbg
 ·rcases new m q h with ⟨rfl,rfl⟩ | ⟨rfl,rfl⟩ | ⟨_,h⟩
  ·rw [bo _ _ hn];exact Qfu ok h3 h2 _
  ·rw [Z3];exact Qfq ok h3 h2
  ·rw [bo _ _ h];exact T.page m q h
 ·rcases new m q h with ⟨rfl,rfl⟩ | ⟨rfl,rfl⟩ | ⟨_,h⟩
  ·exact .inr ⟨JI P,S.pg.length,QB P,rfl,rfl,gl,rfl,Z3⟩
  ·rcases T.link n p hn with ⟨a,b⟩ | ⟨z,s,r,a,b,c,d,e⟩
   ·exact .inl ⟨hh.trans a,hs.trans b⟩
   ·obtain ⟨r',c1,c2,_⟩:=old s r c
    exact .inr ⟨z,s,r',hh.trans a,hs.trans b,c1,by rw [c2,d,nlv],by rw [bo _ _ c];exact e⟩
  ·rcases T.link m q h with ⟨a,b⟩ | ⟨z,s,r,a,b,c,d,e⟩
   ·exact .inl ⟨a,b⟩
   ·obtain ⟨r',c1,c2,_⟩:=old s r c
    exact .inr ⟨z,s,r',a,b,c1,by rw [c2,d],by rw [bo _ _ c];exact e⟩
 ·have lift:∀ {b0:Option Int} {ks0:List Int} {j0:Nat} {b1:Option Int} {ks1:List Int} {l1:Nat},Z7 b0 ks0 j0=Z7 b1 ks1 j->l1=p.lv->(∃ (c:Nat) (q:Pg),k=(c:Int)/\S.pg[c]?=some q/\q.lv+1=p.lv/\bg c=Z7 b0 ks0 j0)->∃ (c:Nat) (q:Pg),k=(c:Int)/\((S.pg++[QB P]).set n (QN P S.pg.length))[c]?=some q/\q.lv+1=l1/\XL bg S.pg.length (some (JI P)) c=Z7 b1 ks1 j:=fun {b0 ks0 j0 b1 ks1 l1} e el zz1=>by
   obtain ⟨c,q,a1,a2,a3,a4⟩:=zz1
   obtain ⟨q',c1,c2,_⟩:=old c q a2
   exact ⟨c,q',a1,c1,by lia,by rw [bo _ _ a2,a4,e]⟩
  rcases new m q h with ⟨rfl,rfl⟩ | ⟨rfl,rfl⟩ | ⟨_,h⟩
  ·rw [olv] at h0
   have hc:Zf P=mid P+1:=by unfold Zf;rw [C7 (by lia)]
   have hjl:j < mid P+1:=by
    have:=Q4 hj
    rw [show (QN P S.pg.length).ps=P.ps.take (Zf P) from rfl,A9,hc] at this;lia
   have hj':P.ps[j]?=some k:=by
    rw [show (QN P S.pg.length).ps=P.ps.take (Zf P) from rfl,Ca (by lia)] at hj;exact hj
   refine lift ?_ olv (hk h0 j k hj')
   rw [bo _ _ hn]
   cases j with
   | zero=>rfl
   | succ i=>show P.ks[i]?=(P.ks.take (mid P))[i]?;rw [Ca (by lia)]
  ·rw [nlv] at h0
   have hc:Zf P=mid P+1:=by unfold Zf;rw [C7 (by lia)]
   have hj':P.ps[mid P+1+j]?=some k:=by
    rw [show (QB P).ps=P.ps.drop (Zf P) from rfl,Cc,hc] at hj;exact hj
   refine lift ?_ nlv (hk h0 _ k hj')
   rw [Z3]
   cases j with
   | zero=>show P.ks[mid P+0]?=some (JI P);exact kg
   | succ i=>show P.ks[mid P+1+i]?=(P.ks.drop (Zf P))[i]?;rw [Cc,hc]
  ·obtain ⟨c,r,a1,a2,a3,a4⟩:=T.kid m q h h0 j k hj
   obtain ⟨r',c1,c2,_⟩:=old c r a2
   exact ⟨c,r',a1,c1,by lia,by rw [bo _ _ a2,bo _ _ h,a4]⟩
 ·have on:∀ (b:Nat) (r:Pg),b≠n->S.pg[b]?=some r->p.lv=r.lv->(∃ h v,(QN P S.pg.length).hi=some h/\XL bg S.pg.length (some (JI P)) b=some v/\h<=v)∨(∃ h v,r.hi=some h/\XL bg S.pg.length (some (JI P)) n=some v/\h<=v):=fun b r hbn hb hlv=>by
   rcases T.dis n b p r hn hb hlv (Ne.symm hbn) with ⟨h,v,a1,a2,a3⟩ | ⟨h,v,a1,a2,a3⟩
   ·exact .inl ⟨JI P,v,rfl,by rw [bo _ _ hb];exact a2,by have:=kh h a1;lia⟩
   ·exact .inr ⟨h,v,a1,by rw [bo _ _ hn];exact a2,a3⟩
  have nn:∀ (b:Nat) (r:Pg),b≠n->S.pg[b]?=some r->p.lv=r.lv->(∃ h v,(QB P).hi=some h/\XL bg S.pg.length (some (JI P)) b=some v/\h<=v)∨(∃ h v,r.hi=some h/\XL bg S.pg.length (some (JI P)) S.pg.length=some v/\h<=v):=fun b r hbn hb hlv=>by
   rcases T.dis n b p r hn hb hlv (Ne.symm hbn) with ⟨h,v,a1,a2,a3⟩ | ⟨h,v,a1,a2,a3⟩
   ·exact .inl ⟨h,v,hh.trans a1,by rw [bo _ _ hb];exact a2,a3⟩
   ·exact .inr ⟨h,JI P,a1,Z3,by have:=kl v a2;lia⟩
  rcases new a q ha with ⟨rfl,rfl⟩ | ⟨rfl,rfl⟩ | ⟨na,ha2⟩
  ·rcases new b r hb with ⟨rfl,rfl⟩ | ⟨rfl,rfl⟩ | ⟨nb,hb2⟩
   ·exact absurd rfl e
   ·exact .inl ⟨JI P,JI P,rfl,Z3,Bo _⟩
   ·exact on b r nb hb2 (by rw [<- hab,olv])
  ·rcases new b r hb with ⟨rfl,rfl⟩ | ⟨rfl,rfl⟩ | ⟨nb,hb2⟩
   ·exact .inr ⟨JI P,JI P,rfl,Z3,Bo _⟩
   ·exact absurd rfl e
   ·exact nn b r nb hb2 (by rw [<- hab,nlv])
  ·rcases new b r hb with ⟨rfl,rfl⟩ | ⟨rfl,rfl⟩ | ⟨nb,hb2⟩
   ·exact (on a q na ha2 (by rw [hab,olv])).symm
   ·exact (nn a q na ha2 (by rw [hab,nlv])).symm
   ·rcases T.dis a b q r ha2 hb2 hab e with ⟨h,v,a1,a2,a3⟩ | ⟨h,v,a1,a2,a3⟩
    ·exact .inl ⟨h,v,a1,by rw [bo _ _ hb2];exact a2,a3⟩
    ·exact .inr ⟨h,v,a1,by rw [bo _ _ ha2];exact a2,a3⟩
 ·have pr:∀ (l:Nat) (z:Pg),S.pg[l]?=some z->z.hi=some v->∃ (m:Nat) (q:Pg),((S.pg++[QB P]).set n (QN P S.pg.length))[m]?=some q/\q.lv=z.lv/\q.hi=some v:=fun l z hz hv=>by
   by_cases e:l=n
   ·subst e;rw [hn] at hz;cases hz
    exact ⟨_,_,gl,nlv,hh.trans hv⟩
   ·obtain ⟨z',c1,c2,c3,_⟩:=old l z hz
    exact ⟨l,z',c1,c2,by rw [c3 e];exact hv⟩
  rcases new m q h with ⟨rfl,rfl⟩ | ⟨rfl,rfl⟩ | ⟨nm,h⟩
  ·rw [bo _ _ hn] at hv
   obtain ⟨a,z,b1,b2,b3⟩:=T.pred m p hn v hv
   obtain ⟨c,z',d1,d2,d3⟩:=pr a z b1 b3
   exact ⟨c,z',d1,by rw [d2,b2,olv],d3⟩
  ·rw [Z3] at hv
   exact ⟨n,_,gn,by rw [olv,nlv],hv⟩
  ·rw [bo _ _ h] at hv
   obtain ⟨a,z,b1,b2,b3⟩:=T.pred m q h v hv
   obtain ⟨c,z',d1,d2,d3⟩:=pr a z b1 b3
   exact ⟨c,z',d1,by rw [d2,b2],d3⟩
end
section
variable {S:Sh} {bg:Bg} {n:Nat} {p:Pg}
theorem Tree.raise (T:Tree S bg) {r q:Pg} {k:Nat} {aim x y:Int} (hr:S.pg[S.top]?=some r) (hk:S.pg[k]?=some q) (hl:q.lv=r.lv) (hb:bg k=some aim):
    Tree { S with rd:=x,pg:=S.pg++[⟨r.lv+1,[aim],[(S.top:Int),(k:Int)],none,none⟩],top:=S.pg.length,wr:=y } (XL bg S.pg.length none)/\Grow S bg { S with rd:=x,pg:=S.pg++[⟨r.lv+1,[aim],[(S.top:Int),(k:Int)],none,none⟩],top:=S.pg.length,wr:=y } (XL bg S.pg.length none):=by
  have r2:=T.room2
  have lev:∀ (m:Nat) (z:Pg),S.pg[m]?=some z->z.lv<=r.lv:=fun m z h=>by
    obtain ⟨r',a,b⟩:=T.root
    rw [hr] at a;cases a;exact b m z h
  have bo:∀ (m:Nat) (z:Pg),S.pg[m]?=some z->XL bg S.pg.length none m=bg m:=fun m z h=>Ua (Q4 h)
  have gl:(S.pg++[(⟨r.lv+1,[aim],[(S.top:Int),(k:Int)],none,none⟩:Pg)])[S.pg.length]?=some ⟨r.lv+1,[aim],[(S.top:Int),(k:Int)],none,none⟩:=by simp
  refine ⟨⟨r2,⟨_,gl,fun m z h=>?_⟩,Z3,fun m z h=>?_,fun m z h=>?_,fun m z h h0 j c hj=>?_,fun a b z z' ha hb' hab e=>?_,fun m z h v hv=>?_⟩,⟨fun m z h=>⟨bo m z h,z,JF h,rfl⟩⟩⟩
  . rcases Jb h with ⟨_,rfl⟩ | h
    . exact Ae _
    . exact Nat.le_succ_of_le (lev m z h)
  . rcases Jb h with ⟨rfl,rfl⟩ | h
    . rw [Z3]
      exact ⟨by simp,by show 1<=S.O2;lia,by simp,fun k hk v hv=>(by cases hv),fun _ k hk v hv=>(by cases hv),fun k hk v hv=>(by cases hv),fun h hh=>(by cases hh)⟩
    . rw [bo _ _ h];exact T.page m z h
  . rcases Jb h with ⟨rfl,rfl⟩ | h
    . exact .inl ⟨rfl,rfl⟩
    . rcases T.link m z h with a | ⟨z1,s,z2,a,b,c,d,e⟩
      . exact .inl a
      . exact .inr ⟨z1,s,z2,a,b,JF c,d,by rw [bo _ _ c];exact e⟩
  . rcases Jb h with ⟨rfl,rfl⟩ | h
    . match j,hj with
      | 0,hj =>
        cases hj
        exact ⟨S.top,r,rfl,JF hr,rfl,by rw [bo _ _ hr,Z3];exact T.rbg⟩
      | 1,hj =>
        cases hj
        exact ⟨k,q,rfl,JF hk,by show q.lv+1=r.lv+1;lia,by rw [bo _ _ hk];exact hb⟩
      | j+2,hj=>simp at hj
    . obtain ⟨c',z',a1,a2,a3,a4⟩:=T.kid m z h h0 j c hj
      exact ⟨c',z',a1,JF a2,a3,by rw [bo _ _ a2,bo _ _ h,a4]⟩
  . rcases Jb ha with ⟨rfl,rfl⟩ | ha2
    . rcases Jb hb' with ⟨rfl,rfl⟩ | hb2
      . exact absurd rfl e
      . have:=lev b z' hb2;have:r.lv+1=z'.lv:=hab;lia
    . rcases Jb hb' with ⟨rfl,rfl⟩ | hb2
      . have:=lev a z ha2;have:z.lv=r.lv+1:=hab;lia
      . rcases T.dis a b z z' ha2 hb2 hab e with ⟨h,v,a1,a2,a3⟩ | ⟨h,v,a1,a2,a3⟩
        . exact .inl ⟨h,v,a1,by rw [bo _ _ hb2];exact a2,a3⟩
        . exact .inr ⟨h,v,a1,by rw [bo _ _ ha2];exact a2,a3⟩
  . rcases Jb h with ⟨rfl,rfl⟩ | h
    . rw [Z3] at hv;cases hv
    . rw [bo _ _ h] at hv
      obtain ⟨a,z1,b1,b2,b3⟩:=T.pred m z h v hv
      exact ⟨a,z1,JF b1,b2,b3⟩
theorem zG {k:Int} (h:Ze p k=false):ltH k p.hi:=fun v hv=>by
 unfold Ze at h;rw [hv] at h;simp at h;lia
theorem xR {O2:Nat} (ok:Js O2 (bg n) p) (hl:p.lv=0) {k x:Int} (h1:leB (bg n) k) (h2:ltH k p.hi):Js (QG p k x).ks.length (bg n) (QG p k x) where
 sorted:=yL ok.sorted k
 few:=Ae _
 parts:=by
  have a:=ok.parts
  rw [C8 hl] at a
  have b:=jY p.ks k
  have c:=JB p.ks k
  show (p.ps.take (cLt p.ks k)++x::p.ps.drop (cLe p.ks k)).length=(p.ks.take (cLt p.ks k)++k::p.ks.drop (cLe p.ks k)).length+(if p.lv=0 then 0 else 1)
  rw [C8 hl]
  simp only [An,Ba,A9,Bq];lia
 low:=fun y hy=>by
  rcases js ok.sorted hy with rfl | hy
  ·exact h1
  ·exact ok.low y hy
 lowF:=fun h=>by have:0 < p.lv:=h;lia
 high:=fun y hy=>by
  rcases js ok.sorted hy with rfl | hy
  ·exact h2
  ·exact ok.high y hy
 wide:=ok.wide
theorem jV {O2:Nat} (ok:Js O2 (bg n) p) {k x:Int}:(QG p k x).ks.length<=O2+1:=by
 have b:=jY p.ks k
 have c:=JB p.ks k
 have d:=Kg p.ks k
 have e:=ok.few
 show (p.ks.take (cLt p.ks k)++k::p.ks.drop (cLe p.ks k)).length<=_
 simp only [An,Ba,A9,Bq];lia
theorem uR {O2:Nat} (ok:Js O2 (bg n) p) (hl:p.lv=0) {k:Int}:Js O2 (bg n) (without p k) where
 sorted:=vP ok.sorted k
 few:=by
  have b:=jY p.ks k
  have c:=JB p.ks k
  have d:=Kg p.ks k
  have e:=ok.few
  show (p.ks.take (cLt p.ks k)++p.ks.drop (cLe p.ks k)).length<=_
  simp only [An,A9,Bq];lia
 parts:=by
  have a:=ok.parts
  rw [C8 hl] at a
  have b:=jY p.ks k
  have c:=JB p.ks k
  show (p.ps.take (cLt p.ks k)++p.ps.drop (cLe p.ks k)).length=(p.ks.take (cLt p.ks k)++p.ks.drop (cLe p.ks k)).length+(if p.lv=0 then 0 else 1)
  rw [C8 hl]
  simp only [An,A9,Bq];lia
 low:=fun y hy=>ok.low y (gj hy)
 lowF:=fun h=>by have:0 < p.lv:=h;lia
 high:=fun y hy=>ok.high y (gj hy)
 wide:=ok.wide
theorem vm (T:Tree S bg) (hn:S.pg[n]?=some p) {k:Nat} {q:Pg} {aim:Int} (hk:S.pg[k]?=some q) (hl:q.lv+1=p.lv) (hb:bg k=some aim) (hu:Untold S k):aim∉p.ks/\bg n≠some aim:=by
 have ok:=T.page n p hn
 have h0:0 < p.lv:=by lia
 have pl:=ok.parts
 rw [C7 (by lia)] at pl
 have key:∀ j,Z7 (bg n) p.ks j=some aim->j < p.ps.length->False:=fun j e hj=>by
  obtain ⟨c,z,a1,a2,a3,a4⟩:=T.kid n p hn h0 j _ (Ab hj)
  have:c=k:=T.uniq a2 hk (by lia) (by rw [a4,e,hb])
  subst this
  exact hu n p hn h0 (by rw [<- a1];exact B9 hj)
 refine ⟨fun hm=>?_,fun e=>key 0 e (by lia)⟩
 obtain ⟨i,hi,e⟩:=Cr.mp hm
 exact key (i+1) (by show p.ks[i]?=some aim;rw [Ab hi,e]) (by lia)
theorem qo {k:Int} {c:Nat} (h:k∉p.ks):(Q1 p k c).ks=p.ks.take (cLt p.ks k)++k::p.ks.drop (cLe p.ks k):=by
 show p.ks.take (cLe p.ks k)++k::p.ks.drop (cLe p.ks k)=_
 rw [Qa6 h]
theorem VH {O2:Nat} (ok:Js O2 (bg n) p) (hl:0 < p.lv) {k:Int} {c:Nat} (hk:k∉p.ks) (h1:ltB (bg n) k) (h2:ltH k p.hi):Js (Q1 p k c).ks.length (bg n) (Q1 p k c) where
 sorted:=by rw [qo hk];exact yL ok.sorted k
 few:=Ae _
 parts:=by
  have a:=ok.parts
  rw [C7 (by lia)] at a
  have d:=JB p.ks k
  show (p.ps.take (cLe p.ks k+1)++(c:Int)::p.ps.drop (cLe p.ks k+1)).length=(p.ks.take (cLe p.ks k)++k::p.ks.drop (cLe p.ks k)).length+(if p.lv=0 then 0 else 1)
  rw [C7 (by lia)]
  simp only [An,Ba,A9,Bq];lia
 low:=fun y hy=>by
  rw [qo hk] at hy
  rcases js ok.sorted hy with rfl | hy
  ·exact fun v hv=>Ck (h1 v hv)
  ·exact ok.low y hy
 lowF:=fun h y hy=>by
  rw [qo hk] at hy
  rcases js ok.sorted hy with rfl | hy
  ·exact h1
  ·exact ok.lowF hl y hy
 high:=fun y hy=>by
  rw [qo hk] at hy
  rcases js ok.sorted hy with rfl | hy
  ·exact h2
  ·exact ok.high y hy
 wide:=ok.wide
theorem xQ {O2:Nat} (ok:Js O2 (bg n) p) {k:Int} {c:Nat}:(Q1 p k c).ks.length<=O2+1:=by
 have d:=JB p.ks k
 have e:=ok.few
 show (p.ks.take (cLe p.ks k)++k::p.ks.drop (cLe p.ks k)).length<=_
 simp only [An,Ba,A9,Bq];lia
theorem KZ (T:Tree S bg) (hn:S.pg[n]?=some p) {k:Nat} {q:Pg} {aim:Int} (hk:S.pg[k]?=some q) (hl:q.lv+1=p.lv) (hb:bg k=some aim):
    ∀ j c,(Q1 p aim k).ps[j]?=some c->∃ (c':Nat) (q:Pg),c=(c':Int)/\S.pg[c']?=some q/\q.lv+1=p.lv/\bg c'=Z7 (bg n) (Q1 p aim k).ks j:=by
  intro j c hj
  have ok:=T.page n p hn
  have h0:0 < p.lv:=by lia
  have pl:=ok.parts
  rw [C7 (by lia)] at pl
  have d:=JB p.ks aim
  have hj:(p.ps.take (cLe p.ks aim+1)++(k:Int)::p.ps.drop (cLe p.ks aim+1))[j]?=some c:=hj
  show ∃ (c':Nat) (q:Pg),c=(c':Int)/\S.pg[c']?=some q/\q.lv+1=p.lv/\bg c'=Z7 (bg n) (p.ks.take (cLe p.ks aim)++aim::p.ks.drop (cLe p.ks aim)) j
  have lt:(p.ps.take (cLe p.ks aim+1)).length=cLe p.ks aim+1:=by rw [A9];lia
  have lk:(p.ks.take (cLe p.ks aim)).length=cLe p.ks aim:=by rw [A9];lia
  rcases Bh j (cLe p.ks aim+1) with h | h
  . rw [Ah (by lia),Ca h] at hj
    obtain ⟨c',z,a1,a2,a3,a4⟩:=T.kid n p hn h0 j c hj
    refine ⟨c',z,a1,a2,a3,?_⟩
    rw [a4]
    cases j with
    | zero=>rfl
    | succ i =>
      show p.ks[i]?=(p.ks.take (cLe p.ks aim)++aim::p.ks.drop (cLe p.ks aim))[i]?
      rw [Ah (by lia),Ca (by lia)]
  . rw [Aq (by lia),lt] at hj
    rcases Bh (cLe p.ks aim+1) j with h2 | h2
    . obtain ⟨i,rfl⟩:∃ i,j=cLe p.ks aim+2+i:=⟨j - (cLe p.ks aim+2),by lia⟩
      rw [show cLe p.ks aim+2+i - (cLe p.ks aim+1)=i+1 by lia,List.getElem?_cons_succ,Cc] at hj
      obtain ⟨c',z,a1,a2,a3,a4⟩:=T.kid n p hn h0 _ c hj
      refine ⟨c',z,a1,a2,a3,?_⟩
      rw [a4]
      rw [show cLe p.ks aim+1+i=(cLe p.ks aim+i)+1 by lia,show cLe p.ks aim+2+i=(cLe p.ks aim+1+i)+1 by lia]
      show p.ks[cLe p.ks aim+i]?=(p.ks.take (cLe p.ks aim)++aim::p.ks.drop (cLe p.ks aim))[cLe p.ks aim+1+i]?
      rw [Aq (by lia),lk,show cLe p.ks aim+1+i - cLe p.ks aim=i+1 by lia,List.getElem?_cons_succ,Cc]
    . have e:j=cLe p.ks aim+1:=by lia
      subst e
      rw [show cLe p.ks aim+1 - (cLe p.ks aim+1)=0 by lia] at hj
      cases hj
      refine ⟨k,q,rfl,hk,hl,?_⟩
      rw [hb]
      show some aim=(p.ks.take (cLe p.ks aim)++aim::p.ks.drop (cLe p.ks aim))[cLe p.ks aim]?
      rw [Aq (by lia),lk];simp
end
structure Stp (S:Sh) (bg:Bg) (w:Wk) (S':Sh) (bg':Bg) (w':Wk):Prop where
 tree:Tree S' bg'
 grow:Grow S bg S' bg'
 wok:w'.O7=false->WOk S' bg' w'
 unt:∀ k v,Untold S k->bg k=some v->(0 < w.O4->w.Oz≠some k)->Untold S' k
 new:∀ k,w'.O7=false->0 < w'.O4->w'.Oz=some k->Untold S' k/\((0 < w.O4/\w.Oz=some k)∨S.pg.length<=k)
 O2:S'.O2=S.O2
 len:S'.pg.length<=S.pg.length+1
def Tree.rd {S:Sh} (T:Tree S bg) (x y:Int):Tree { S with rd:=x,wr:=y } bg:=⟨T.room2,T.root,T.rbg,T.page,T.link,T.kid,T.dis,T.pred⟩
section
variable {S:Sh} {bg:Bg} {n:Nat} {p P:Pg} {w:Wk}
theorem Untold.set {S:Sh} {n:Nat} {p P:Pg} {k:Nat} {x y:Int} (h:Untold S k) (hn:S.pg[n]?=some p) (hl:P.lv=p.lv) (hs:0 < p.lv->(k:Int)∈P.ps->(k:Int)∈p.ps):Untold { S with pg:=S.pg.set n P,rd:=x,wr:=y } k:=fun m q hm h0 hk=>by
 rcases Jw hm with ⟨rfl,rfl,_⟩ | ⟨_,hm⟩
 ·exact h m p hn (by lia) (hs (by lia) hk)
 ·exact h m q hm h0 hk
theorem Untold.halves {S:Sh} {n:Nat} {p P:Pg} {k l:Nat} {x y:Int} (h:Untold S k) (hn:S.pg[n]?=some p) (hl:P.lv=p.lv) (hs:0 < p.lv->(k:Int)∈P.ps->(k:Int)∈p.ps):Untold { S with pg:=(S.pg++[QB P]).set n (QN P l),rd:=x,wr:=y } k:=fun m q hm h0 hk=>by
 rcases Jw hm with ⟨rfl,rfl,_⟩ | ⟨_,hm⟩
 ·have h0':0 < P.lv:=h0
  exact h m p hn (by lia) (hs (by lia) (Bx hk))
 ·rcases Jb hm with ⟨rfl,rfl⟩ | hm
  ·have h0':0 < P.lv:=h0
   exact h n p hn (by lia) (hs (by lia) (Cd hk))
  ·exact h m q hm h0 hk
theorem Tree.untold_new (T:Tree S bg) {k:Nat} (h:S.pg.length<=k):Untold S k:=fun m q hm h0 hk=>by
 obtain ⟨j,hj,e⟩:=Cr.mp hk
 obtain ⟨c,z,a1,a2,_⟩:=T.kid m q hm h0 j _ (Ab hj)
 rw [e] at a1
 have:k=c:=by lia
 have:=Q4 a2;lia
theorem UR (T:Tree S bg) (hn:S.pg[n]?=some p) (hl:P.lv=p.lv) (hh:P.hi=p.hi) (hs:P.sd=p.sd) (ok:Js P.ks.length (bg n) P) (h2:P.ks.length<=S.O2+1)
  (hk:0 < p.lv->∀ j k,P.ps[j]?=some k->∃ (c:Nat) (q:Pg),k=(c:Int)/\S.pg[c]?=some q/\q.lv+1=p.lv/\bg c=Z7 (bg n) P.ks j)
  (W:WOk S bg w) (hw:w.O7=false) (hpl:w.O6=some n∨w.O6=none) (hg:p.lv=w.O4) (hsub:∀ k:Nat,0 < p.lv->(k:Int)∈P.ps->(k:Int)∈p.ps∨(0 < w.O4/\w.Oz=some k)) :
  ∃ bg',Stp S bg w (Qr S w n P).2.1 bg' (Qr S w n P).2.2:=by
 unfold Qr
 by_cases hr:P.ks.length<=S.O2
 ·rw [C8 hr]
  obtain ⟨T',G⟩:=T.write (x:=S.rd) (y:=S.wr+1) (p':=P) hn hl hh hs ⟨ok.sorted,hr,ok.parts,ok.low,ok.lowF,ok.high,ok.wide⟩ hk
  refine ⟨bg,T',G,fun h=>(by cases h),fun k v hu hb hne=>hu.set hn hl fun h0 hm=>?_,fun k h=>(by cases h),rfl,(by simp)⟩
  rcases hsub k h0 hm with a | ⟨a,b⟩
  ·exact a
  ·exact absurd b (hne a)
 ·rw [C7 hr]
  obtain ⟨T',G⟩:=T.split (x:=S.rd) (y:=S.wr+1+1) hn hl hh hs ok (by lia) h2 hk
  have r2:=T.room2
  have kl:=Kt ok (by lia)
  have gl:((S.pg++[QB P]).set n (QN P S.pg.length))[S.pg.length]?=some (QB P):=by
   rw [Am (by have:=Q4 hn;lia),Aq (Ae _)];simp
  have pln:∀ f,Jj w.O3 (p.lv+1)=some f->w.O6=some n:=fun f hf=>by
   rcases hpl with h | h
   ·exact h
   ·have:=W.none_ h _ f hf;lia
  refine ⟨_,T',G,fun _=>?_,fun k v hu hb hne=>hu.halves hn hl fun h0 hm=>?_,fun k _ _ e=>?_,rfl,by simp⟩
  ·have lv':P.lv=w.O4:=hl.trans hg
   refine ⟨fun f hf=>?_,fun hnone l f hf=>?_,fun l f hf=>?_,fun f q hf hq l f' hf' hlt=>?_,fun l f l' f' hf hf' a b=>?_,fun f q hf hq hlt=>?_,fun f q hf hq l' f' hf' l a b=>?_,fun _=>⟨S.pg.length,QB P,rfl,gl,rfl,Z3⟩⟩
   ·have hf:Jj w.O3 (P.lv+1)=some f:=hf
    rw [hl] at hf
    obtain ⟨q,a1,a2⟩:=W.kept _ f hf
    obtain ⟨e,q',a3,a4⟩:=G.old f q a1
    refine ⟨q',a3,?_,?_⟩
    ·show P.lv+1<=q'.lv;lia
    ·rw [e]
     intro v hv
     obtain ⟨u,b1,b2⟩:=W.above n p (pln f hf) hn _ f hf (by lia) v hv
     have:=kl u b1;show v<=JI P;lia
   ·have hnone:Jj w.O3 (P.lv+1)=none:=hnone
    show l < P.lv+1
    rcases Bh l (P.lv+1) with h | h
    ·exact h
    ·exfalso
     rcases hpl with U | U
     ·obtain ⟨f0,hf0⟩:=W.full n p U hn l f hf (P.lv+1) (by lia) h
      rw [hnone] at hf0;cases hf0
     ·have:=W.none_ U l f hf;lia
   ·obtain ⟨q,a1,a2⟩:=W.kept l f hf
    obtain ⟨e,q',a3,a4⟩:=G.old f q a1
    exact ⟨q',a3,by lia⟩
   ·have hf:Jj w.O3 (P.lv+1)=some f:=hf
    obtain ⟨q0,a1,a2⟩:=W.kept _ f hf
    obtain ⟨q1,b1,b2⟩:=W.kept _ f' hf'
    obtain ⟨e,q',a3,a4⟩:=G.old f q0 a1
    rw [e,(G.old f' q1 b1).1]
    rw [a3] at hq;cases hq
    exact W.chain _ f l f' hf hf' (by lia) (by lia)
   ·obtain ⟨q0,a1,a2⟩:=W.kept _ f hf
    obtain ⟨q1,b1,b2⟩:=W.kept _ f' hf'
    rw [(G.old f q0 a1).1,(G.old f' q1 b1).1]
    have a:P.lv+1<=l:=a
    exact W.chain l f l' f' hf hf' (by lia) b
   ·have hf:Jj w.O3 (P.lv+1)=some f:=hf
    obtain ⟨q0,a1,a2⟩:=W.kept _ f hf
    obtain ⟨e,q',a3,a4⟩:=G.old f q0 a1
    have hlt2:P.lv+1 < q.lv:=hlt
    rw [a3] at hq;cases hq
    lia
   ·have hf:Jj w.O3 (P.lv+1)=some f:=hf
    obtain ⟨q0,a1,a2⟩:=W.kept _ f hf
    obtain ⟨e,q',a3,a4⟩:=G.old f q0 a1
    rw [a3] at hq;cases hq
    rw [hl] at hf
    exact W.full n p (pln f hf) hn l' f' hf' l (by lia) b
  ·rcases hsub k h0 hm with a | ⟨a,b⟩
   ·exact a
   ·exact absurd b (hne a)
  ·have e:S.pg.length=k:=Ak e
   subst e
   refine ⟨(T.untold_new (Ae _)).halves hn hl fun h0 hm=>?_,.inr (Ae _)⟩
   obtain ⟨j,hj,e⟩:=Cr.mp hm
   obtain ⟨c,z,a1,a2,_⟩:=hk h0 j _ (Ab hj)
   rw [e] at a1
   have:S.pg.length=c:=by lia
   have:=Q4 a2;lia
end
section
variable {S:Sh} {bg:Bg} {n:Nat} {p:Pg} {w:Wk}
theorem Qam {ks:List Int} (h:ks.Pairwise (· < ·)) {k x:Int} {i:Nat} (hi:i < cLe ks k) (hx:ks[i]?=some x):x<=k:=by
 have e:(ks.take (cLe ks k))[i]?=some x:=by rw [Ca hi];exact hx
 rw [(Yk h k).1] at e
 simpa using (Bm.mp (Aw e)).2
theorem gE (T:Tree S bg) (W:WOk S bg w) (hpl:w.O6=some n∨w.O6=none) (hn:S.pg[n]?=some p) (hg:w.O4<=p.lv) {s:Nat} {q:Pg} {h:Int} (hh:p.hi=some h) (hs:S.pg[s]?=some q) (hl:q.lv=p.lv) (hb:bg s=some h) {w':Wk} (e1:w'.O6=some s) (e2:w'.O3=w.O3) (e3:w'.O4=w.O4) (e4:h<=w'.aim) (e5:0 < w.O4->w'.Oz=w.Oz/\w'.aim=w.aim):WOk S bg w' where
 at_:=fun m hm=>by
  rw [e1] at hm;cases hm
  exact ⟨q,hs,by lia,fun v hv=>by rw [hb] at hv;cases hv;exact e4⟩
 none_:=fun hm=>by rw [e1] at hm;cases hm
 kept:=fun l f hf=>W.kept l f (e2▸hf)
 above:=fun m z hm hz l f hf hlt=>by
  rw [e1] at hm;cases hm
  rw [hs] at hz;cases hz
  rw [e2] at hf
  rcases hpl with U | U
  ·refine (W.above n p U hn l f hf (by lia)).trans fun v hv=>⟨h,hb,?_⟩
   have:=(T.page n p hn).wide h hh v hv;lia
  ·have:=W.none_ U l f hf;lia
 chain:=fun l f l' f' hf hf' a b=>W.chain l f l' f' (e2▸hf) (e2▸hf') (e3▸a) b
 gap:=fun m z hm hz hlt l f hf=>by
  rw [e1] at hm;cases hm
  rw [hs] at hz;cases hz
  rw [e2] at hf
  rcases hpl with U | U
  ·rcases W.gap n p U hn (by lia) l f hf with a | a
   ·exact .inl (by lia)
   ·exact .inr (by lia)
  ·exact .inl (by have:=W.none_ U l f hf;lia)
 full:=fun m z hm hz l' f' hf' l a b=>by
  rw [e1] at hm;cases hm
  rw [hs] at hz;cases hz
  rw [e2] at hf' ⊢
  rcases hpl with U | U
  ·exact W.full n p U hn l' f' hf' l (by lia) b
  ·have:=W.none_ U l' f' hf';lia
 tell:=fun h0=>by
  rw [e3] at h0 ⊢
  obtain ⟨k,z,a1,a2,a3,a4⟩:=W.tell h0
  obtain ⟨b1,b2⟩:=e5 h0
  exact ⟨k,z,b1.trans a1,a2,a3,by rw [b2];exact a4⟩
theorem Qdh (T:Tree S bg) (W:WOk S bg w) (hpl:w.O6=some n∨(w.O6=none/\n=S.top)) (hn:S.pg[n]?=some p) (hg:w.O4 < p.lv) {c:Nat} {q:Pg} (hc:S.pg[c]?=some q) (hl:q.lv+1=p.lv) (hb:bg c=Z7 (bg n) p.ks (cLe p.ks w.aim)):WOk S bg { w with O3:=zR w.O3 p.lv n,O6:=some c }:=by
  have ok:=T.page n p hn
  have lb:leBB (bg n) (bg c):=by
    rw [hb]
    cases e:cLe p.ks w.aim with
    | zero=>exact leBB.refl _
    | succ i =>
      intro v hv
      have hi:i < p.ks.length:=by have:=JB p.ks w.aim;lia
      refine ⟨p.ks[i],Ab hi,Ck (ok.lowF (by lia) _ (B9 hi) v hv)⟩
  have la:leB (bg n) w.aim:=by
    rcases hpl with U | ⟨_,rfl⟩
    . obtain ⟨p',a1,a2,a3⟩:=W.at_ n U
      exact a3
    . intro v hv;rw [T.rbg] at hv;cases hv
  have ca:leB (bg c) w.aim:=by
    rw [hb]
    cases e:cLe p.ks w.aim with
    | zero=>exact la
    | succ i=>intro v hv;exact Qam ok.sorted (by lia) hv
  have old:∀ l f,Jj w.O3 l=some f->l≠p.lv->l < w.O4∨(p.lv < l/\w.O6=some n):=fun l f hf hne=>by
    rcases hpl with U | ⟨U,_⟩
    . rcases W.gap n p U hn hg l f hf with a | a
      . exact .inl a
      . exact .inr ⟨a,U⟩
    . exact .inl (W.none_ U l f hf)
  have gp:∀ l f,Jj (zR w.O3 p.lv n) l=some f->(l=p.lv/\f=n)∨(l≠p.lv/\Jj w.O3 l=some f):=fun l f hf=>by
    rw [qH] at hf
    by_cases e:l=p.lv
    . rw [C8 e] at hf;cases hf;exact .inl ⟨e,rfl⟩
    . rw [C7 e] at hf;exact .inr ⟨e,hf⟩
  refine ⟨fun m hm=>?_,fun hm=>(by cases hm),fun l f hf=>?_,fun m z hm hz l f hf hlt=>?_,fun l f l' f' hf hf' a b=>?_,fun m z hm hz hlt l f hf=>?_,fun m z hm hz l' f' hf' l a b=>?_,W.tell⟩
  . cases hm
    refine ⟨q,hc,?_,ca⟩
    show w.O4<=q.lv;lia
  . rcases gp l f hf with ⟨rfl,rfl⟩ | ⟨_,h⟩
    . exact ⟨p,hn,rfl⟩
    . exact W.kept l f h
  . cases hm
    rw [hc] at hz;cases hz
    rcases gp l f hf with ⟨rfl,rfl⟩ | ⟨hne,h⟩
    . exact lb
    . rcases old l f h hne with a | ⟨a,U⟩
      . lia
      . exact (W.above n p U hn l f h a).trans lb
  . have a:w.O4<=l:=a
    rcases gp l f hf with ⟨rfl,rfl⟩ | ⟨hne,h⟩
    . rcases gp l' f' hf' with ⟨rfl,rfl⟩ | ⟨hne',h'⟩
      . lia
      . rcases old l' f' h' hne' with c1 | ⟨c1,U⟩
        . lia
        . exact W.above _ p U hn l' f' h' c1
    . rcases gp l' f' hf' with ⟨rfl,rfl⟩ | ⟨hne',h'⟩
      . rcases old l f h hne with c1 | ⟨c1,U⟩<;>lia
      . exact W.chain l f l' f' h h' a b
  . cases hm
    rw [hc] at hz;cases hz
    show l < w.O4∨_
    rcases gp l f hf with ⟨rfl,rfl⟩ | ⟨hne,h⟩
    . exact .inr (by lia)
    . rcases old l f h hne with c1 | ⟨c1,U⟩
      . exact .inl c1
      . exact .inr (by lia)
  . cases hm
    rw [hc] at hz;cases hz
    by_cases e:l=p.lv
    . exact ⟨n,by rw [qH,C8 e]⟩
    . rcases gp l' f' hf' with ⟨rfl,rfl⟩ | ⟨hne,h⟩
      . lia
      . rcases old l' f' h hne with c1 | ⟨c1,U⟩
        . lia
        . obtain ⟨f,hf⟩:=W.full n p U hn l' f' h l (by lia) b
          exact ⟨f,by rw [qH,C7 e];exact hf⟩
def Stp.of_rd {S':Sh} {bg':Bg} {w':Wk} {x y:Int} (h:Stp { S with rd:=x,wr:=y } bg w S' bg' w'):Stp S bg w S' bg' w':=⟨h.tree,⟨h.grow.old⟩,h.wok,h.unt,h.new,h.O2,h.len⟩
theorem Stp.still (T:Tree S bg) {w':Wk} {x y:Int} (hu:0 < w.O4->∀ k,w.Oz=some k->Untold S k) (h:w'.O7=false->WOk S bg w'/\(w'.O4=w.O4/\(0 < w.O4->w'.Oz=w.Oz))):Stp S bg w { S with rd:=x,wr:=y } bg w' where
 tree:=T.rd x y
 grow:=⟨fun n p h=>⟨rfl,p,h,rfl⟩⟩
 wok:=fun e=>let W:=(h e).1;⟨W.at_,W.none_,W.kept,W.above,W.chain,W.gap,W.full,W.tell⟩
 unt:=fun k v hu _ _=>hu
 new:=fun k e g0 hk=>by
  obtain ⟨_,e1,e2⟩:=h e
  rw [e1] at g0
  rw [e2 g0] at hk
  exact ⟨hu g0 k hk,.inl ⟨g0,hk⟩⟩
 O2:=rfl
 len:=Nat.le_succ _
def WOk.rd (W:WOk S bg w) (x y:Int):WOk { S with rd:=x,wr:=y } bg w:=⟨W.at_,W.none_,W.kept,W.above,W.chain,W.gap,W.full,W.tell⟩
theorem kz (T:Tree S bg) (W:WOk S bg w) (hw:w.O7=false) (hu:0 < w.O4->∀ k,w.Oz=some k->Untold S k):∃ r S' w' bg',Jp S w=some (r,S',w')/\Stp S bg w S' bg' w':=by
  obtain ⟨n,hn0,hpl⟩:∃ n,w.O6.getD S.top=n/\(w.O6=some n∨(w.O6=none/\n=S.top)):=by
    cases e:w.O6 with
    | none=>exact ⟨S.top,rfl,.inr ⟨rfl,rfl⟩⟩
    | some m=>exact ⟨m,rfl,.inl rfl⟩
  obtain ⟨p,hn⟩:∃ p,S.pg[n]?=some p:=by
    rcases hpl with U | ⟨_,rfl⟩
    . obtain ⟨p,a,_⟩:=W.at_ n U;exact ⟨p,a⟩
    . obtain ⟨p,a,_⟩:=T.root;exact ⟨p,a⟩
  have hpl':w.O6=some n∨w.O6=none:=hpl.imp id And.left
  have ok:=T.page n p hn
  have la:leB (bg n) w.aim:=by
    rcases hpl with U | ⟨_,rfl⟩
    . obtain ⟨p',a1,a2,a3⟩:=W.at_ n U
      exact a3
    . intro v hv;rw [T.rbg] at hv;cases hv
  unfold Jp
  rw [C7 (by rw [hw];simp),hn0]
  simp only [hn]
  by_cases hr:w.O6=none/\p.lv < w.O4
  . rw [C8 hr]
    have htop:n=S.top:=by
      rcases hpl with U | ⟨_,e⟩
      . rw [hr.1] at U;cases U
      . exact e
    subst htop
    obtain ⟨k,q,a1,a2,a3,a4⟩:=W.tell (by lia)
    simp only [a1]
    have lev:q.lv<=p.lv:=by
      obtain ⟨r,b1,b2⟩:=T.root
      rw [hn] at b1;cases b1;exact b2 k q a2
    obtain ⟨T',G⟩:=T.raise (x:=S.rd+1) (y:=S.wr+1) hn a2 (by lia) a4
    refine ⟨_,_,_,_,rfl,T',G,fun h=>(by cases h),fun k' v hu' hb hne m z hm h0 hk'=>?_,fun k' h=>(by cases h),rfl,by simp⟩
    rcases Jb hm with ⟨rfl,rfl⟩ | hm
    . have hk2:(k':Int)=(S.top:Int)∨(k':Int)=(k:Int):=by simpa using hk'
      rcases hk2 with e | e
      . have:k'=S.top:=by lia
        subst this;rw [T.rbg] at hb;cases hb
      . have:k'=k:=by lia
        subst this;exact hne (by lia) a1
    . exact hu' m z hm h0 hk'
  . rw [C7 hr]
    have hg:w.O4<=p.lv:=by
      rcases hpl with U | ⟨U,_⟩
      . obtain ⟨p',b1,b2,_⟩:=W.at_ n U
        rw [hn] at b1;cases b1;exact b2
      . exact Cy fun h=>hr ⟨U,h⟩
    cases hb:Ze p w.aim with
    | true =>
      rw [C8 rfl]
      rcases T.link n p hn with ⟨a,b⟩ | ⟨h,s,q,a,b,c,d,e⟩
      . unfold Ze at hb;rw [a] at hb;cases hb
      . simp only [b]
        have ha:h<=w.aim:=by unfold Ze at hb;rw [a] at hb;simpa using hb
        exact ⟨_,_,_,bg,rfl,Stp.still T hu fun _=>⟨gE T W hpl' hn hg a c d e rfl rfl rfl ha fun _=>⟨rfl,rfl⟩,rfl,fun _=>rfl⟩⟩
    | false =>
      have lh:=zG hb
      rw [C7 (by simp)]
      by_cases hd:w.O4 < p.lv
      . rw [C8 hd]
        have pl:=ok.parts
        rw [C7 (by lia)] at pl
        have hc:cLe p.ks w.aim < p.ps.length:=by have:=JB p.ks w.aim;lia
        obtain ⟨c,q,a1,a2,a3,a4⟩:=T.kid n p hn (by lia) _ _ (Ab hc)
        rw [Ab hc,a1]
        simp only [B7]
        exact ⟨_,_,_,bg,rfl,Stp.still T hu fun _=>⟨Qdh T W hpl hn hd a2 a3 a4,rfl,fun _=>rfl⟩⟩
      . rw [C7 hd]
        have hlv:p.lv=w.O4:=by lia
        by_cases h0:0 < w.O4
        . rw [C8 h0]
          obtain ⟨k,q,a1,a2,a3,a4⟩:=W.tell h0
          simp only [a1]
          obtain ⟨n1,n2⟩:=vm T hn a2 (by lia) a4 (hu h0 k a1)
          have lt:ltB (bg n) w.aim:=fun v hv=>by
            have:=la v hv
            have:v≠w.aim:=fun e=>n2 (by rw [hv,e])
            lia
          obtain ⟨bg',st⟩:=UR (S:={ S with rd:=S.rd+1,wr:=S.wr }) (P:=Q1 p w.aim k) (T.rd _ _) hn rfl rfl rfl (VH ok (by lia) n1 lt lh) (xQ ok) (fun _=>KZ T hn a2 (by lia) a4) (W.rd _ _) hw hpl' hlv (fun k' _ hm=>by
            rcases Ai.mp hm with hm | hm
            . exact .inl (Bx hm)
            . rcases Bk.mp hm with e | hm
              . have:k'=k:=by lia
                subst this;exact .inr ⟨h0,a1⟩
              . exact .inl (Cd hm))
          exact ⟨_,_,_,bg',rfl,st.of_rd⟩
        . rw [C7 h0]
          have hz:p.lv=0:=by lia
          have g0:w.O4=0:=by lia
          unfold ZZ
          cases hdd:w.O0 with
          | find k=>exact ⟨_,_,_,bg,rfl,Stp.still T hu fun h=>(by cases h)⟩
          | put k x =>
            have W1:WOk { S with rd:=S.rd+1,wr:=S.wr } bg ({ O0:=.put k x,aim:=w.aim,O4:=w.O4,O6:=w.O6,O3:=w.O3,Oz:=w.Oz,O1:=QK p w.aim,O5:=w.O5,O7:=w.O7 }:Wk):=⟨W.at_,W.none_,W.kept,W.above,W.chain,W.gap,W.full,W.tell⟩
            obtain ⟨bg',st⟩:=UR (S:={ S with rd:=S.rd+1,wr:=S.wr }) (w:=({ O0:=.put k x,aim:=w.aim,O4:=w.O4,O6:=w.O6,O3:=w.O3,Oz:=w.Oz,O1:=QK p w.aim,O5:=w.O5,O7:=w.O7 }:Wk)) (P:=QG p w.aim x) (T.rd _ _) hn rfl rfl rfl (xR ok hz la lh) (jV ok) (fun h=>(by lia)) W1 hw hpl' hlv (fun k' h=>(by lia))
            exact ⟨_,_,_,bg',rfl,⟨st.tree,⟨st.grow.old⟩,st.wok,st.unt,st.new,st.O2,st.len⟩⟩
          | cut k =>
            dsimp only
            by_cases hs:(QK p w.aim).isSome=true
            . rw [C8 hs]
              obtain ⟨T',G⟩:=T.write (x:=S.rd+1) (y:=S.wr+1) (p':=without p w.aim) hn rfl rfl rfl (uR ok hz) (fun h=>(by lia))
              exact ⟨_,_,_,bg,rfl,T',G,fun h=>(by cases h),fun k' v hu' _ _=>hu'.set hn rfl fun h=>(by lia),fun k' h=>(by cases h),rfl,by simp⟩
            . rw [C7 hs]
              exact ⟨_,_,_,bg,rfl,Stp.still T hu fun h=>(by cases h)⟩
          | stretch l h =>
            dsimp only
            rcases T.link n p hn with ⟨a,b⟩ | ⟨x,s,q,a,b,c,d,e⟩
            . simp only [a,b]
              exact ⟨_,_,_,bg,rfl,Stp.still T hu fun h=>(by cases h)⟩
            . simp only [a,b]
              by_cases hx:h<=x
              . rw [C8 hx]
                exact ⟨_,_,_,bg,rfl,Stp.still T hu fun h=>(by cases h)⟩
              . rw [C7 hx]
                exact ⟨_,_,_,bg,rfl,Stp.still T hu fun _=>⟨gE T W hpl' hn hg a c d e rfl rfl rfl (Bo _) (fun z=>(by lia)),rfl,fun _=>rfl⟩⟩
end
def ltO:Option Int->Option Int->Bool
 | none,some _=>true
 | some v,some u=>decide (v < u)
 | _,none=>false
theorem YJ {a b c:Option Int} (h:ltO a b=true) (g:ltO b c=true):ltO a c=true:=by
 cases a<;>cases b<;>cases c<;>simp_all [ltO];lia
theorem qZ (a:Option Int):ltO a a=false:=by cases a<;>simp [ltO]
theorem YK {b:Option Int} {h:Int} (w:ltB b h):ltO b (some h)=true:=by
 cases b with
 | none=>rfl
 | some v=>simpa [ltO] using w v rfl
theorem gA {α:Type} (p q:α->Bool):∀ l:List α,(∀ x∈l,q x=true->p x=true)->(l.filter q).length<=(l.filter p).length
  | [],_=>Ae _
  | x::l,h=>by
    have ih:=gA p q l fun y hy=>h y (Ax _ hy)
    have hx:=h x (by simp)
    by_cases a:q x=true
    . simp [As,a,hx a,ih]
    . by_cases b:p x=true
      . simp [As,a,b];lia
      . simp [As,a,b,ih]
theorem jl {α:Type} (p q:α->Bool):∀ l:List α,(∀ x∈l,q x=true->p x=true)->(∃ a∈l,p a=true/\q a=false)->(l.filter q).length < (l.filter p).length
  | [],_,h=>by obtain ⟨a,h,_⟩:=h;cases h
  | x::l,h,⟨a,ha,pa,qa⟩=>by
    have le:=gA p q l fun y hy=>h y (Ax _ hy)
    rcases Bk.mp ha with rfl | ha
    . simp [As,pa,qa];lia
    . have ih:=jl p q l (fun y hy=>h y (Ax _ hy)) ⟨a,ha,pa,qa⟩
      have hx:=h x (by simp)
      by_cases a:q x=true
      . simp [As,a,hx a];lia
      . by_cases b:p x=true
        . simp [As,a,b];lia
        . simp [As,a,b];lia
inductive Chain (S:Sh):Nat->List Nat->Prop
 | last {n:Nat} {p:Pg}:S.pg[n]?=some p->p.sd=none->Chain S n [n]
 | next {n:Nat} {p:Pg} {s:Nat} {r:List Nat}:S.pg[n]?=some p->p.sd=some s->Chain S s r->Chain S n (n::r)
section
variable {S:Sh} {bg:Bg}
theorem KW (T:Tree S bg) {n s:Nat} {p:Pg} (hn:S.pg[n]?=some p) (hs:p.sd=some s):∃ h q,p.hi=some h/\S.pg[s]?=some q/\q.lv=p.lv/\bg s=some h/\ltO (bg n) (bg s)=true:=by
 rcases T.link n p hn with ⟨_,b⟩ | ⟨h,s',q,a,b,c,d,e⟩
 ·rw [hs] at b;cases b
 ·rw [hs] at b;cases b
  exact ⟨h,q,a,c,d,e,by rw [e];exact YK ((T.page n p hn).wide h a)⟩
def mu (S:Sh) (bg:Bg) (n:Nat):Nat:=((List.range S.pg.length).filter fun m=>ltO (bg n) (bg m)).length
theorem Gi (T:Tree S bg):∀ (m n:Nat) (p:Pg),mu S bg n < m->S.pg[n]?=some p->∃ r,Chain S n r
  | 0,_,_,h,_=>by lia
  | m+1,n,p,h,hn=>by
    cases hs:p.sd with
    | none=>exact ⟨_,.last hn hs⟩
    | some s =>
      obtain ⟨x,q,a1,a2,a3,a4,a5⟩:=KW T hn hs
      have:mu S bg s < mu S bg n:=by
        refine jl _ _ _ (fun y _ hy=>YJ a5 hy) ⟨s,Ch.mpr (Q4 a2),a5,qZ _⟩
      obtain ⟨r,hr⟩:=Gi T m s q (by lia) a2
      exact ⟨_,.next hn hs hr⟩
theorem Chain.facts (T:Tree S bg) {n:Nat} {r:List Nat} (c:Chain S n r):∀ p,S.pg[n]?=some p->(∀ m∈r,∃ q,S.pg[m]?=some q/\q.lv=p.lv)/\(∀ m∈r,m=n∨ltO (bg n) (bg m)=true)/\r.Pairwise (fun a b=>ltO (bg a) (bg b)=true)/\(∀ m∈r,∀ q s,S.pg[m]?=some q->q.sd=some s->s∈r)/\n∈r:=by
  induction c with
  | @last n p0 hn hs =>
    intro p U
    rw [hn] at U;cases U
    refine ⟨fun m hm=>?_,fun m hm=>?_,by simp,fun m hm q s hq hqs=>?_,by simp⟩
    . rw [Ar.mp hm];exact ⟨_,hn,rfl⟩
    . exact .inl (Ar.mp hm)
    . rw [Ar.mp hm,hn] at hq;cases hq;rw [hs] at hqs;cases hqs
  | @next n p0 s r hn hs c ih =>
    intro p U
    rw [hn] at U;cases U
    obtain ⟨x,q,a1,a2,a3,a4,a5⟩:=KW T hn hs
    obtain ⟨i1,i2,i3,i4,i5⟩:=ih q a2
    have up:∀ m∈r,ltO (bg n) (bg m)=true:=fun m hm=>by
      rcases i2 m hm with rfl | h
      . exact a5
      . exact YJ a5 h
    refine ⟨fun m hm=>?_,fun m hm=>?_,Cp.mpr ⟨up,i3⟩,fun m hm q' s' hq hqs=>?_,by simp⟩
    . rcases Bk.mp hm with rfl | hm
      . exact ⟨_,hn,rfl⟩
      . obtain ⟨z,b1,b2⟩:=i1 m hm
        exact ⟨z,b1,b2.trans a3⟩
    . rcases Bk.mp hm with rfl | hm
      . exact .inl rfl
      . exact .inr (up m hm)
    . rcases Bk.mp hm with rfl | hm
      . rw [hn] at hq;cases hq
        rw [hs] at hqs;cases hqs
        exact Ax _ i5
      . exact Ax _ (i4 m hm q' s' hq hqs)
theorem GY {r:List Nat} (h:r.Pairwise (fun a b=>ltO (bg a) (bg b)=true)):r.Nodup :=
 h.imp fun {a b} hab e=>by subst e;rw [qZ] at hab;cases hab
theorem Ug (T:Tree S bg) {n:Nat} {r:List Nat} {p:Pg} (c:Chain S n r) (hn:S.pg[n]?=some p) (hb:bg n=none):∀ (k m:Nat) (q:Pg),((List.range S.pg.length).filter fun x=>ltO (bg x) (bg m)).length < k->S.pg[m]?=some q->q.lv=p.lv->m∈r
  | 0,_,_,h,_,_=>by lia
  | k+1,m,q,h,hm,hl=>by
    obtain ⟨f1,f2,f3,f4,f5⟩:=c.facts T p hn
    cases e:bg m with
    | none=>rw [T.uniq hm hn hl (by rw [e,hb])];exact f5
    | some v =>
      obtain ⟨a,z,b1,b2,b3⟩:=T.pred m q hm v e
      have lt:ltO (bg a) (bg m)=true:=by rw [e];exact YK ((T.page a z b1).wide v b3)
      have:((List.range S.pg.length).filter fun x=>ltO (bg x) (bg a)).length < ((List.range S.pg.length).filter fun x=>ltO (bg x) (bg m)).length :=
        jl _ _ _ (fun y _ hy=>YJ hy lt) ⟨a,Ch.mpr (Q4 b1),lt,qZ _⟩
      have ha:=Ug T c hn hb k a z (by lia) b1 (by lia)
      rcases T.link a z b1 with ⟨g1,_⟩ | ⟨x,s,y,g1,g2,g3,g4,g5⟩
      . rw [b3] at g1;cases g1
      . rw [b3] at g1;cases g1
        have:s=m:=T.uniq g3 hm (by lia) (by rw [g5,e])
        subst this
        exact f4 a ha z s b1 g2
theorem Qf4 (T:Tree S bg) {n:Nat} {p:Pg} (hn:S.pg[n]?=some p) (hb:bg n=none):∃ r,Chain S n r/\r.Nodup/\(∀ m,m∈r↔∃ q,S.pg[m]?=some q/\q.lv=p.lv):=by
 obtain ⟨r,c⟩:=Gi T (mu S bg n+1) n p (by lia) hn
 obtain ⟨f1,f2,f3,f4,f5⟩:=c.facts T p hn
 exact ⟨r,c,GY f3,fun m=>⟨f1 m,fun ⟨q,h1,h2⟩=>Ug T c hn hb _ m q (C0 _) h1 h2⟩⟩
def lvB (S:Sh) (f:Nat->Bool) (n:Nat):Bool:=match S.pg[n]? with
 | some p=>f p.lv
 | none=>false
theorem Qd6 (T:Tree S bg) {l:Nat} {r:List Nat} (h:r.Nodup) (hm:∀ m,m∈r↔∃ q,S.pg[m]?=some q/\q.lv=l):r.length=((List.range S.pg.length).filter (lvB S fun x=>decide (x=l))).length:=by
 refine List.Perm.length_eq ((List.perm_ext_iff_of_nodup h (List.nodup_range.filter _)).mpr fun m=>?_)
 rw [hm m,Bm,Ch]
 constructor
 ·rintro ⟨q,h1,h2⟩
  exact ⟨Q4 h1,by unfold lvB;rw [h1];simpa using h2⟩
 ·rintro ⟨h1,h2⟩
  unfold lvB at h2
  rw [Ab h1] at h2
  exact ⟨_,Ab h1,by simpa using h2⟩
theorem XU (S:Sh) (j:Nat):∀ l:List Nat,(l.filter (lvB S fun x=>decide (x < j+1))).length=(l.filter (lvB S fun x=>decide (x < j))).length+(l.filter (lvB S fun x=>decide (x=j))).length
  | []=>rfl
  | n::l=>by
    have ih:=XU S j l
    have e:∀ f:Nat->Bool,((n::l).filter (lvB S f)).length=(if lvB S f n=true then 1 else 0)+(l.filter (lvB S f)).length:=fun f=>by
      by_cases h:lvB S f n=true
      . simp [As,h];lia
      . simp [As,h]
    rw [e,e,e,ih]
    unfold lvB
    cases S.pg[n]? with
    | none=>simp
    | some p =>
      simp only [decide_eq_true_eq]
      rcases Nat.lt_trichotomy p.lv j with h | h | h
      . rw [C8 (by lia),C8 h,C7 (by lia)];lia
      . rw [C8 (by lia),C7 (by lia),C8 h];lia
      . rw [C7 (by lia),C7 (by lia),C7 (by lia)];lia
theorem yA (S:Sh) (l:List Nat):(l.filter (lvB S fun x=>decide (x < 0))).length=0:=by
 rw [List.length_eq_zero_iff,List.filter_eq_nil_iff]
 intro n _
 unfold lvB
 cases S.pg[n]?<;>simp
theorem jZ {L:Nat} (h:∀ (n:Nat) (p:Pg),S.pg[n]?=some p->p.lv<=L):((List.range S.pg.length).filter (lvB S fun x=>decide (x < L+1))).length=S.pg.length:=by
 rw [Cs.mpr,List.length_range]
 intro n hn
 rw [Ch] at hn
 unfold lvB
 rw [Ab hn]
 have:=h n _ (Ab hn)
 simp;lia
end
theorem Qce (fs:List (Nat×Nat)) (k v:Nat):(zR fs k v).length<=fs.length+1:=by
 unfold zR;split<;>simp
theorem jU (S:Sh) (w:Wk) (n:Nat) (P:Pg):(Qr S w n P).2.2.O3=w.O3/\(Qr S w n P).2.2.O5=w.O5:=by
 unfold Qr;split<;>exact ⟨rfl,rfl⟩
theorem G0 (p:Pg) (l h:Int):(QO p l h).length<=p.ks.length:=by
 unfold QO
 refine Bj (Cb _ _) ?_
 rw [List.length_zip];lia
theorem ua (S:Sh) (w:Wk) (n:Nat) (p:Pg):(ZZ S w n p).2.2.O3=w.O3/\(ZZ S w n p).2.2.O5.length<=w.O5.length+p.ks.length:=by
  obtain ⟨O0,aim,O4,O6,O3,Oz,O1,O5,O7⟩:=w
  cases O0 with
  | find k=>exact ⟨rfl,by simp [ZZ]⟩
  | put k x =>
    have:=jU S ⟨.put k x,aim,O4,O6,O3,Oz,QK p aim,O5,O7⟩ n (QG p aim x)
    refine ⟨this.1,?_⟩
    show (Qr S ⟨.put k x,aim,O4,O6,O3,Oz,QK p aim,O5,O7⟩ n (QG p aim x)).2.2.O5.length<=_
    rw [this.2]
    exact Nat.le_add_right _ _
  | cut k=>exact ⟨rfl,by simp [ZZ]⟩
  | stretch l h =>
    have pl:=G0 p l h
    unfold ZZ
    dsimp only
    split
    . split
      . exact ⟨rfl,by simp;lia⟩
      . exact ⟨rfl,by simp;lia⟩
    . exact ⟨rfl,by simp;lia⟩
theorem uL {S S':Sh} {w w':Wk} {r:Row} {m:Nat} (hk:∀ (n:Nat) (p:Pg),S.pg[n]?=some p->p.ks.length<=m) (h:Jp S w=some (r,S',w')):w'.O3.length<=w.O3.length+1/\w'.O5.length<=w.O5.length+m:=by
 unfold Jp at h
 split at h
 ·cases h;exact ⟨by lia,by lia⟩
 ·split at h
  ·cases h
  ·rename_i p U
   have kl:=hk _ p U
   split at h
   ·split at h
    ·cases h
    ·cases h;exact ⟨by simp,by simp⟩
   ·split at h
    ·split at h
     ·cases h
     ·cases h;exact ⟨by simp,by simp⟩
    ·split at h
     ·split at h
      ·cases h
      ·cases h;exact ⟨Qce _ _ _,by simp⟩
     ·split at h
      ·split at h
       ·cases h
       ·rename_i c hc
        have z:=jU { S with rd:=S.rd+1 } w (w.O6.getD S.top) (Q1 p w.aim c)
        have e:=Ak h
        have e2:(Qr { S with rd:=S.rd+1 } w (w.O6.getD S.top) (Q1 p w.aim c)).2.2=w':=congrArg (fun t=>t.2.2) e
        rw [e2] at z
        exact ⟨by rw [z.1];lia,by rw [z.2];lia⟩
      ·have e:=Ak h
       have z:=ua { S with rd:=S.rd+1 } w (w.O6.getD S.top) p
       rw [e] at z
       have z2:w'.O5.length<=w.O5.length+p.ks.length:=z.2
       have z1:w'.O3=w.O3:=z.1
       exact ⟨by rw [z1];lia,by lia⟩
def fresh (d:Deed):Wk:=⟨d,d.key,0,none,[],none,none,[],false⟩
end TR
namespace D
open PySem PySem.Spec PyProof.Rows L2
def oN:Option Nat->DV
 | none=>.non
 | some n=>.int n
def pgD (p:TR.Pg):DV:=.tup [.int p.lv,.tup (p.ks.map .int),.tup (p.ps.map .int),opt p.hi,oN p.sd]
def Z8:TR.Deed->DV
 | .find k=>.tup [.str "find", .int k]
 | .put k w=>.tup [.str "put", .int k,.int w]
 | .cut k=>.tup [.str "cut", .int k]
 | .stretch l h=>.tup [.str "stretch", .int l,.int h]
def fkD (fs:List (Nat×Nat)):List (Key×DV):=fs.map fun p=>(.inl p.1,.int p.2)
def prD (ps:Ek):List DV:=ps.map fun p=>.tup [.int p.1,.int p.2]
def wkF (s f q:Nat) (d a g p n w e:DV):List (Str×DV):=[("shelf", .ref s),("deed", d),("aim", a),("goal", g),("place", p),("forks", .ref f),("new_page", n),("worth", w),("pairs", .ref q),("ended", e)]
def wkO (s f q:Nat) (w:TR.Wk):OV:=.ins "Walk" (wkF s f q (Z8 w.O0) (.int w.aim) (.int w.O4) (oN w.O6) (oN w.Oz) (opt w.O1) (.bl w.O7))
def QaE:TR.Row->DV
 | .non=>.non
 | .side n t=>.tup [.str "side", .int n,.int t]
 | .down n t=>.tup [.str "down", .int n,.int t]
 | .found n w=>.tup [.str "found", .int n,opt w]
 | .put n w k=>.tup [.str "put", .int n,opt w,oN k]
 | .cut n w=>.tup [.str "cut", .int n,opt w]
 | .read n ps none=>.tup [.str "read", .int n,.tup (prD ps),.non,.non]
 | .read n ps (some (t,a))=>.tup [.str "read", .int n,.tup (prD ps),.int t,.int a]
 | .told n k=>.tup [.str "told", .int n,oN k]
 | .raised n t=>.tup [.str "raised", .int n,.int t]
section
variable (s f q:Nat) (d a g p n w e x:DV)
theorem QaT:List.lookup ("shelf" : Str) (wkF s f q d a g p n w e)=some (.ref s):=by rfl
theorem YV:List.lookup ("deed" : Str) (wkF s f q d a g p n w e)=some d:=by rfl
theorem Yl:List.lookup ("aim" : Str) (wkF s f q d a g p n w e)=some a:=by rfl
theorem vv:List.lookup ("goal" : Str) (wkF s f q d a g p n w e)=some g:=by rfl
theorem YW:List.lookup ("place" : Str) (wkF s f q d a g p n w e)=some p:=by rfl
theorem U1:List.lookup ("forks" : Str) (wkF s f q d a g p n w e)=some (.ref f):=by rfl
theorem K3:List.lookup ("new_page" : Str) (wkF s f q d a g p n w e)=some n:=by rfl
theorem XX:List.lookup ("worth" : Str) (wkF s f q d a g p n w e)=some w:=by rfl
theorem U2:List.lookup ("pairs" : Str) (wkF s f q d a g p n w e)=some (.ref q):=by rfl
theorem Xo:List.lookup ("ended" : Str) (wkF s f q d a g p n w e)=some e:=by rfl
def Qeo:(wkF s f q d a g p n w e).length=10:=rfl
theorem QcL:List.lookup ("go_on" : Str) (wkF s f q d a g p n w e)=none:=by rfl
theorem Qgh:List.lookup ("do_deed" : Str) (wkF s f q d a g p n w e)=none:=by rfl
theorem Qgi:List.lookup ("tell_fork" : Str) (wkF s f q d a g p n w e)=none:=by rfl
theorem Qgj:List.lookup ("raise_root_over" : Str) (wkF s f q d a g p n w e)=none:=by rfl
theorem QcM:List.lookup ("settle" : Str) (wkF s f q d a g p n w e)=none:=by rfl
theorem Qgk:List.lookup ("find_worth" : Str) (wkF s f q d a g p n w e)=none:=by rfl
theorem Qgl:List.lookup ("put_pair" : Str) (wkF s f q d a g p n w e)=none:=by rfl
theorem Qgm:List.lookup ("cut_key" : Str) (wkF s f q d a g p n w e)=none:=by rfl
theorem Qgn:List.lookup ("read_pairs" : Str) (wkF s f q d a g p n w e)=none:=by rfl
theorem K2:List.lookup ("step" : Str) (wkF s f q d a g p n w e)=none:=by rfl
theorem yp:List.lookup ("over" : Str) (wkF s f q d a g p n w e)=none:=by rfl
theorem yq:List.lookup ("answer" : Str) (wkF s f q d a g p n w e)=none:=by rfl
end
theorem Qdc (fs:List (Nat×Nat)) (k v:Nat):zm (fkD fs) (.inl (k:Int)) (.int v)=fkD (TR.zR fs k v):=by
 unfold zm TR.zR
 have e:((fkD fs).any fun kv=>decide (kv.1=(.inl (k:Int):Key)))=fs.any fun p=>decide (p.1=k):=by
  unfold fkD
  rw [List.any_map]
  congr 1
  funext p
  simp only [Function.comp]
  congr 1
  simp
  lia
 rw [e]
 by_cases h:(fs.any fun p=>decide (p.1=k))=true
 ·rw [C8 h,C8 h]
  unfold fkD
  rw [List.map_map,List.map_map]
  apply List.map_congr_left
  intro p _
  simp only [Function.comp]
  by_cases q:p.1=k
  ·simp [q]
  ·have:¬ ((p.1:Int)=(k:Int)):=by lia
   simp [q,this]
 ·rw [C7 h,C7 h]
  simp [fkD]
theorem Qdd (fs:List (Nat×Nat)) (k:Nat):XB (fkD fs) (.inl (k:Int))=(TR.Jj fs k).map fun v=>.int v:=by
  induction fs with
  | nil=>rfl
  | cons p r ih =>
    rw [show fkD (p::r)=(.inl (p.1:Int),.int p.2)::fkD r from rfl,U0,ih]
    unfold TR.Jj
    rw [B8]
    by_cases q:p.1=k
    . simp [q]
    . have:¬ ((p.1:Int)=(k:Int)):=by lia
      simp [q,this]
def Qdb (fs:List (Nat×Nat)):(fkD fs).length=fs.length:=Br _
section
variable {c f m:Str} {o e:DEx} {fa:DAx} {env:En} {U hp1 hp2:Hs} {a n:Nat} {fs:List (Str×DV)} {d v:DV} {ds:List DV} {F:Ep}
theorem KG {α:Type} {k:Nat->List (Str×DV)->M α} (h:U[a]?=some (.ins c fs)):onI c (.ref a) k U=k a fs U:=by
 show (ZE a >>= _) U=_
 rw [Qg (Zw h)]
 show (Qx (decide (c=c)) >>= fun _=>k a fs) U=_
 rw [Ec rfl];rfl
theorem Jl (he:e env U=some (v,hp1)) (ho:o env hp1=some (.ref a,hp1)) (h:hp1[a]?=some (.ins c fs)) (hl:fs.length < 1000):Zb c f o e env U=some ((.nx,env),hp1.set a (.ins c (J8 f v fs))):=by
 unfold Zb
 rw [Qg he,Qg ho]
 unfold zU
 have:onI c (.ref a) (fun n fs=>do Qx (decide (fs.length < 1000));xw n (.ins c (J8 f v fs))) hp1=some ((),hp1.set a (.ins c (J8 f v fs))):=by
  rw [KG h,Ec hl];rfl
 rw [Qg this];rfl
theorem QY (ho:o env U=some (.ref a,hp1)) (h:hp1[a]?=some (.ins c fs)) (hf:fs.lookup f=some d):QD c f o env U=some (d,hp1):=by
 unfold QD
 rw [Qg ho]
 unfold zM
 rw [KG h,hf];rfl
theorem Q0 (ho:o env U=some (.ref a,U)) (h:U[a]?=some (.ins c fs)) (hm:fs.lookup m=none) (ha:fa env U=some (ds,hp1)) (hn:ds.length+1=n) (hF:F (.ref a::ds) hp1=some (d,hp2)):QE c m n F o fa env U=some (d,hp2):=by
 unfold QE
 rw [Qg ho]
 have:onI c (.ref a) (fun _ fs=>Qx (fs.lookup m).isNone) U=some ((),U):=by rw [KG h,hm];rfl
 rw [Qg this,Qg ha,Ec hn]
 show (Qx true >>= fun _=>F (.ref a::ds)) hp1=_
 exact hF
def Xh:Qn env U=some ([],U):=rfl
theorem JL (h:e env U=some (v,hp1)):Qc e Qn env U=some ([v],hp1):=by unfold Qc;rw [Qg h];rfl
theorem ZF {e':DEx} (h:e env U=some (v,hp1)) (h':e' env hp1=some (v',hp2)):Qc e (Qc e' Qn) env U=some ([v,v'],hp2):=by
 have:=JL h'
 unfold Qc at this ⊢;rw [Qg h,Qg this];rfl
theorem JM {e' e'':DEx} (h:e env U=some (v,hp1)) (h':e' env hp1=some (v',hp2)) (h'':e'' env hp2=some (v'',hp3)):Qc e (Qc e' (Qc e'' Qn)) env U=some ([v,v',v''],hp3):=by
 have:=ZF h' h''
 unfold Qc at this ⊢;rw [Qg h,Qg this];rfl
theorem Qf {i:Nat} (h:env[i]?=some (.val d)):Qd i env U=some (d,U):=by unfold Qd;rw [h];rfl
theorem Zc {k:Nat} (ha:fa env U=some (ds,hp1)) (hk:ds.length=k) (hF:F ds hp1=some (d,hp2)):Qv k F fa env U=some (d,hp2):=by
 unfold Qv;rw [Qg ha,Ec hk];exact hF
theorem Zu {c:DTx} {f g:DSx} (h:c env U=some (true,hp1)):sIf c f g env U=f env hp1:=by rw [Qck h];rfl
theorem QR {c:DTx} {f g:DSx} (h:c env U=some (false,hp1)):sIf c f g env U=g env hp1:=by rw [Qck h];rfl
def QS:Zo env U=some ((.nx,env),U):=rfl
end
theorem Qc6 {o:DEx} {fa:DAx} {U:Hs} {a:Nat} {fs:List (Nat×Nat)} {j:Nat} (ho:o env U=some (.ref a,U)) (h:U[a]?=some (.dic (fkD fs))) (ha:fa env U=some ([.int (j:Int)],U)):Jz "dict" JY o fa env U=some (oN (TR.Jj fs j),U):=by
 unfold Jz
 rw [Qg ho]
 have e2:J5 "dict" (.ref a) U=some ((),U):=by
  show (ZE a >>= _) U=_
  rw [Qg (Zw h)];rfl
 rw [Qg e2,Qg ha]
 show (ZE a >>= _) U=_
 rw [Qg (Zw h)]
 show some (((XB (fkD fs) (.inl (j:Int))).getD .non),U)=_
 rw [Qdd]
 cases TR.Jj fs j<;>rfl
theorem wl {s f q:Nat} {d a g p n w e:DV}:(wkF s f q d a g p n w e).length < 1000:=by rw [Qeo];decide
theorem JV {xs:List DV} {i:Nat} (h:xs[i]?=some d) (U:Hs):ixG (.tup xs) (.int i) U=some (d,U):=by
 show ixD (.tup xs) (.int i) U=_
 simp only [ixD,zX h];rfl
def Qb4 (p:TR.Pg) (U:Hs):ixG (pgD p) (.int 0) U=some (.int p.lv,U):=JV (i:=0) rfl U
def QfL (p:TR.Pg) (U:Hs):ixG (pgD p) (.int 1) U=some (.tup (p.ks.map .int),U):=JV (i:=1) rfl U
def QfM (p:TR.Pg) (U:Hs):ixG (pgD p) (.int 2) U=some (.tup (p.ps.map .int),U):=JV (i:=2) rfl U
def QfK (p:TR.Pg) (U:Hs):ixG (pgD p) (.int 3) U=some (opt p.hi,U):=JV (i:=3) rfl U
def Qb5 (p:TR.Pg) (U:Hs):ixG (pgD p) (.int 4) U=some (oN p.sd,U):=JV (i:=4) rfl U
theorem Gq (d:TR.Deed) (U:Hs):ixG (Z8 d) (.int 1) U=some (.int d.key,U):=by cases d<;>exact JV (i:=1) rfl U
section
variable {e e' e'' e3 e4:DEx} {fa:DAx} {env:En} {U hp1 hp2 hp3 hp4 hp5:Hs} {v v' v'' v3 v4 d:DV} {ds:List DV}
theorem Jt (ha:fa env U=some (ds,hp1)) (hs:ds.length<=100000):Zt fa env U=some (.tup ds,hp1):=by
 unfold Zt
 rw [Qg ha]
 have:YT ds=true:=Ec hs
 rw [this];rfl
theorem uY (h:e env U=some (v,hp1)) (h':e' env hp1=some (v',hp2)) (h'':e'' env hp2=some (v'',hp3)) (h3:e3 env hp3=some (v3,hp4)):Qc e (Qc e' (Qc e'' (Qc e3 Qn))) env U=some ([v,v',v'',v3],hp4):=by
 have:=JM h' h'' h3
 unfold Qc at this ⊢;rw [Qg h,Qg this];rfl
theorem Qeu (h:e env U=some (v,hp1)) (h':e' env hp1=some (v',hp2)) (h'':e'' env hp2=some (v'',hp3)) (h3:e3 env hp3=some (v3,hp4)) (h4:e4 env hp4=some (v4,hp5)):Qc e (Qc e' (Qc e'' (Qc e3 (Qc e4 Qn)))) env U=some ([v,v',v'',v3,v4],hp5):=by
 have:=uY h' h'' h3 h4
 unfold Qc at this ⊢;rw [Qg h,Qg this];rfl
end
theorem kW {t:DV->M Bool} {f:DV->M DV} {p:DV->Bool} (ds:List DV) (ht:∀ d∈ds,t d U=some (p d,U)) (hf:∀ d∈ds,f d U=some (d,U)) (hl:ds.length < 100000):Xv (nxD ds) t f 100000 0 U=some (ds.filter p,U):=by
  suffices h:∀ (m i n:Nat),m+i=ds.length->m < n->Xv (nxD ds) t f n i U=some ((ds.drop i).filter p,U) by simpa using h ds.length 0 100000 rfl hl
  intro m
  induction m with
  | zero =>
    intro i n e hn'
    obtain ⟨n,rfl⟩:∃ k,n=k+1:=⟨n - 1,by lia⟩
    have:i=ds.length:=by lia
    subst this
    have e1:=qf ds ds.length (Ae _) U
    rw [show ds[ds.length]?=none by simp] at e1
    rw [Xv,Qg e1,List.drop_length]
    rfl
  | succ m ih =>
    intro i n e hn'
    obtain ⟨n,rfl⟩:∃ k,n=k+1:=⟨n - 1,by lia⟩
    have hlt:i < ds.length:=by lia
    have e1:=qf ds i (by lia) U
    rw [Ab hlt] at e1
    have hi:=ih (i+1) n (by lia) (by lia)
    rw [Xv,Qg e1]
    simp only
    rw [Qg (ht ds[i] (B9 hlt)),Bi hlt]
    cases q:p ds[i] with
    | false=>rw [List.filter_cons_of_neg (by simp [q])];simpa using hi
    | true =>
      rw [List.filter_cons_of_pos q]
      simp only [if_true]
      rw [Qg (hf ds[i] (B9 hlt)),Qg hi]
      rfl
theorem kE:∀ (ks ps:List Int),XS (ks.map .int) (ps.map .int)=prD (ks.zip ps)
  | [],_=>by cases ‹List Int› <;> rfl
  | _::_,[]=>rfl
  | k::ks,p::ps=>by
    show .tup [.int k,.int p]::XS (ks.map .int) (ps.map .int)=_
    rw [kE ks ps];rfl
def QdS (l h:Int):DV->Bool
 | .tup [.int x,_]=>decide (l<=x)&&decide (x < h)
 | _=>false
theorem uz (l h:Int) (zs:Ek):(prD zs).filter (QdS l h)=prD (zs.filter fun q=>decide (l<=q.1)&&decide (q.1 < h)):=by
 unfold prD
 rw [List.filter_map];rfl
theorem Qae {o:DEx} {fa:DAx} {U:Hs} {a b:Nat} {ds es:List DV} (ho:o env U=some (.ref a,U)) (h:U[a]?=some (.lst ds)) (ha:fa env U=some ([.ref b],U)) (hb:U[b]?=some (.lst es)) (hl:ds.length+es.length<=100000):Jz "list" jv o fa env U=some (.non,U.set a (.lst (ds++es))):=by
 unfold Jz
 rw [Qg ho]
 have e2:J5 "list" (.ref a) U=some ((),U):=by
  show (ZE a >>= _) U=_
  rw [Qg (Zw h)];rfl
 rw [Qg e2,Qg ha]
 show (ZE a >>= _) U=_
 rw [Qg (Zw h)]
 show (ZE b >>= _) U=_
 rw [Qg (Zw hb)]
 show (Qx (decide (ds.length+es.length<=lim)) >>= fun _=>xw a (.lst (ds++es)) >>= fun _=>pure DV.non) U=_
 rw [show decide (ds.length+es.length<=lim)=true from Ec hl];rfl
def qh (zs:Ek):(prD zs).length=zs.length:=Br _
theorem gW (zs ys:Ek):prD zs++prD ys=prD (zs++ys):=by simp [prD]
theorem xp (o:Option Int):isD (opt o) .non=pure (.bl o.isNone):=by cases o<;>rfl
theorem ur (o:Option Int):jt (opt o) .non=pure (.bl o.isSome):=by cases o<;>rfl
theorem yW (o:Option Nat):isD (oN o) .non=pure (.bl o.isNone):=by cases o<;>rfl
theorem gQ {x:Str} (h:PyData.strOk x=true):okP (.str x)=true:=by simp [okP,Uy,toP,SeqAt.shaped,PyData.canLay0,PyData.depth,h]
theorem eqS {x y:Str} (U:Hs) (h1:PyData.strOk x=true) (h2:PyData.strOk y=true) {b:Bool} (h:(x==y)=b):eqG (.str x) (.str y) U=some (.bl b,U):=by
 unfold eqG
 have e:VV (.str x) (.str y) U=some (x==y,U):=by
  rw [gy (gv 39 U x) (gv 39 U y) (gQ h1) (gQ h2)];rfl
 rw [Qg e,h];rfl
section
variable {c c':DTx} {e e':DEx} {env:En} {U hp1:Hs} {b:Bool}
theorem QgC (h:c env U=some (true,hp1)):eOr c c' env U=some (true,hp1):=by unfold eOr;rw [Qg h];rfl
theorem jk (h:c env U=some (false,hp1)):eOr c c' env U=c' env hp1:=by unfold eOr;rw [Qg h];rfl
theorem vW (h:c env U=some (true,hp1)):Xx c c' env U=c' env hp1:=by unfold Xx;rw [Qg h];rfl
theorem Km (h:c env U=some (false,hp1)):Xx c c' env U=some (false,hp1):=by unfold Xx;rw [Qg h];rfl
theorem QgB (h:c env U=some (true,hp1)):eIf c e e' env U=e env hp1:=by unfold eIf;rw [Qg h];rfl
theorem QgA (h:c env U=some (false,hp1)):eIf c e e' env U=e' env hp1:=by unfold eIf;rw [Qg h];rfl
end
theorem yQ {w:TR.Wk} {i:Nat} {k:Int} (h:w.O0=.find k):TR.ZZ S w i p=(.found i (TR.QK p w.aim),S,{ w with O1:=TR.QK p w.aim,O7:=true }):=by
 cases w;simp only at h;subst h;rfl
theorem Uw {w:TR.Wk} {i:Nat} {k x:Int} (h:w.O0=.put k x):TR.ZZ S w i p=(.put i (TR.QK p w.aim) (TR.Qr S { w with O1:=TR.QK p w.aim } i (TR.QG p w.aim x)).1,(TR.Qr S { w with O1:=TR.QK p w.aim } i (TR.QG p w.aim x)).2.1,(TR.Qr S { w with O1:=TR.QK p w.aim } i (TR.QG p w.aim x)).2.2):=by
 cases w;simp only at h;subst h;rfl
theorem Uv {S:TR.Sh} {w:TR.Wk} {i:Nat} {k:Int} (h:w.O0=.cut k):TR.ZZ S w i p=(.cut i (TR.QK p w.aim),if (TR.QK p w.aim).isSome=true then { S with pg:=S.pg.set i (TR.without p w.aim),wr:=S.wr+1 } else S,{ w with O1:=TR.QK p w.aim,O7:=true }):=by
 cases w;simp only at h;subst h;rfl
theorem Qan {w:TR.Wk} {i:Nat} {p:TR.Pg} {l h:Int} (e:w.O0=.stretch l h) (h1:p.hi=none):TR.ZZ S w i p=(.read i (TR.QO p l h) none,S,{ w with O5:=w.O5++TR.QO p l h,O7:=true }):=by
 cases w;cases p;simp only at e h1;subst e h1;rfl
theorem QbK {w:TR.Wk} {i:Nat} {p:TR.Pg} {l h x:Int} {s:Nat} (e:w.O0=.stretch l h) (h1:p.hi=some x) (h2:p.sd=some s):TR.ZZ S w i p=if h<=x then (.read i (TR.QO p l h) none,S,{ w with O5:=w.O5++TR.QO p l h,O7:=true }) else (.read i (TR.QO p l h) (some (s,x)),S,{ w with O5:=w.O5++TR.QO p l h,aim:=x,O6:=some s }):=by
 cases w;cases p;simp only at e h1 h2;subst e h1 h2;rfl
theorem Qf9 {e o j:DEx} {U:Hs} {a l v:Nat} {fs:List (Nat×Nat)} (he:e env U=some (.int (v:Int),U)) (ho:o env U=some (.ref a,U)) (hj:j env U=some (.int (l:Int),U)) (h:U[a]?=some (.dic (fkD fs))) (hf:fs.length < 5000):Ya e (gSb o j) env U=some ((.nx,env),U.set a (.dic (fkD (TR.zR fs l v)))):=by
 refine kn he ?_
 unfold gSb
 rw [Qg ho,Qg hj]
 have:=G3 (d:=.int (v:Int)) h (show Y7 (.int (l:Int))=some (.inl (l:Int)) from rfl) (by rw [Qdb];lia)
 rw [Qdc] at this
 rw [Qg this];rfl
section
variable {f g:DEx} {fa:DAx} {env:En} {U hp1 hp2:Hs} {d x y:DV} {ds:List DV} {F:Ep}
theorem Y5 (h:fa env U=some (ds,hp1)) (hF:F ds hp1=some (d,hp2)):ZW F fa env U=some (d,hp2):=by unfold ZW;rw [Qg h];exact hF
def GR (ds:List DV) (U:Hs):Xy [.lst ds] U=some (.int ds.length,U):=rfl
theorem QbL {n:Nat} (h:U[n]?=some (.lst ds)):Xy [.ref n] U=some (.int ds.length,U):=by
 show (ZE n >>= _) U=_
 rw [Qg (Zw h)];rfl
theorem neI (i j:Int) (U:Hs):neG (.int i) (.int j) U=some (.bl (!(i==j)),U):=by
 unfold neG;rw [Qg (GF i j U)];rfl
theorem QgT (i:Int) (U:Hs):neG (.int i) (.int i) U=some (.bl false,U):=by rw [neI];simp
theorem eqI (i j:Int) (U:Hs):eqG (.int i) (.int j) U=some (.bl (i==j),U):=by
 unfold eqG;rw [Qg (GF i j U)];rfl
end
theorem QcR {f:DIx} (h:f env U=some (ds,hp1)):xOf f env U=some (nxD ds,hp1):=by unfold xOf;rw [Qg h];rfl
section
variable {c:DTx} {b:DSx} {n:Nat} {env env1:En} {U hp1 hp2:Hs}
theorem Qen (h:c env U=some (true,hp1)) (hb:b env hp1=some ((.nx,env1),hp2)):XJ c b (n+1) env U=XJ c b n env1 hp2:=by
 rw [XJ,Qg h]
 simp only [if_true]
 rw [Qg hb]
theorem Qem (h:c env U=some (false,hp1)):XJ c b (n+1) env U=some ((.nx,env),hp1):=by
 rw [XJ,Qg h];rfl
end
def nD (r:List Nat):List DV:=r.map fun n:Nat=>DV.int (n:Int)
theorem V9 {o e:DEx} {U:Hs} {a:Nat} {ds:List DV} (ho:o env U=some (.ref a,U)) (h:U[a]?=some (.lst ds)) (he:e env U=some (d,U)) (hl:ds.length < 100000):Jz "list" ZN o (Qc e Qn) env U=some (.non,U.set a (.lst (ds++[d]))):=by
 unfold Jz
 rw [Qg ho]
 have e2:J5 "list" (.ref a) U=some ((),U):=by
  show (ZE a >>= _) U=_
  rw [Qg (Zw h)];rfl
 rw [Qg e2,Qg (JL he)]
 show (ZE a >>= _) U=_
 rw [Qg (Zw h)]
 show (Qx (decide (ds.length < lim)) >>= fun _=>xw a (.lst (ds++[d])) >>= fun _=>pure DV.non) U=_
 rw [show decide (ds.length < lim)=true from Ec hl];rfl
theorem Qd7 {n:Nat} {body:DSx} {ds:List DV} (h:body (ds.map .val++List.replicate (n - ds.length) .un) U=some ((.nx,env),hp1)):Q2 n body ds U=some (.non,hp1):=by
 unfold Q2
 rw [Qg h];rfl
theorem G1 (f:Str) (d:DV):∀ fs:List (Str×DV),(J8 f d fs).length<=fs.length+1
  | []=>Ae _
  | (g,x)::r=>by
    unfold J8
    split
    . simp
    . simpa using G1 f d r
def JN {f:Str} {fs:List (Str×DV)} {m:Nat} (h:fs.length<=m):(J8 f d fs).length<=m+1:=Bj (G1 f d fs) (Nat.succ_le_succ h)
section
variable {X:Cx} {e:Expr} {f:DEx} {pos:Pos}
def YF (T:String) (f:DEx):DEx:=fun env=>do
  let x <- f env
  match x with
  | .ref n=>do
    match <- ZE n with
    | .lst _=>pure (.bl (yM "list" T))
    | _=>failure
  | x=>match VC x with
    | some t=>pure (.bl (yM t T))
    | none=>failure
theorem QeV {T:String} (hT:T∈["int", "bool", "tuple", "str", "list"]):CallR X (.builtin "isinstance") (fun xs H Q=>(∃ ρ B d x t,xs=[x,.ty T]/\RepV X.K ρ B H d x/\VC d=some t/\Q (.bl (yM t T)) H)∨∃ a ys,xs=[.ref a,.ty T]/\SqL X.K H a ys/\Q (.bl (yM "list" T)) H):=by
 intro O9 s σ H xs us Q I r h
 rcases h with h | ⟨a,ys,rfl,sq,q⟩
 ·exact Qgw hT O9 s σ H xs us Q I r h
 ·obtain ⟨u,w',rfl,ru,rw'⟩:=VG r
  cases rw'
  have fin:∀ tk,EP X O9 σ Q (.bool (yM "list" T)) { s with toks:=tk }:=fun tk=>⟨.bl _,H,I.tok _,rfl,q⟩
  have kit:PySem.W.kitOne X.K (.type "list") (.type T)=some (yM "list" T):=by
   simp only [Bk,Cf,or_false] at hT
   rcases hT with rfl | rfl | rfl | rfl | rfl<;>first | rfl | decide | with_unfolding_all rfl | kernel_rfl
  cases ru
  obtain ⟨its,_,⟨o,k,e1,e2,_⟩,_⟩:=I.list sq
  exact PySem.W.kia_one PySem.W.kitx_list I.kIn ⟨o,e1,e2⟩ kit (fun z=>nomatch z) fin
theorem jf {T:String} {p p':Pos} (hm:X.mg "isinstance" = none) (hm':X.mg (Str.ofString T)=none) (hv:bootBuiltins (Str.ofString T)=some (.type T)) (hT:T∈["int", "bool", "tuple", "str", "list"]) (h:DE X e f) (hg:Gl X "isinstance" := by rfl) (hg':Gl X (Str.ofString T):=by rfl)
    (hn:Str.ofString T ≠ "__name__" := by decide) (hdb:(Str.ofString T==("__debug__" : Str))=false:=by decide) (hs:starEach [e,.Name (Str.ofString T) p'] X.env=(false,eval e X.env)::starEach [.Name (Str.ofString T) p'] X.env:=by rfl)
    (hs2:starEach [.Name (Str.ofString T) p'] X.env=(false,eval (.Name (Str.ofString T) p') X.env)::starEach [] X.env:=by rfl) (hpl:(backTo pos (starEach [.Name (Str.ofString T) p'] X.env)).any (·.1)=false:=by rfl):DE X (.Call (.Name "isinstance" p) [e,.Name (Str.ofString T) p'] [] pos) (YF T f) :=
  L2.PE.imp (y9 (QeV hT) hg hm boot_isinstance (JJ h (JJ (KJ (v:=.ty T) hg' hm' hv rfl hn hdb) pa_nil hs2) hs) (by decide) (by decide) hs hpl) fun σ H Q zz1=>by
    obtain ⟨Z,env,ρ,B,U,d,hp',S,e,k⟩:=zz1
    obtain ⟨x,hp1,e1,e2⟩:=Qe e
    refine tD.run S e1 fun v ρ1 B1 H1 g1 S1 r1=>?_
    cases x with
    | ref n =>
      obtain ⟨o,hp2,e3,e4⟩:=Qe e2
      obtain ⟨e5,rfl⟩:=Zx e3
      cases o with
      | lst zs =>
        obtain ⟨rfl,rfl⟩:=Qh e4
        obtain ⟨a,rfl,_,ys,h1,l1⟩:=RepV.refW S1.wo r1 e5
        exact .inr ⟨a,ys,rfl,SqL.of h1,k _ ρ1 B1 H1 g1 S1.wo ZH⟩
      | dic _=>cases e4
      | ins _ _=>cases e4
    | non=>obtain ⟨rfl,rfl⟩:=Qh e2;exact .inl ⟨ρ1,B1,_,v,_,rfl,r1,rfl,k _ ρ1 B1 H1 g1 S1.wo ZH⟩
    | bl _=>obtain ⟨rfl,rfl⟩:=Qh e2;exact .inl ⟨ρ1,B1,_,v,_,rfl,r1,rfl,k _ ρ1 B1 H1 g1 S1.wo ZH⟩
    | int _=>obtain ⟨rfl,rfl⟩:=Qh e2;exact .inl ⟨ρ1,B1,_,v,_,rfl,r1,rfl,k _ ρ1 B1 H1 g1 S1.wo ZH⟩
    | str _=>obtain ⟨rfl,rfl⟩:=Qh e2;exact .inl ⟨ρ1,B1,_,v,_,rfl,r1,rfl,k _ ρ1 B1 H1 g1 S1.wo ZH⟩
    | tup _=>obtain ⟨rfl,rfl⟩:=Qh e2;exact .inl ⟨ρ1,B1,_,v,_,rfl,r1,rfl,k _ ρ1 B1 H1 g1 S1.wo ZH⟩
    | lst _=>obtain ⟨rfl,rfl⟩:=Qh e2;exact .inl ⟨ρ1,B1,_,v,_,rfl,r1,rfl,k _ ρ1 B1 H1 g1 S1.wo ZH⟩
end
def Pl:Nat->DV->Prop
 | _,.non=>True
 | _,.bl _=>True
 | _,.int _=>True
 | _,.str x=>PyData.strOk x=true
 | n+1,.tup ds=>∀ d∈ds,Pl n d
 | n+1,.lst ds=>∀ d∈ds,Pl n d
 | _,_=>False
theorem vT:∀ (n:Nat) (d:DV) (k:Nat) (U:Hs),Pl n d->drf (n+k+1) U d=some d
  | n,.non,k,U,_=>rfl
  | n,.bl _,k,U,_=>rfl
  | n,.int _,k,U,_=>rfl
  | n,.str _,k,U,_=>rfl
  | 0,.tup ds,k,U,h=>h.elim
  | 0,.lst ds,k,U,h=>h.elim
  | 0,.ref _,k,U,h=>h.elim
  | n+1,.ref _,k,U,h=>h.elim
  | n+1,.tup ds,k,U,h=>by
    show (ds.mapM (drf (n+1+k) U)).map DV.tup=_
    rw [xk fun d hd=>(by rw [Nat.add_right_comm];exact vT n d k U (h d hd))];rfl
  | n+1,.lst ds,k,U,h=>by
    show (ds.mapM (drf (n+1+k) U)).map DV.lst=_
    rw [xk fun d hd=>(by rw [Nat.add_right_comm];exact vT n d k U (h d hd))];rfl
theorem Ky:∀ (ds:List DV),(∀ d∈ds,(toP d).canLay0=true)->PyData.canLayAll0 (toPs ds)=true
 | [],_=>by unfold toPs PyData.canLayAll0;rfl
 | d::ds,h=>by unfold toPs PyData.canLayAll0;rw [h d (by simp),Ky ds fun x hx=>h x (Ax _ hx)];rfl
theorem Kz:∀ (n:Nat) (d:DV),Pl n d->(toP d).canLay0=true
 | n,.non,_=>by unfold toP PyData.canLay0;rfl
 | n,.bl _,_=>by unfold toP PyData.canLay0;rfl
 | n,.int _,_=>by unfold toP PyData.canLay0;rfl
 | n,.str x,h=>by cases n<;>(unfold toP PyData.canLay0;exact h)
 | 0,.tup ds,h=>h.elim
 | 0,.lst ds,h=>h.elim
 | 0,.ref _,h=>h.elim
 | n+1,.ref _,h=>h.elim
 | n+1,.tup ds,h=>by unfold toP PyData.canLay0;exact Ky ds fun d hd=>Kz n d (h d hd)
 | n+1,.lst ds,h=>by unfold toP PyData.canLay0;exact Ky ds fun d hd=>Kz n d (h d hd)
theorem j8 (n:Nat):∀ (ds:List DV),(∀ d∈ds,(toP d).depth<=n)->PyData.depthAll (toPs ds)<=n
 | [],_=>by unfold toPs PyData.depthAll;exact Be _
 | d::ds,h=>by unfold toPs PyData.depthAll;exact Nat.max_le.mpr ⟨h d (by simp),j8 n ds fun x hx=>h x (Ax _ hx)⟩
theorem yB:∀ (n:Nat) (d:DV),Pl n d->(toP d).depth<=n
 | n,.non,_=>by unfold toP PyData.depth;exact Be _
 | n,.bl _,_=>by unfold toP PyData.depth;exact Be _
 | n,.int _,_=>by unfold toP PyData.depth;exact Be _
 | n,.str x,h=>by unfold toP PyData.depth;exact Be _
 | 0,.tup ds,h=>h.elim
 | 0,.lst ds,h=>h.elim
 | 0,.ref _,h=>h.elim
 | n+1,.ref _,h=>h.elim
 | n+1,.tup ds,h=>by unfold toP PyData.depth;exact Nat.succ_le_succ (j8 n ds fun d hd=>yB n d (h d hd))
 | n+1,.lst ds,h=>by unfold toP PyData.depth;exact Nat.succ_le_succ (j8 n ds fun d hd=>yB n d (h d hd))
theorem UV {n:Nat} (h:Pl n d) (hn:n<=64):SeqAt.shaped (toP d)=true:=by
 unfold SeqAt.shaped;rw [Kz n d h,Ec (Bj (yB n d h) hn)];rfl
theorem Gw {n:Nat} (h:Pl n d) (hn:n < 40) (U:Hs):drf 40 U d=some d:=by
 have:=vT n d (39 - n) U h
 rwa [show n+(39 - n)+1=40 by lia] at this
theorem QfR (n:Nat) (i:Int):Pl n (.int i):=by cases n<;>trivial
theorem QeJ (n:Nat) (b:Bool):Pl n (.bl b):=by cases n<;>trivial
def QfS {n:Nat} (h:∀ d∈ds,Pl n d):Pl (n+1) (.tup ds):=h
theorem Qad {n m:Nat} (h:Pl n x) (h':Pl m y) (hn:n < 40) (hm:m < 40) (U:Hs):VV x y U=some (PyData.eqv (toP x) (toP y),U):=by
 unfold VV Qab
 show ((Option.map _ (drf 40 U x)).bind _)=_
 rw [Gw h hn]
 show ((Option.map _ (drf 40 U y)).bind _)=_
 rw [Gw h' hm]
 show (Qx (SeqAt.shaped (toP x)&&SeqAt.shaped (toP y)) >>= fun _=>pure (PyData.eqv (toP x) (toP y)):M Bool) U=_
 rw [UV h (by lia),UV h' (by lia)]
 rfl
theorem Um {n:Nat} (h:Pl n x) (hn:n < 40) (U:Hs):VV x x U=some (true,U):=by
 rw [Qad h h hn hn,SeqAt.eqv_refl _ (Kz n x h)]
theorem Qbp {n:Nat} (h:Pl n x) (hn:n < 40) (U:Hs):eqG x x U=some (.bl true,U):=by
 unfold eqG;rw [Qg (Um h hn U)];rfl
theorem GW {n:Nat} (h:Pl n x) (hn:n < 40) (U:Hs):neG x x U=some (.bl false,U):=by
 unfold neG;rw [Qg (Um h hn U)];rfl
def gb {α:Type} {m:M α} {x:α} (h:∀ U,m U=some (x,U)):m=pure x:=funext h
section
variable {env:En} {U hp1 hp2 hp3 hp4 hp5 hp6 hp7:Hs} {e e' e'' e3 e4 e5 e6:DEx} {v v' v'' v3 v4 v5 v6:DV}
theorem Qdl {f:DEx} {a:Nat} (h:f env U=some (.ref a,hp1)) (h':hp1[a]?=some (.lst ds)):YF "list" f env U=some (.bl true,hp1):=by
 unfold YF;rw [Qg h]
 show (ZE a >>= _) hp1=_
 rw [Qg (Zw h')];rfl
end
section
variable {env:En} {U hp1 hp2 hp3:Hs} {f g h:DEx} {ds:List DV} {d:DV}
def zQ {i:Nat} (hf:f env U=some (.tup ds,U)) (hg:g env U=some (.int (i:Int),U)) (hd:ds[i]?=some d):Qk ixG f g env U=some (d,U):=Ql hf hg (JV hd U)
def Qfh (hf:f env U=some (.lst ds,U)):ZW Xy (Qc f Qn) env U=some (.int ds.length,U):=Y5 (JL hf) (GR ds U)
def Qdt {n:Nat} (hf:f env U=some (.ref n,U)) (hn:U[n]?=some (.lst ds)):ZW Xy (Qc f Qn) env U=some (.int ds.length,U):=Y5 (JL hf) (QbL hn)
end
end D
namespace TR
def prs (p:Pg):List (Int×Int):=p.ks.zip p.ps
theorem mem_zip_iff {xs ys:List Int} {a b:Int}:(a,b)∈xs.zip ys↔∃ i:Nat,xs[i]?=some a/\ys[i]?=some b:=by
 rw [Bw]
 constructor
 ·rintro ⟨i,h⟩
  have:=List.getElem?_zip_eq_some.mp h
  exact ⟨i,this.1,this.2⟩
 ·rintro ⟨i,h1,h2⟩
  exact ⟨i,List.getElem?_zip_eq_some.mpr ⟨h1,h2⟩⟩
def VR (a b:List Int) (n:Nat):(a.zip b).take n=(a.take n).zip (b.take n):=List.take_zipWith
def VQ (a b:List Int) (n:Nat):(a.zip b).drop n=(a.drop n).zip (b.drop n):=List.drop_zipWith
theorem ub {ks:List Int} (h:ks.Pairwise (· < ·)) {i:Nat} {a k:Int} (ha:ks[i]?=some a):i < cLt ks k↔a < k:=by
 obtain ⟨h1,h2⟩:=qj h k
 constructor
 ·intro hi
  have:a∈ks.take (cLt ks k):=Bw.mpr ⟨i,by rw [List.getElem?_take,C8 hi];exact ha⟩
  rw [h1] at this
  simpa using (Bm.mp this).2
 ·intro hl
  refine Nat.lt_of_not_le fun hi=>?_
  have:a∈ks.drop (cLt ks k):=Bw.mpr ⟨i - cLt ks k,by rw [Cc,show cLt ks k+(i - cLt ks k)=i by lia];exact ha⟩
  rw [h2] at this
  have:k<=a:=by simpa using (Bm.mp this).2
  lia
theorem yR {ks:List Int} (h:ks.Pairwise (· < ·)) {i:Nat} {a k:Int} (ha:ks[i]?=some a):i < cLe ks k↔a<=k:=by
 obtain ⟨h1,h2⟩:=Yk h k
 constructor
 ·intro hi
  have:a∈ks.take (cLe ks k):=Bw.mpr ⟨i,by rw [List.getElem?_take,C8 hi];exact ha⟩
  rw [h1] at this
  simpa using (Bm.mp this).2
 ·intro hl
  refine Nat.lt_of_not_le fun hi=>?_
  have:a∈ks.drop (cLe ks k):=Bw.mpr ⟨i - cLe ks k,by rw [Cc,show cLe ks k+(i - cLe ks k)=i by lia];exact ha⟩
  rw [h2] at this
  have:k < a:=by simpa using (Bm.mp this).2
  lia
theorem Qa1 {ks:List Int} (h:ks.Pairwise (· < ·)) {i:Nat} {k:Int} (hi:ks[i]?=some k):cLt ks k=i/\cLe ks k=i+1:=by
 have a:=not_congr (ub (k:=k) h hi)
 have b:=(yR (k:=k) h hi).mpr (Bo _)
 have c:=Qa5 h k
 have d:=a.mpr (by lia)
 lia
theorem QaU {p:Pg} (h:p.ks.Pairwise (· < ·)) {k v:Int}:QK p k=some v↔(k,v)∈prs p:=by
 unfold QK prs
 rw [mem_zip_iff]
 constructor
 ·intro e
  by_cases q:cLt p.ks k=cLe p.ks k
  ·rw [C8 q] at e;cases e
  ·rw [C7 q] at e
   have hk:k∈p.ks:=Classical.byContradiction fun z=>q (Qa6 z)
   obtain ⟨i,hi⟩:=Bw.mp hk
   have:=(Qa1 h hi).1
   exact ⟨i,hi,by rw [<- this];exact e⟩
 ·rintro ⟨i,hi,hv⟩
  obtain ⟨a,b⟩:=Qa1 h hi
  rw [C7 (by lia),a];exact hv
theorem jD {p:Pg} {k v:Int} (h:(k,v)∈prs p):k∈p.ks:=by
 obtain ⟨i,h1,_⟩:=mem_zip_iff.mp h
 exact Aw h1
theorem K1 {p:Pg} (h:p.ks.Pairwise (· < ·)) (hl:p.ps.length=p.ks.length) (k x:Int):prs (QG p k x)=(prs p).take (cLt p.ks k)++(k,x)::(prs p).drop (cLe p.ks k):=by
 unfold QG prs
 rw [List.zip_append (by rw [A9,A9,hl]),List.zip_cons_cons,VR,VQ]
theorem vt {p:Pg} (h:p.ks.Pairwise (· < ·)) (hl:p.ps.length=p.ks.length) (k:Int):prs (without p k)=(prs p).take (cLt p.ks k)++(prs p).drop (cLe p.ks k):=by
 unfold without prs
 rw [List.zip_append (by rw [A9,A9,hl]),VR,VQ]
theorem UB {p:Pg} (h:p.ks.Pairwise (· < ·)) (k:Int) {a b:Int}:((a,b)∈(prs p).take (cLt p.ks k)∨(a,b)∈(prs p).drop (cLe p.ks k))↔a≠k/\(a,b)∈prs p:=by
 have ix:∀ {i:Nat},(prs p)[i]?=some (a,b)->p.ks[i]?=some a:=fun e=>(List.getElem?_zip_eq_some.mp e).1
 constructor
 ·rintro (m | m)
  ·obtain ⟨i,hi⟩:=Bw.mp m
   rw [List.getElem?_take] at hi
   by_cases q:i < cLt p.ks k
   ·rw [C8 q] at hi
    have:=(ub h (ix hi)).mp q
    exact ⟨by lia,Aw hi⟩
   ·rw [C7 q] at hi;cases hi
  ·obtain ⟨i,hi⟩:=Bw.mp m
   rw [Cc] at hi
   have:=(not_congr (yR (k:=k) h (ix hi))).mp (by lia)
   exact ⟨by lia,Aw hi⟩
 ·rintro ⟨ne,m⟩
  obtain ⟨i,hi⟩:=Bw.mp m
  rcases Int.lt_or_gt_of_ne ne with l | l
  ·have:=(ub h (ix hi)).mpr l
   exact .inl (Bw.mpr ⟨i,by rw [List.getElem?_take,C8 this];exact hi⟩)
  ·have:=(not_congr (yR (k:=k) h (ix hi))).mpr (by lia)
   exact .inr (Bw.mpr ⟨i - cLe p.ks k,by rw [Cc,show cLe p.ks k+(i - cLe p.ks k)=i by lia];exact hi⟩)
theorem K0 {p:Pg} (h:p.ks.Pairwise (· < ·)) (hl:p.ps.length=p.ks.length) (k x:Int) {a b:Int}:(a,b)∈prs (QG p k x)↔(a=k/\b=x)∨(a≠k/\(a,b)∈prs p):=by
 rw [K1 h hl,Ai,Bk,<- UB h k]
 constructor
 ·rintro (m | m | m)
  ·exact .inr (.inl m)
  ·cases m;exact .inl ⟨rfl,rfl⟩
  ·exact .inr (.inr m)
 ·rintro (⟨rfl,rfl⟩ | m | m)
  ·exact .inr (.inl rfl)
  ·exact .inl m
  ·exact .inr (.inr m)
theorem vq {p:Pg} (h:p.ks.Pairwise (· < ·)) (hl:p.ps.length=p.ks.length) (k:Int) {a b:Int}:(a,b)∈prs (without p k)↔a≠k/\(a,b)∈prs p:=by
 rw [vt h hl,Ai,<- UB h k]
theorem vY {P:Pg} (hz:P.lv=0) (n:Nat):prs (QN P n)++prs (QB P)=prs P:=by
 have hc:Zf P=mid P:=by unfold Zf;rw [C8 hz]
 unfold prs QN QB
 rw [hc]
 show (P.ks.take (mid P)).zip (P.ps.take (mid P))++(P.ks.drop (mid P)).zip (P.ps.drop (mid P))=P.ks.zip P.ps
 rw [<- VR,<- VQ,B0]
def Lf (S:Sh) (k v:Int):Prop:=∃ (n:Nat) (p:Pg),S.pg[n]?=some p/\p.lv=0/\(k,v)∈prs p
def TabIs (S:Sh) (F:Er):Prop:=∀ k v,F k=some v↔Lf S k v
def uM (F:Er) (k x:Int):Int->Option Int:=fun j=>if j=k then some x else F j
def VB (F:Er) (k:Int):Int->Option Int:=fun j=>if j=k then none else F j
def Lo (S:Sh) (n:Nat) (k v:Int):Prop:=∃ (m:Nat) (p:Pg),m≠n/\S.pg[m]?=some p/\p.lv=0/\(k,v)∈prs p
section
variable {S:Sh} {bg:Bg} {n:Nat} {p P:Pg} {k v:Int} {F:Er}
theorem Tree.len0 (T:Tree S bg) (hn:S.pg[n]?=some p) (hz:p.lv=0):p.ps.length=p.ks.length:=by
 have:=(T.page n p hn).parts;rw [C8 hz] at this;exact this
theorem Lf.split (hn:S.pg[n]?=some p) (hz:p.lv=0):Lf S k v↔Lo S n k v∨(k,v)∈prs p:=by
 constructor
 ·rintro ⟨m,q,h1,h2,h3⟩
  by_cases e:m=n
  ·subst e;rw [hn] at h1;cases h1;exact .inr h3
  ·exact .inl ⟨m,q,e,h1,h2,h3⟩
 ·rintro (⟨m,q,_,h1,h2,h3⟩ | h)
  ·exact ⟨m,q,h1,h2,h3⟩
  ·exact ⟨n,p,hn,hz,h⟩
theorem Tree.lo_none (T:Tree S bg) (hn:S.pg[n]?=some p) (hz:p.lv=0) (h1:leB (bg n) k) (h2:ltH k p.hi):¬ Lo S n k v:=by
 rintro ⟨m,q,e,hm,hq,h3⟩
 have ok:=T.page m q hm
 have hk:=jD h3
 rcases T.dis n m p q hn hm (by lia) (fun x=>e x.symm) with ⟨h,u,a,b,c⟩ | ⟨h,u,a,b,c⟩
 ·have:=h2 h a;have:=ok.low k hk u b;lia
 ·have:=h1 u b;have:=ok.high k hk h a;lia
theorem Tree.tab_worth (T:Tree S bg) (hT:TabIs S F) (hn:S.pg[n]?=some p) (hz:p.lv=0) (h1:leB (bg n) k) (h2:ltH k p.hi):QK p k=F k:=by
  have so:=(T.page n p hn).sorted
  have key:∀ v,QK p k=some v↔F k=some v:=fun v=>by
    rw [QaU so,hT k v,Lf.split hn hz]
    exact ⟨.inr,fun h=>h.elim (fun h=>absurd h (T.lo_none hn hz h1 h2)) id⟩
  cases e:F k with
  | some v=>exact (key v).mpr e
  | none =>
    cases e':QK p k with
    | none=>rfl
    | some v=>rw [(key v).mp e'] at e;cases e
theorem QaL {w:Wk} (hn:S.pg[n]?=some p) (hz:p.lv=0) (hl:P.lv=p.lv) (k v:Int):Lf (Qr S w n P).2.1 k v↔Lo S n k v∨(k,v)∈prs P:=by
 have ln:=Q4 hn
 unfold Qr
 by_cases hr:P.ks.length<=S.O2
 ·rw [C8 hr]
  constructor
  ·rintro ⟨m,q,h1,h2,h3⟩
   rcases Jw h1 with ⟨rfl,rfl,_⟩ | ⟨e,h⟩
   ·exact .inr h3
   ·exact .inl ⟨m,q,e,h,h2,h3⟩
  ·rintro (⟨m,q,e,h1,h2,h3⟩ | h)
   ·exact ⟨m,q,by show (S.pg.set n P)[m]?=_;rw [Am (fun x=>e x.symm)];exact h1,h2,h3⟩
   ·exact ⟨n,P,by show (S.pg.set n P)[n]?=_;rw [Au ln],by lia,h⟩
 ·rw [C7 hr]
  have hv:=vY (P:=P) (by lia) S.pg.length
  constructor
  ·rintro ⟨m,q,h1,h2,h3⟩
   rcases Jw (xs:=S.pg++[QB P]) h1 with ⟨rfl,rfl,_⟩ | ⟨e,h⟩
   ·exact .inr (by rw [<- hv];exact A7 _ h3)
   ·rcases Jb h with ⟨rfl,rfl⟩ | h
    ·exact .inr (by rw [<- hv];exact Aj _ h3)
    ·exact .inl ⟨m,q,e,h,h2,h3⟩
  ·rintro (⟨m,q,e,h1,h2,h3⟩ | h)
   ·exact ⟨m,q,by show ((S.pg++[QB P]).set n (QN P S.pg.length))[m]?=_;rw [Am (fun x=>e x.symm)];exact JF h1,h2,h3⟩
   ·rw [<- hv] at h
    rcases Ai.mp h with h | h
    ·exact ⟨n,QN P S.pg.length,by show ((S.pg++[QB P]).set n (QN P S.pg.length))[n]?=_;rw [Au (by simp;lia)],by show P.lv=0;lia,h⟩
    ·exact ⟨S.pg.length,QB P,by show ((S.pg++[QB P]).set n (QN P S.pg.length))[S.pg.length]?=_;rw [Am (by lia)];simp,by show P.lv=0;lia,h⟩
theorem QaK {w:Wk} (hn:S.pg[n]?=some p) (hz:0 < p.lv) (hl:P.lv=p.lv) (k v:Int):Lf (Qr S w n P).2.1 k v↔Lf S k v:=by
 have ln:=Q4 hn
 unfold Qr
 by_cases hr:P.ks.length<=S.O2
 ·rw [C8 hr]
  constructor
  ·rintro ⟨m,q,h1,h2,h3⟩
   rcases Jw h1 with ⟨rfl,rfl,_⟩ | ⟨e,h⟩
   ·lia
   ·exact ⟨m,q,h,h2,h3⟩
  ·rintro ⟨m,q,h1,h2,h3⟩
   have e:m≠n:=fun e=>by subst e;rw [hn] at h1;cases h1;lia
   exact ⟨m,q,by show (S.pg.set n P)[m]?=_;rw [Am (fun x=>e x.symm)];exact h1,h2,h3⟩
 ·rw [C7 hr]
  constructor
  ·rintro ⟨m,q,h1,h2,h3⟩
   rcases Jw (xs:=S.pg++[QB P]) h1 with ⟨rfl,rfl,_⟩ | ⟨e,h⟩
   ·have:P.lv=0:=h2
    lia
   ·rcases Jb h with ⟨rfl,rfl⟩ | h
    ·have:P.lv=0:=h2
     lia
    ·exact ⟨m,q,h,h2,h3⟩
  ·rintro ⟨m,q,h1,h2,h3⟩
   have e:m≠n:=fun e=>by subst e;rw [hn] at h1;cases h1;lia
   exact ⟨m,q,by show ((S.pg++[QB P]).set n (QN P S.pg.length))[m]?=_;rw [Am (fun x=>e x.symm)];exact JF h1,h2,h3⟩
theorem Tree.tab_put (T:Tree S bg) (hT:TabIs S F) (hn:S.pg[n]?=some p) (hz:p.lv=0) (h1:leB (bg n) k) (h2:ltH k p.hi) {x:Int} (hS:∀ a b,Lf S' a b↔Lo S n a b∨(a,b)∈prs (QG p k x)):TabIs S' (uM F k x):=fun a b=>by
 have so:=(T.page n p hn).sorted
 rw [hS,K0 so (T.len0 hn hz)]
 unfold uM
 by_cases e:a=k
 ·subst e
  rw [C8 rfl]
  constructor
  ·intro h;cases h;exact .inr (.inl ⟨rfl,rfl⟩)
  ·rintro (h | ⟨_,rfl⟩ | ⟨h,_⟩)
   ·exact absurd h (T.lo_none hn hz h1 h2)
   ·rfl
   ·exact absurd rfl h
 ·rw [C7 e,hT,Lf.split hn hz]
  constructor
  ·rintro (h | h)
   ·exact .inl h
   ·exact .inr (.inr ⟨e,h⟩)
  ·rintro (h | ⟨h,_⟩ | ⟨_,h⟩)
   ·exact .inl h
   ·exact absurd h e
   ·exact .inr h
theorem Tree.tab_cut (T:Tree S bg) (hT:TabIs S F) (hn:S.pg[n]?=some p) (hz:p.lv=0) (h1:leB (bg n) k) (h2:ltH k p.hi) (hS:∀ a b,Lf S' a b↔Lo S n a b∨(a,b)∈prs (without p k)):TabIs S' (VB F k):=fun a b=>by
 have so:=(T.page n p hn).sorted
 rw [hS,vq so (T.len0 hn hz)]
 unfold VB
 by_cases e:a=k
 ·subst e
  rw [C8 rfl]
  constructor
  ·intro h;cases h
  ·rintro (h | ⟨h,_⟩)
   ·exact absurd h (T.lo_none hn hz h1 h2)
   ·exact absurd rfl h
 ·rw [C7 e,hT,Lf.split hn hz]
  exact ⟨fun h=>h.imp id fun h=>⟨e,h⟩,fun h=>h.imp id And.right⟩
theorem TabIs.same {S':Sh} (hT:TabIs S F) (h:S'.pg=S.pg):TabIs S' F:=fun k v=>by
 rw [hT k v];unfold Lf;rw [h]
end
def Aim (S:Sh) (bg:Bg) (w:Wk):Prop:=w.O4=0->match w.O0 with
 | .stretch l h=>l < h/\(w.aim=l∨∃ (s:Nat) (p:Pg),w.O6=some s/\S.pg[s]?=some p/\p.lv=0/\bg s=some w.aim/\l < w.aim/\w.aim < h)
 | .find k=>w.aim=k
 | .put k _=>w.aim=k
 | .cut k=>w.aim=k
theorem Aim.grow {w:Wk} (A:Aim S bg w) (g:Grow S bg S' bg'):Aim S' bg' w:=fun h0=>by
  have a:=A h0
  cases hd:w.O0 with
  | find k=>rw [hd] at a;exact a
  | put k x=>rw [hd] at a;exact a
  | cut k=>rw [hd] at a;exact a
  | stretch l h =>
    rw [hd] at a
    obtain ⟨a1,a2⟩:=a
    refine ⟨a1,a2.imp id ?_⟩
    rintro ⟨s,p,b1,b2,b0,b3,b4⟩
    obtain ⟨e,p',e1,e2⟩:=g.old s p b2
    exact ⟨s,p',b1,e1,e2.trans b0,by rw [e];exact b3,b4⟩
def Rds (F:Er) (a e:Int) (ps:Ek):Prop:=ps.Pairwise (fun x y=>x.1 < y.1)/\∀ k v,(k,v)∈ps↔F k=some v/\a<=k/\k < e
def Did (F F':Er) (w w':Wk):Row->Prop
  | .non=>False
  | .found _ x=>∃ k,w.O0=.find k/\x=F k/\F'=F/\w'.O1=F k/\w'.O5=w.O5/\w'.O7=true
  | .put _ x t=>∃ k y,w.O0=.put k y/\x=F k/\F'=uM F k y/\w'.O1=F k/\w'.O5=w.O5/\w'.O7=t.isNone/\(w'.O7=false->0 < w'.O4)
  | .cut _ x=>∃ k,w.O0=.cut k/\x=F k/\F'=VB F k/\w'.O1=F k/\w'.O5=w.O5/\w'.O7=true
  | .read _ ps t=>∃ l h,w.O0=.stretch l h/\F'=F/\w'.O5=w.O5++ps/\w'.O1=w.O1/\match t with
    | none=>Rds F w.aim h ps/\w'.O7=true
    | some (_,x)=>w.aim < x/\x < h/\Rds F w.aim x ps/\w'.aim=x/\w'.O7=false/\w'.O4=0
  | .side _ _=>F'=F/\w'.O1=w.O1/\w'.O5=w.O5/\w'.O7=false/\w'.O4=w.O4/\w'.aim=w.aim
  | .down _ _=>F'=F/\w'.O1=w.O1/\w'.O5=w.O5/\w'.O7=false/\w'.O4=w.O4/\w'.aim=w.aim
  | .told _ t=>0 < w.O4/\F'=F/\w'.O1=w.O1/\w'.O5=w.O5/\w'.O7=t.isNone/\(w'.O7=false->0 < w'.O4)
  | .raised _ _=>0 < w.O4/\F'=F/\w'.O1=w.O1/\w'.O5=w.O5/\w'.O7=true
theorem Vb {p:Pg} (h:p.ks.Pairwise (· < ·)):(prs p).Pairwise (fun x y=>x.1 < y.1):=by
 rw [List.pairwise_iff_getElem] at h ⊢
 intro i j hi hj hij
 have a:(prs p)[i].1=p.ks[i]'(by have:=hi;simp [prs] at this;lia):=by simp [prs]
 have b:(prs p)[j].1=p.ks[j]'(by have:=hj;simp [prs] at this;lia):=by simp [prs]
 rw [a,b];exact h i j _ _ hij
section
variable {S S':Sh} {bg:Bg} {n:Nat} {p P:Pg} {w w':Wk} {F:Er} {r:Row}
theorem US (S:Sh) (w:Wk) (n:Nat) (P:Pg):(Qr S w n P).2.2.O0=w.O0/\(Qr S w n P).2.2.O1=w.O1/\(Qr S w n P).2.2.O5=w.O5/\(w.O7=false->(Qr S w n P).2.2.O7=(Qr S w n P).1.isNone)/\((Qr S w n P).2.2.O7=false->w.O7=false->0 < (Qr S w n P).2.2.O4)/\((Qr S w n P).2.2.O4=0->(Qr S w n P).2.2.aim=w.aim/\(Qr S w n P).2.2.O6=w.O6):=by
 unfold Qr
 by_cases hr:P.ks.length<=S.O2
 ·rw [C8 hr];exact ⟨rfl,rfl,rfl,fun _=>rfl,fun h=>(by cases h),fun _=>⟨rfl,rfl⟩⟩
 ·rw [C7 hr];exact ⟨rfl,rfl,rfl,fun h=>h,fun _ _=>Nat.succ_pos _,fun h=>(by cases h)⟩
theorem QcE (T:Tree S bg) (W:WOk S bg w) (A:Aim S bg w) (hw:w.O7=false) (hT:TabIs S F) (hs:Jp S w=some (r,S',w')):∃ F',TabIs S' F'/\Did F F' w w' r/\Aim S bg w'/\w'.O0=w.O0:=by
  obtain ⟨n,hn0,hpl⟩:∃ n,w.O6.getD S.top=n/\(w.O6=some n∨(w.O6=none/\n=S.top)):=by
    cases e:w.O6 with
    | none=>exact ⟨S.top,rfl,.inr ⟨rfl,rfl⟩⟩
    | some m=>exact ⟨m,rfl,.inl rfl⟩
  obtain ⟨p,hn⟩:∃ p,S.pg[n]?=some p:=by
    rcases hpl with U | ⟨_,rfl⟩
    . obtain ⟨p,a,_⟩:=W.at_ n U;exact ⟨p,a⟩
    . obtain ⟨p,a,_⟩:=T.root;exact ⟨p,a⟩
  have ok:=T.page n p hn
  have la:leB (bg n) w.aim:=by
    rcases hpl with U | ⟨_,rfl⟩
    . obtain ⟨p',a1,a2,a3⟩:=W.at_ n U
      exact a3
    . intro v hv;rw [T.rbg] at hv;cases hv
  unfold Jp at hs
  rw [C7 (by rw [hw];simp),hn0] at hs
  simp only [hn] at hs
  by_cases hr:w.O6=none/\p.lv < w.O4
  . rw [C8 hr] at hs
    obtain ⟨k,q,a1,a2,a3,a4⟩:=W.tell (by lia)
    simp only [a1] at hs
    cases hs
    refine ⟨F,fun a b=>?_,⟨by lia,rfl,rfl,rfl,rfl⟩,fun h0=>absurd (show w.O4=0 from h0) (by lia),rfl⟩
    rw [hT a b]
    constructor
    . rintro ⟨m,q,h1,h2,h3⟩
      exact ⟨m,q,JF h1,h2,h3⟩
    . rintro ⟨m,q,h1,h2,h3⟩
      rcases Jb h1 with ⟨rfl,rfl⟩ | h
      . cases h2
      . exact ⟨m,q,h,h2,h3⟩
  . rw [C7 hr] at hs
    cases hb:Ze p w.aim with
    | true =>
      rw [hb,C8 rfl] at hs
      rcases T.link n p hn with ⟨a,b⟩ | ⟨h,s,q,a,b,c,d,e⟩
      . unfold Ze at hb;rw [a] at hb;cases hb
      . simp only [b] at hs
        cases hs
        refine ⟨F,hT.same rfl,⟨rfl,rfl,rfl,hw,rfl,rfl⟩,fun h0=>?_,rfl⟩
        have a5:=A h0
        cases hd:w.O0 with
        | find k=>rw [hd] at a5;exact a5
        | put k x=>rw [hd] at a5;exact a5
        | cut k=>rw [hd] at a5;exact a5
        | stretch l h' =>
          rw [hd] at a5
          obtain ⟨a6,a7⟩:=a5
          refine ⟨a6,?_⟩
          rcases a7 with a7 | ⟨s',p',b1,b2,b0,b3,b4,b5⟩
          . exact .inl a7
          . exfalso
            have:s'=n:=by
              rcases hpl with U | ⟨U,_⟩
              . rw [U] at b1;exact (Ak b1).symm
              . rw [U] at b1;cases b1
            subst this
            have:=ok.wide h a _ b3
            unfold Ze at hb;rw [a] at hb
            have:h<=w.aim:=by simpa using hb
            lia
    | false =>
      have lh:=zG hb
      rw [hb,C7 (by simp)] at hs
      by_cases hd:w.O4 < p.lv
      . rw [C8 hd] at hs
        have pl:=ok.parts
        rw [C7 (by lia)] at pl
        have hc:cLe p.ks w.aim < p.ps.length:=by have:=JB p.ks w.aim;lia
        rw [Ab hc] at hs
        simp only at hs
        cases hs
        refine ⟨F,hT.same rfl,⟨rfl,rfl,rfl,hw,rfl,rfl⟩,fun h0=>?_,rfl⟩
        have a5:=A h0
        cases hd':w.O0 with
        | find k=>rw [hd'] at a5;exact a5
        | put k x=>rw [hd'] at a5;exact a5
        | cut k=>rw [hd'] at a5;exact a5
        | stretch l h' =>
          rw [hd'] at a5
          obtain ⟨a6,a7⟩:=a5
          refine ⟨a6,?_⟩
          rcases a7 with a7 | ⟨s',p',b1,b2,b0,b3,b4,b5⟩
          . exact .inl a7
          . exfalso
            have:s'=n:=by
              rcases hpl with U | ⟨U,_⟩
              . rw [U] at b1;exact (Ak b1).symm
              . rw [U] at b1;cases b1
            subst this
            rw [hn] at b2;cases b2;lia
      . rw [C7 hd] at hs
        have hg:w.O4<=p.lv:=by
          rcases hpl with U | ⟨U,_⟩
          . obtain ⟨p',b1,b2,_⟩:=W.at_ n U
            rw [hn] at b1;cases b1;exact b2
          . exact Cy fun h=>hr ⟨U,h⟩
        have hlv:p.lv=w.O4:=by lia
        by_cases h0:0 < w.O4
        . rw [C8 h0] at hs
          obtain ⟨k,q,a1,a2,a3,a4⟩:=W.tell h0
          simp only [a1] at hs
          cases hs
          obtain ⟨c1,c2,c3,c4,c5,c6⟩:=US { S with rd:=S.rd+1 } w n (Q1 p w.aim k)
          refine ⟨F,fun a b=>?_,⟨h0,rfl,c2,c3,c4 hw,fun h=>c5 h hw⟩,fun h1=>?_,c1⟩
          . rw [QaK (S:={ S with rd:=S.rd+1 }) (p:=p) (P:=Q1 p w.aim k) hn (by lia) rfl];exact hT a b
          . exfalso
            by_cases e:(Qr { S with rd:=S.rd+1 } w n (Q1 p w.aim k)).2.2.O7=false
            . exact absurd h1 (C4 (c5 e hw))
            . unfold Qr at h1
              by_cases q1:(Q1 p w.aim k).ks.length<=S.O2
              . rw [C8 q1] at h1;have:w.O4=0:=h1;lia
              . rw [C7 q1] at h1;cases h1
        . rw [C7 h0] at hs
          have hz:p.lv=0:=by lia
          have g0:w.O4=0:=by lia
          have a5:=A g0
          have wt:=T.tab_worth hT hn hz la lh
          have hs:=Ak hs
          unfold ZZ at hs
          cases hdd:w.O0 with
          | find k =>
            rw [hdd] at a5 hs
            cases hs
            have a5:w.aim=k:=a5
            subst a5
            exact ⟨F,hT.same rfl,⟨_,hdd,wt,rfl,wt,rfl,rfl⟩,fun _=>by simp [hdd],by simp [hdd]⟩
          | put k x =>
            rw [hdd] at a5 hs
            have a5:w.aim=k:=a5
            subst a5
            obtain ⟨c1,c2,c3,c4,c5,c6⟩:=US { S with rd:=S.rd+1 } { w with O1:=QK p w.aim } n (QG p w.aim x)
            dsimp only at hs
            simp only [Bp] at hs
            obtain ⟨rfl,rfl,rfl⟩:=hs
            rw [hdd] at c1 c2 c3 c4 c5 c6
            refine ⟨uM F w.aim x,?_,⟨_,_,hdd,wt,rfl,c2.trans wt,c3,c4 hw,fun h=>c5 h hw⟩,fun h1=>?_,c1⟩
            . exact T.tab_put hT hn hz la lh fun a b=>by rw [QaL (S:={ S with rd:=S.rd+1 }) (p:=p) (P:=QG p w.aim x) hn hz rfl];exact Iff.rfl
            . have:=(c6 h1).1
              rw [c1]
              exact this
          | cut k =>
            rw [hdd] at a5 hs
            have a5:w.aim=k:=a5
            subst a5
            dsimp only at hs
            cases hs
            refine ⟨VB F w.aim,?_,⟨_,hdd,wt,rfl,wt,rfl,rfl⟩,fun _=>by simp [hdd],by simp [hdd]⟩
            by_cases hq:(QK p w.aim).isSome=true
            . rw [C8 hq]
              refine T.tab_cut hT hn hz la lh fun a b=>?_
              have ln:=Q4 hn
              constructor
              . rintro ⟨m,q,h1,h2,h3⟩
                rcases Jw h1 with ⟨rfl,rfl,_⟩ | ⟨e,h⟩
                . exact .inr h3
                . exact .inl ⟨m,q,e,h,h2,h3⟩
              . rintro (⟨m,q,e,h1,h2,h3⟩ | h)
                . exact ⟨m,q,by show (S.pg.set n (without p w.aim))[m]?=_;rw [Am (fun x=>e x.symm)];exact h1,h2,h3⟩
                . exact ⟨n,without p w.aim,by show (S.pg.set n (without p w.aim))[n]?=_;rw [Au ln],hz,h⟩
            . rw [C7 hq]
              have fn:F w.aim=none:=by rw [<- wt];exact Option.not_isSome_iff_eq_none.mp hq
              have:VB F w.aim=F:=funext fun j=>by
                unfold VB
                by_cases e:j=w.aim
                . rw [C8 e,e,fn]
                . rw [C7 e]
              rw [this];exact hT.same rfl
          | stretch l h =>
            rw [hdd] at a5 hs
            obtain ⟨a6,a7⟩:=a5
            dsimp only at hs
            have so:=Vb ok.sorted
            have ge:∀ k v,(k,v)∈prs p->l<=k->w.aim<=k:=fun k v hm hlk=>by
              rcases a7 with a7 | ⟨s',p',b1,b2,b0,b3,b4,b5⟩
              . lia
              . have:s'=n:=by
                  rcases hpl with U | ⟨U,_⟩
                  . rw [U] at b1;exact (Ak b1).symm
                  . rw [U] at b1;cases b1
                subst this
                exact ok.low k (jD hm) _ b3
            have al:l<=w.aim:=by rcases a7 with a7 | ⟨_,_,_,_,_,_,b4,_⟩<;>lia
            have ah:w.aim < h:=by rcases a7 with a7 | ⟨_,_,_,_,_,_,_,b5⟩<;>lia
            have rd:∀ e:Int,e<=h->(∀ x,p.hi=some x->e<=x)->(∀ k v,(k,v)∈prs p->k < h->k < e)->Rds F w.aim e (QO p l h):=fun e he hx hk=>by
              refine ⟨List.Pairwise.filter _ so,fun k v=>?_⟩
              unfold QO
              rw [Bm,hT k v,Lf.split hn hz]
              constructor
              . rintro ⟨m,c⟩
                simp only [Bc,decide_eq_true_eq] at c
                exact ⟨.inr m,ge k v m c.1,hk k v m c.2⟩
              . rintro ⟨m,c1,c2⟩
                have lb:leB (bg n) k:=fun u hu=>by have:=la u hu;lia
                have lk:ltH k p.hi:=fun u hu=>by have:=hx u hu;lia
                rcases m with m | m
                . exact absurd m (T.lo_none hn hz lb lk)
                . exact ⟨m,by simp only [Bc,decide_eq_true_eq];lia⟩
            rcases T.link n p hn with ⟨a,b⟩ | ⟨x,s,q,a,b,c,d,e⟩
            . simp only [a,b] at hs
              cases hs
              exact ⟨F,hT.same rfl,⟨l,h,hdd,rfl,rfl,rfl,rd h (Bo _) (fun x hx=>by rw [a] at hx;cases hx) (fun k v _ c=>c),rfl⟩,fun _=>by simp only [hdd];exact ⟨a6,a7⟩,by simp [hdd]⟩
            . simp only [a,b] at hs
              have ax:w.aim < x:=lh x a
              by_cases hx:h<=x
              . rw [C8 hx] at hs
                cases hs
                exact ⟨F,hT.same rfl,⟨l,h,hdd,rfl,rfl,rfl,rd h (Bo _) (fun y hy=>by rw [a] at hy;cases hy;exact hx) (fun k v _ c=>c),rfl⟩,fun _=>by simp only [hdd];exact ⟨a6,a7⟩,by simp [hdd]⟩
              . rw [C7 hx] at hs
                cases hs
                refine ⟨F,hT.same rfl,⟨l,h,hdd,rfl,rfl,rfl,ax,by lia,rd x (by lia) (fun y hy=>by rw [a] at hy;cases hy;exact Bo _) (fun k v m _=>ok.high k (jD m) x a),rfl,hw,g0⟩,fun _=>?_,by simp [hdd]⟩
                simp only [hdd]
                exact ⟨a6,.inr ⟨s,q,rfl,c,by lia,e,by lia,by lia⟩⟩
end
def Kd (S:Sh) (c:Nat):Prop:=∃ (m:Nat) (q:Pg),S.pg[m]?=some q/\0 < q.lv/\(c:Int)∈q.ps
def Tells (ws:List Wk) (c:Nat):Prop:=∃ (i:Nat) (w:Wk),ws[i]?=some w/\w.O7=false/\0 < w.O4/\w.Oz=some c
def Tld (S:Sh) (ws:List Wk):Prop:=∀ n:Nat,n < S.pg.length->n≠S.top->Kd S n∨Tells ws n
section
variable {S S':Sh} {bg:Bg} {n:Nat} {p P:Pg} {w w':Wk} {r:Row} {ws:List Wk} {i:Nat}
theorem UQ {w:Wk} (hn:S.pg[n]?=some p) (hl:P.lv=p.lv) (hsub:0 < p.lv->∀ x∈p.ps,x∈P.ps) {c:Nat} (h:Kd S c∨(0 < P.lv/\(c:Int)∈P.ps)):Kd (Qr S w n P).2.1 c:=by
 have ln:=Q4 hn
 have key:(∃ (m:Nat) (q:Pg),m≠n/\S.pg[m]?=some q/\0 < q.lv/\(c:Int)∈q.ps)∨(0 < P.lv/\(c:Int)∈P.ps):=by
  rcases h with ⟨m,q,h1,h2,h3⟩ | h
  ·by_cases e:m=n
   ·subst e;rw [hn] at h1;cases h1;exact .inr ⟨by lia,hsub h2 _ h3⟩
   ·exact .inl ⟨m,q,e,h1,h2,h3⟩
  ·exact .inr h
 unfold Qr
 by_cases hr:P.ks.length<=S.O2
 ·rw [C8 hr]
  rcases key with ⟨m,q,e,h1,h2,h3⟩ | ⟨h1,h2⟩
  ·exact ⟨m,q,by show (S.pg.set n P)[m]?=_;rw [Am (fun x=>e x.symm)];exact h1,h2,h3⟩
  ·exact ⟨n,P,by show (S.pg.set n P)[n]?=_;rw [Au ln],h1,h2⟩
 ·rw [C7 hr]
  rcases key with ⟨m,q,e,h1,h2,h3⟩ | ⟨h1,h2⟩
  ·exact ⟨m,q,by show ((S.pg++[QB P]).set n (QN P S.pg.length))[m]?=_;rw [Am (fun x=>e x.symm)];exact JF h1,h2,h3⟩
  ·rw [<- B0 (Zf P) P.ps] at h2
   rcases Ai.mp h2 with h | h
   ·exact ⟨n,QN P S.pg.length,by show ((S.pg++[QB P]).set n (QN P S.pg.length))[n]?=_;rw [Au (by simp;lia)],h1,h⟩
   ·exact ⟨S.pg.length,QB P,by show ((S.pg++[QB P]).set n (QN P S.pg.length))[S.pg.length]?=_;rw [Am (by lia)];simp,h1,h⟩
theorem Tells.other {c:Nat} (h:Tells ws c) (hi:ws[i]?=some w) (hne:w.O7=false->0 < w.O4->w.Oz≠some c):Tells (ws.set i w') c:=by
 obtain ⟨j,v,a,b,d,e⟩:=h
 have ne:j≠i:=fun z=>by subst z;rw [hi] at a;cases a;exact hne b d e
 exact ⟨j,v,by rw [Am (fun x=>ne x.symm)];exact a,b,d,e⟩
theorem Tells.self {c:Nat} (hi:ws[i]?=some w) (h1:w'.O7=false) (h2:0 < w'.O4) (h3:w'.Oz=some c):Tells (ws.set i w') c :=
 ⟨i,w',Au (Q4 hi),h1,h2,h3⟩
theorem KS {w:Wk} (S:Sh) (n:Nat) (P:Pg) (h:S.O2 < P.ks.length) (hw:w.O7=false):(Qr S w n P).2.2.O7=false/\0 < (Qr S w n P).2.2.O4/\(Qr S w n P).2.2.Oz=some S.pg.length:=by
 unfold Qr;rw [C7 (by lia)];exact ⟨hw,Nat.succ_pos _,rfl⟩
theorem uF {w:Wk} (S:Sh) (n:Nat) (P:Pg) {c:Nat} (hc:c < (Qr S w n P).2.1.pg.length):c < S.pg.length∨(c=S.pg.length/\S.O2 < P.ks.length):=by
 unfold Qr at hc
 by_cases hr:P.ks.length<=S.O2
 ·rw [C8 hr] at hc;exact .inl (by simpa using hc)
 ·rw [C7 hr] at hc
  have:c < S.pg.length+1:=by simpa using hc
  rcases Bh c S.pg.length with h | h
  ·exact .inl h
  ·exact .inr ⟨by lia,by lia⟩
theorem uH {w:Wk} (S:Sh) (n:Nat) (P:Pg):(Qr S w n P).2.1.top=S.top:=by
 unfold Qr;split<;>rfl
theorem Tld.step (D:Tld S ws) (T:Tree S bg) (W:WOk S bg w) (hi:ws[i]?=some w) (hw:w.O7=false) (hs:Jp S w=some (r,S',w')):Tld S' (ws.set i w'):=by
  obtain ⟨n,hn0,hpl⟩:∃ n,w.O6.getD S.top=n/\(w.O6=some n∨(w.O6=none/\n=S.top)):=by
    cases e:w.O6 with
    | none=>exact ⟨S.top,rfl,.inr ⟨rfl,rfl⟩⟩
    | some m=>exact ⟨m,rfl,.inl rfl⟩
  obtain ⟨p,hn⟩:∃ p,S.pg[n]?=some p:=by
    rcases hpl with U | ⟨_,rfl⟩
    . obtain ⟨p,a,_⟩:=W.at_ n U;exact ⟨p,a⟩
    . obtain ⟨p,a,_⟩:=T.root;exact ⟨p,a⟩
  have still:∀ {x:Wk} {S2:Sh},S2.pg=S.pg->S2.top=S.top->(w.O7=false->0 < w.O4->x.O7=false/\x.O4=w.O4/\x.Oz=w.Oz)->Tld S2 (ws.set i x):=fun {x S2} e1 e2 e3 c hc ht=>by
    rw [e1] at hc;rw [e2] at ht
    rcases D c hc ht with ⟨m,q,h⟩ | ⟨j,v,a,b,d,e⟩
    . exact .inl ⟨m,q,by rw [e1];exact h⟩
    . by_cases z:j=i
      . subst z;rw [hi] at a;cases a
        obtain ⟨f1,f2,f3⟩:=e3 b d
        exact .inr (Tells.self hi f1 (by lia) (f3.trans e))
      . exact .inr ⟨j,v,by rw [Am (fun x=>z x.symm)];exact a,b,d,e⟩
  unfold Jp at hs
  rw [C7 (by rw [hw];simp),hn0] at hs
  simp only [hn] at hs
  by_cases hr:w.O6=none/\p.lv < w.O4
  . rw [C8 hr] at hs
    obtain ⟨k,q,a1,a2,a3,a4⟩:=W.tell (by lia)
    simp only [a1] at hs
    cases hs
    intro c hc ht
    have hc:c < S.pg.length+1:=by simpa using hc
    have ht:c≠S.pg.length:=ht
    have newf:(S.pg++[(⟨p.lv+1,[w.aim],[(S.top:Int),(k:Int)],none,none⟩:Pg)])[S.pg.length]?=some ⟨p.lv+1,[w.aim],[(S.top:Int),(k:Int)],none,none⟩:=by simp
    by_cases e:c=S.top
    . exact .inl ⟨S.pg.length,_,newf,Nat.succ_pos _,by simp [e]⟩
    by_cases e':c=k
    . exact .inl ⟨S.pg.length,_,newf,Nat.succ_pos _,by simp [e']⟩
    rcases D c (by lia) e with ⟨m,q,h1,h2,h3⟩ | h
    . exact .inl ⟨m,q,JF h1,h2,h3⟩
    . exact .inr (h.other hi fun _ _ h=>by rw [a1] at h;exact e' (Ak h).symm)
  . rw [C7 hr] at hs
    cases hb:Ze p w.aim with
    | true =>
      rw [hb,C8 rfl] at hs
      cases hsd:p.sd with
      | none=>rw [hsd] at hs;cases hs
      | some s =>
        rw [hsd] at hs;cases hs
        exact still rfl rfl fun a _=>⟨a,rfl,rfl⟩
    | false =>
      rw [hb,C7 (by simp)] at hs
      by_cases hd:w.O4 < p.lv
      . rw [C8 hd] at hs
        cases hq:p.ps[cLe p.ks w.aim]? with
        | none=>rw [hq] at hs;cases hs
        | some c =>
          rw [hq] at hs;cases hs
          exact still rfl rfl fun a _=>⟨a,rfl,rfl⟩
      . rw [C7 hd] at hs
        have back:∀ (w0:Wk) (P:Pg),w0.O7=false->P.lv=p.lv->(0 < p.lv->∀ x∈p.ps,x∈P.ps)->(∀ c,0 < w.O4->w.Oz=some c->0 < P.lv/\(c:Int)∈P.ps)->Tld (Qr { S with rd:=S.rd+1 } w0 n P).2.1 (ws.set i (Qr { S with rd:=S.rd+1 } w0 n P).2.2):=fun w0 P e0 hl hsub hnew c hc ht=>by
          rw [uH] at ht
          rcases uF _ n P hc with hc | ⟨hc,hroom⟩
          . rcases D c hc ht with h | h
            . exact .inl (UQ (S:={ S with rd:=S.rd+1 }) hn hl hsub (.inl h))
            . by_cases z:w.Oz=some c/\0 < w.O4
              . exact .inl (UQ (S:={ S with rd:=S.rd+1 }) hn hl hsub (.inr (hnew c z.2 z.1)))
              . exact .inr (h.other hi fun _ a b=>z ⟨b,a⟩)
          . obtain ⟨f1,f2,f3⟩:=KS (w:=w0) { S with rd:=S.rd+1 } n P hroom e0
            exact .inr (Tells.self hi f1 f2 (by rw [f3];exact congrArg some hc.symm))
        by_cases h0:0 < w.O4
        . rw [C8 h0] at hs
          obtain ⟨k,q,a1,a2,a3,a4⟩:=W.tell h0
          simp only [a1] at hs
          simp only [Option.some.injEq,Bp] at hs
          obtain ⟨rfl,rfl,rfl⟩:=hs
          have hg:w.O4<=p.lv:=by
            rcases hpl with U | ⟨U,_⟩
            . obtain ⟨p',b1,b2,_⟩:=W.at_ n U
              rw [hn] at b1;cases b1;exact b2
            . exact Cy fun h=>hr ⟨U,h⟩
          refine back w (Q1 p w.aim k) hw rfl (fun _ x hx=>?_) fun c _ hc=>⟨by show 0 < p.lv;lia,?_⟩
          . show x∈p.ps.take (cLe p.ks w.aim+1)++(k:Int)::p.ps.drop (cLe p.ks w.aim+1)
            rw [<- B0 (cLe p.ks w.aim+1) p.ps] at hx
            rcases Ai.mp hx with h | h
            . exact A7 _ h
            . exact Aj _ (Ax _ h)
          . rw [a1] at hc;cases hc
            show (k:Int)∈p.ps.take (cLe p.ks w.aim+1)++(k:Int)::p.ps.drop (cLe p.ks w.aim+1)
            simp
        . rw [C7 h0] at hs
          have hs:=Ak hs
          unfold ZZ at hs
          have g0:∀ {x:Wk},w.O7=false->0 < w.O4->x.O7=false/\x.O4=w.O4/\x.Oz=w.Oz:=fun _ h=>absurd h h0
          cases hdd:w.O0 with
          | find k=>rw [hdd] at hs;cases hs;exact still rfl rfl g0
          | put k x =>
            rw [hdd] at hs
            dsimp only at hs
            simp only [Bp] at hs
            obtain ⟨rfl,rfl,rfl⟩:=hs
            exact back _ (QG p w.aim x) hw rfl (fun h=>(by
              have hg:p.lv=0:=by lia
              lia)) fun c h=>absurd h h0
          | cut k =>
            rw [hdd] at hs;dsimp only at hs;cases hs
            by_cases hq:(QK p w.aim).isSome=true
            . rw [C8 hq]
              intro c hc ht
              have hc:c < S.pg.length:=by simpa using hc
              rcases D c hc ht with ⟨m,q,h1,h2,h3⟩ | h
              . have e:m≠n:=fun e=>by subst e;rw [hn] at h1;cases h1;lia
                exact .inl ⟨m,q,by show (S.pg.set n (without p w.aim))[m]?=_;rw [Am (fun x=>e x.symm)];exact h1,h2,h3⟩
              . exact .inr (h.other hi fun _ a=>absurd a h0)
            . rw [C7 hq];exact still rfl rfl g0
          | stretch l h =>
            rw [hdd] at hs;dsimp only at hs
            cases hhi:p.hi with
            | none=>rw [hhi] at hs;cases hs;exact still rfl rfl g0
            | some x =>
              cases hsd:p.sd with
              | none=>rw [hhi,hsd] at hs;cases hs;exact still rfl rfl g0
              | some s =>
                rw [hhi,hsd] at hs
                dsimp only at hs
                by_cases hx:h<=x
                . rw [C8 hx] at hs;cases hs;exact still rfl rfl g0
                . rw [C7 hx] at hs;cases hs;exact still rfl rfl g0
theorem Tree.straight (T:Tree S bg) (hn:S.pg[n]?=some p) (hl:0 < p.lv) {aim:Int} (h1:leB (bg n) aim) (h2:ltH aim p.hi) {c:Nat} {q:Pg} (hc:S.pg[c]?=some q) (hq:q.lv+1=p.lv) (hb:bg c=Z7 (bg n) p.ks (cLe p.ks aim)) (D:∀ s,q.sd=some s->Kd S s):Ze q aim=false:=by
  have ok:=T.page n p hn
  cases hx:Ze q aim with
  | false=>rfl
  | true =>
    exfalso
    rcases T.link c q hc with ⟨a,b⟩ | ⟨h,s,z,a,b,hs,d,e⟩
    . unfold Ze at hx;rw [a] at hx;cases hx
    . have ha:h<=aim:=by unfold Ze at hx;rw [a] at hx;simpa using hx
      have wd:=(T.page c q hc).wide h a
      obtain ⟨m,f,hm,hf,hk⟩:=D s b
      obtain ⟨j,hj⟩:=Bw.mp hk
      obtain ⟨c',z',e1,e2,e3,e4⟩:=T.kid m f hm hf j _ hj
      have:c'=s:=by lia
      subst this
      rw [hs] at e2;cases e2
      have okm:=T.page m f hm
      have low:ltB (bg n) h:=fun v hv=>by
        cases hcl:cLe p.ks aim with
        | zero=>rw [hcl] at hb;exact wd v (hb.trans hv)
        | succ i =>
          rw [hcl] at hb
          have li:i < p.ks.length:=by have:=JB p.ks aim;lia
          have hi:bg c=some p.ks[i]:=hb.trans (Ab li)
          have:=wd _ hi
          have:=ok.low _ (B9 li) v hv
          lia
      by_cases emn:m=n
      . subst emn
        rw [hn] at hm;cases hm
        rw [e] at e4
        cases j with
        | zero=>have:=low h e4.symm;lia
        | succ i =>
          have hi:p.ks[i]?=some h:=e4.symm
          have i1:=(yR (k:=aim) ok.sorted hi).mpr ha
          cases hcl:cLe p.ks aim with
          | zero=>lia
          | succ i' =>
            rw [hcl] at hb
            have li:i' < p.ks.length:=by have:=JB p.ks aim;lia
            have hi':bg c=some p.ks[i']:=hb.trans (Ab li)
            have w1:=wd _ hi'
            have ge:h<=p.ks[i']:=by
              rcases Bh i i' with lt | ge
              . exact Ck (X9 ok.sorted hi (Ab li) lt)
              . have:i=i':=by lia
                subst this
                rw [Ab li] at hi;cases hi;exact Bo _
            lia
      . have lvm:f.lv=p.lv:=by lia
        have bm:leBB (bg m) (some h)/\(∀ u,f.hi=some u->h < u):=by
          rw [e] at e4
          cases j with
          | zero =>
            have e4:some h=bg m:=e4
            exact ⟨by rw [<- e4];exact leBB.refl _,fun u hu=>okm.wide u hu h e4.symm⟩
          | succ i =>
            have hi:f.ks[i]?=some h:=e4.symm
            have mem:=Aw hi
            exact ⟨fun v hv=>⟨h,rfl,okm.low h mem v hv⟩,fun u hu=>okm.high h mem u hu⟩
        rcases T.dis n m p f hn hm (by lia) (fun z=>emn z.symm) with ⟨x,v,a1,a2,a3⟩ | ⟨x,v,a1,a2,a3⟩
        . have:=h2 x a1
          obtain ⟨u,b1,b2⟩:=bm.1 v a2
          cases b1;lia
        . have:=bm.2 x a1
          have:=low v a2
          lia
end
inductive Steps:Nat->Sh->Wk->Sh->Wk->Prop
 | nil (S:Sh) (w:Wk):Steps 0 S w S w
 | cons {m:Nat} {S S1 S':Sh} {w w1 w':Wk} {r:Row}:w.O7=false->Jp S w=some (r,S1,w1)->Steps m S1 w1 S' w'->Steps (m+1) S w S' w'
def In (S:Sh) (bg:Bg) (n:Nat) (k:Int):Prop:=∃ p:Pg,S.pg[n]?=some p/\leB (bg n) k/\ltH k p.hi
def Fk (S:Sh):Prop:=∀ (n:Nat) (p:Pg),S.pg[n]?=some p->0 < p.lv->1<=p.ks.length
section
variable {S S':Sh} {bg bg':Bg} {n f:Nat} {p q P:Pg} {w w':Wk} {r:Row} {a k:Int} {F:Er}
theorem Tree.nest (T:Tree S bg) (hn:S.pg[n]?=some p) (hf:S.pg[f]?=some q) (hl:p.lv+1=q.lv) (a1:leB (bg n) a) (a2:ltH a p.hi) (b1:leB (bg f) a) (b2:ltH a q.hi):leBB (bg f) (bg n)/\∀ h,q.hi=some h->∃ u,p.hi=some u/\u<=h:=by
 constructor
 ·intro v hv
  have okf:=T.page f q hf
  have pl:=okf.parts
  rw [C7 (by lia)] at pl
  obtain ⟨c,z,e1,e2,e3,e4⟩:=T.kid f q hf (by lia) 0 _ (Ab (by lia:0 < q.ps.length))
  have e4:bg c=bg f:=e4
  by_cases e:n=c
  ·subst e;exact ⟨v,e4.trans hv,Bo _⟩
  ·rcases T.dis n c p z hn e2 (by lia) e with ⟨h,u,x1,x2,x3⟩ | ⟨h,u,x1,x2,x3⟩
   ·have:=a2 h x1;have:=b1 v hv
    rw [e4,hv] at x2;cases x2;lia
   ·have:=(T.page c z e2).wide h x1 v (e4.trans hv)
    exact ⟨u,x2,by lia⟩
 ·intro h hh
  rcases T.link f q hf with ⟨x,_⟩ | ⟨h',s,y,x1,x2,x3,x4,x5⟩
  ·rw [hh] at x;cases x
  ·rw [hh] at x1;cases x1
   have pl:=(T.page s y x3).parts
   rw [C7 (by lia)] at pl
   obtain ⟨c,z,e1,e2,e3,e4⟩:=T.kid s y x3 (by lia) 0 _ (Ab (by lia:0 < y.ps.length))
   have e4:bg c=bg s:=e4
   have ah:=b2 h hh
   have ne:n≠c:=fun e=>by
    subst e
    have:=a1 h (e4.trans x5);lia
   rcases T.dis n c p z hn e2 (by lia) ne with ⟨u,v,y1,y2,y3⟩ | ⟨u,v,y1,y2,y3⟩
   ·rw [e4,x5] at y2;cases y2
    exact ⟨u,y1,y3⟩
   ·have:=(T.page c z e2).wide u y1 h (e4.trans x5)
    have:=a1 v y2
    lia
theorem Tree.nest_in (T:Tree S bg) (hn:S.pg[n]?=some p) (hf:S.pg[f]?=some q) (hl:p.lv+1=q.lv) (ha:In S bg n a) (hb:In S bg f a) (hk:In S bg n k):In S bg f k:=by
 obtain ⟨_,e1,a1,a2⟩:=ha;rw [hn] at e1;cases e1
 obtain ⟨_,e1,b1,b2⟩:=hb;rw [hf] at e1;cases e1
 obtain ⟨_,e1,k1,k2⟩:=hk;rw [hn] at e1;cases e1
 obtain ⟨x,y⟩:=T.nest hn hf hl a1 a2 b1 b2
 refine ⟨q,hf,x.leB k1,fun h hh=>?_⟩
 obtain ⟨u,u1,u2⟩:=y h hh
 have:=k2 u u1;lia
theorem Tree.root_hi (T:Tree S bg) (D:∀ s,s < S.pg.length->s≠S.top->Kd S s) (hr:S.pg[S.top]?=some p):p.hi=none:=by
 rcases T.link S.top p hr with ⟨x,_⟩ | ⟨h,s,y,x1,x2,x3,x4,x5⟩
 ·exact x
 ·exfalso
  have ne:s≠S.top:=fun e=>by rw [e,T.rbg] at x5;cases x5
  obtain ⟨m,g,h1,h2,h3⟩:=D s (Q4 x3) ne
  obtain ⟨j,hj⟩:=Bw.mp h3
  obtain ⟨c,z,e1,e2,e3,e4⟩:=T.kid m g h1 h2 j _ hj
  have:c=s:=by lia
  subst this
  rw [x3] at e2;cases e2
  obtain ⟨r,r1,r2⟩:=T.root
  rw [hr] at r1;cases r1
  have:=r2 m g h1;lia
theorem Qgy (T:Tree S bg) (D:∀ s,s < S.pg.length->s≠S.top->Kd S s) (hn0:w.O6.getD S.top=n) (hn:S.pg[n]?=some p) (hw:w.O7=false) (hg:w.O4=0) (hl:0 < p.lv) (hin:In S bg n w.aim):
    ∃ (c:Nat) (q:Pg),Jp S w=some (.down n c,{ S with rd:=S.rd+1 },{ w with O3:=zR w.O3 p.lv n,O6:=some c })/\S.pg[c]?=some q/\q.lv+1=p.lv/\In S bg c w.aim:=by
  obtain ⟨_,e1,a1,a2⟩:=hin;rw [hn] at e1;cases e1
  have ok:=T.page n p hn
  have pl:=ok.parts
  rw [C7 (by lia)] at pl
  have hc:cLe p.ks w.aim < p.ps.length:=by have:=JB p.ks w.aim;lia
  obtain ⟨c,q,b1,b2,b3,b4⟩:=T.kid n p hn hl _ _ (Ab hc)
  have nb:Ze p w.aim=false:=by
    unfold Ze
    cases hh:p.hi with
    | none=>rfl
    | some h=>have:=a2 h hh;simp;lia
  have nq:=T.straight hn hl a1 a2 b2 b3 b4 fun s hs=>by
    obtain ⟨h,z,x1,x2,x3,x4,_⟩:=KW T b2 hs
    exact D s (Q4 x2) fun e=>by rw [e,T.rbg] at x4;cases x4
  refine ⟨c,q,?_,b2,b3,q,b2,?_,zG nq⟩
  . unfold Jp
    rw [C7 (by rw [hw];simp),hn0]
    simp only [hn]
    rw [C7 (by lia),nb,C7 (by simp),C8 (by lia),Ab hc,b1]
    simp only [B7]
  . rw [b4]
    cases hcl:cLe p.ks w.aim with
    | zero=>exact a1
    | succ i =>
      intro v hv
      have hv:p.ks[i]?=some v:=hv
      exact (yR ok.sorted hv).mp (by lia)
theorem Fk.settle (K:Fk S) {w:Wk} (hn:S.pg[n]?=some p) (hl:P.lv=p.lv) (h1:0 < P.lv->1<=P.ks.length) (h3:S.O2 < P.ks.length->3<=P.ks.length):Fk (Qr S w n P).2.1:=by
 unfold Qr
 by_cases hr:P.ks.length<=S.O2
 ·rw [C8 hr]
  intro m q hm h0
  rcases Jw hm with ⟨rfl,rfl,_⟩ | ⟨_,h⟩
  ·exact h1 h0
  ·exact K m q h h0
 ·rw [C7 hr]
  have l3:=h3 (by lia)
  intro m q hm h0
  rcases Jw (xs:=S.pg++[QB P]) hm with ⟨rfl,rfl,_⟩ | ⟨_,h⟩
  ·show 1<=(P.ks.take (mid P)).length
   rw [A9];unfold mid;lia
  ·rcases Jb h with ⟨rfl,rfl⟩ | h
   ·show 1<=(P.ks.drop (Zf P)).length
    have h0:0 < P.lv:=h0
    rw [Bq];unfold Zf;rw [C7 (by lia)];unfold mid;lia
   ·exact K m q h h0
theorem Fk.step (K:Fk S) (T:Tree S bg) (hs:Jp S w=some (r,S',w')):Fk S':=by
  have r2:=T.room2
  unfold Jp at hs
  by_cases hw:w.O7=true
  . rw [C8 hw] at hs;cases hs;exact K
  rw [C7 hw] at hs
  cases hn:S.pg[w.O6.getD S.top]? with
  | none=>rw [hn] at hs;cases hs
  | some p =>
    simp only [hn] at hs
    by_cases hr:w.O6=none/\p.lv < w.O4
    . rw [C8 hr] at hs
      cases hk:w.Oz with
      | none=>rw [hk] at hs;cases hs
      | some k =>
        rw [hk] at hs;cases hs
        intro m q hm h0
        rcases Jb hm with ⟨rfl,rfl⟩ | h
        . exact Ae _
        . exact K m q h h0
    . rw [C7 hr] at hs
      by_cases hb:Ze p w.aim=true
      . rw [C8 hb] at hs
        cases hsd:p.sd with
        | none=>rw [hsd] at hs;cases hs
        | some s=>rw [hsd] at hs;cases hs;exact K
      . rw [C7 hb] at hs
        by_cases hd:w.O4 < p.lv
        . rw [C8 hd] at hs
          cases hq:p.ps[cLe p.ks w.aim]? with
          | none=>rw [hq] at hs;cases hs
          | some c=>rw [hq] at hs;cases hs;exact K
        . rw [C7 hd] at hs
          by_cases h0:0 < w.O4
          . rw [C8 h0] at hs
            cases hk:w.Oz with
            | none=>rw [hk] at hs;cases hs
            | some k =>
              rw [hk] at hs
              simp only [Option.some.injEq,Bp] at hs
              obtain ⟨rfl,rfl,rfl⟩:=hs
              exact Fk.settle (S:={ S with rd:=S.rd+1 }) K hn rfl (fun _=>by show 1<=(_++_::_:List Int).length;rw [An,Ba];lia) (fun h=>by
                have h:S.O2 < (Q1 p w.aim k).ks.length:=h
                lia)
          . rw [C7 h0] at hs
            have hs:=Ak hs
            unfold ZZ at hs
            cases hdd:w.O0 with
            | find k=>rw [hdd] at hs;cases hs;exact K
            | put k x =>
              rw [hdd] at hs
              dsimp only at hs
              simp only [Bp] at hs
              obtain ⟨rfl,rfl,rfl⟩:=hs
              exact Fk.settle (S:={ S with rd:=S.rd+1 }) K hn rfl (fun _=>by show 1<=(_++_::_:List Int).length;rw [An,Ba];lia) (fun h=>by
                have h:S.O2 < (QG p w.aim x).ks.length:=h
                lia)
            | cut k =>
              rw [hdd] at hs;dsimp only at hs;cases hs
              by_cases hq:(QK p w.aim).isSome=true
              . rw [C8 hq]
                intro m q hm h1
                rcases Jw hm with ⟨rfl,rfl,_⟩ | ⟨_,h⟩
                . have:0 < p.lv:=h1
                  lia
                . exact K m q h h1
              . rw [C7 hq];exact K
            | stretch l h =>
              rw [hdd] at hs;dsimp only at hs
              cases hhi:p.hi with
              | none=>rw [hhi] at hs;cases hs;exact K
              | some x =>
                cases hsd:p.sd with
                | none=>rw [hhi,hsd] at hs;cases hs;exact K
                | some s =>
                  rw [hhi,hsd] at hs
                  dsimp only at hs
                  by_cases hx:h<=x
                  . rw [C8 hx] at hs;cases hs;exact K
                  . rw [C7 hx] at hs;cases hs;exact K
structure Al (S:Sh) (bg:Bg) (F:Er) (w:Wk):Prop where
 tree:Tree S bg
 fk:Fk S
 tab:TabIs S F
 told:Tld S [w]
 aim:Aim S bg w
 wok:w.O7=false->WOk S bg w
 unt:w.O7=false->0 < w.O4->∀ k,w.Oz=some k->Untold S k
theorem Al.step (A:Al S bg F w) (hw:w.O7=false):∃ r S' w' bg' F',Jp S w=some (r,S',w')/\Al S' bg' F' w'/\Grow S bg S' bg'/\Did F F' w w' r/\w'.O0=w.O0/\S'.O2=S.O2:=by
 obtain ⟨r,S',w',bg',hs,st⟩:=kz A.tree (A.wok hw) hw (A.unt hw)
 obtain ⟨F',h1,h2,h3,h4⟩:=QcE A.tree (A.wok hw) A.aim hw A.tab hs
 exact ⟨r,S',w',bg',F',hs,⟨st.tree,A.fk.step A.tree hs,h1,A.told.step (i:=0) A.tree (A.wok hw) rfl hw hs,h3.grow st.grow,st.wok,fun e g k hk=>(st.new k e g hk).1⟩,st.grow,h2,h4,st.O2⟩
theorem Al.all_told (A:Al S bg F w) (h:w.O4=0∨w.O7=true):∀ s,s < S.pg.length->s≠S.top->Kd S s:=fun s h1 h2=>by
 rcases A.told s h1 h2 with h3 | ⟨i,v,a,b,c,_⟩
 ·exact h3
 ·cases i with
  | zero=>cases a;rcases h with h | h;lia;rw [h] at b;cases b
  | succ i=>cases a
end
section
variable {S S':Sh} {bg bg':Bg} {n f:Nat} {p q P:Pg} {w w':Wk} {r:Row} {a k:Int} {F F':Er} {R:Nat}
theorem In.grow (h:In S bg n k) (g:Grow S bg S' bg') (e:S'.pg[n]?=S.pg[n]?):In S' bg' n k:=by
 obtain ⟨p,h1,h2,h3⟩:=h
 exact ⟨p,by rw [e];exact h1,by rw [(g.old n p h1).1];exact h2,h3⟩
def Kp (S:Sh) (bg:Bg) (w:Wk) (lo R:Nat):Prop:=∀ j,lo<=j->j<=R->∃ (f:Nat) (q:Pg),Jj w.O3 j=some f/\S.pg[f]?=some q/\q.lv=j/\In S bg f w.aim
theorem Steps.snoc {m:Nat} {w w1 w2:Wk} (h:Steps m S w S1 w1) (hw:w1.O7=false) (hs:Jp S1 w1=some (r,S2,w2)):Steps (m+1) S w S2 w2:=by
 induction h with
 | nil S w=>exact .cons hw hs (.nil _ _)
 | cons a b c ih=>exact .cons a b (ih hw hs)
theorem Steps.app {m m':Nat} {w w1 w2:Wk} (h:Steps m S w S1 w1) (h':Steps m' S1 w1 S2 w2):Steps (m+m') S w S2 w2:=by
 induction h with
 | nil S w=>rw [C1];exact h'
 | cons a b c ih=>rw [Nat.add_right_comm];exact .cons a b (ih h')
theorem gk:∀ (l:Nat) {S:Sh} {bg:Bg} {w:Wk} {n:Nat} {p:Pg},Al S bg F w->w.O7=false->w.O4=0->p.lv=l->w.O6.getD S.top=n->S.pg[n]?=some p->In S bg n w.aim ->
    ∃ S2 bg2 w2 n2 p2,Grow S bg S2 bg2/\Steps l S w S2 w2/\Al S2 bg2 F w2/\S2.pg=S.pg/\S2.top=S.top/\S2.O2=S.O2/\w2.O7=false/\w2.O4=0/\w2.aim=w.aim/\w2.O0=w.O0/\w2.O5=w.O5/\w2.O6.getD S2.top=n2/\S2.pg[n2]?=some p2/\p2.lv=0/\In S2 bg2 n2 w2.aim/\Kp S2 bg2 w2 1 l/\∀ j,l < j->Jj w2.O3 j=Jj w.O3 j
  | 0,S,bg,w,n,p,A,hw,hg,hl,h0,hn,hin=>⟨S,bg,w,n,p,Grow.refl,.nil S w,A,rfl,rfl,rfl,hw,hg,rfl,rfl,rfl,h0,hn,hl,hin,fun j a b=>(by lia),fun j _=>rfl⟩
  | l+1,S,bg,w,n,p,A,hw,hg,hl,h0,hn,hin=>by
    obtain ⟨c,q,e1,e2,e3,e4⟩:=Qgy A.tree (A.all_told (.inl hg)) h0 hn hw hg (by lia) hin
    obtain ⟨r,S1,w1,bg1,F1,s1,A1,g1,d1,dd1,_⟩:=A.step hw
    rw [e1] at s1
    cases s1
    have hF:F1=F:=d1.1
    rw [hF] at A1
    obtain ⟨S2,bg2,w2,n2,p2,b0,b1,b2,b3,b4,b5,b6,b7,b8,b9,b10,b11,b12,b13,b14,b15,b16⟩:=gk l A1 hw hg (by lia) (show (some c:Option Nat).getD _=c from rfl) e2 (e4.grow g1 rfl)
    refine ⟨S2,bg2,w2,n2,p2,g1.trans b0,?_,b2,b3,b4,b5,b6,b7,b8,b9,b10,b11,b12,b13,b14,?_,fun j hj=>?_⟩
    . rw [Nat.add_comm]
      have:=(Steps.cons hw e1 (.nil _ _)).app b1
      rwa [Nat.add_comm] at this ⊢
    . intro j j1 j2
      by_cases e:j=l+1
      . subst e
        have gn:Jj w2.O3 (l+1)=some n:=by
          rw [b16 (l+1) (by lia)]
          show Jj (zR w.O3 p.lv n) (l+1)=_
          rw [qH,C8 hl.symm]
        refine ⟨n,p,gn,by rw [b3];exact hn,hl,?_⟩
        obtain ⟨_,x1,x2,x3⟩:=hin
        rw [hn] at x1;cases x1
        refine ⟨p,by rw [b3];exact hn,?_,by rw [b8];exact x3⟩
        rw [b8]
        obtain ⟨_,y1,y2,y3⟩:=b14
        rw [b12] at y1;cases y1
        intro v hv
        have W2:=b2.wok b6
        by_cases pl:w2.O6=none
        . have:=W2.none_ pl _ n gn;lia
        . obtain ⟨m,hm⟩:∃ m,w2.O6=some m:=by
            cases h:w2.O6 with
            | none=>exact absurd h pl
            | some m=>exact ⟨m,rfl⟩
          have em:m=n2:=by rw [hm] at b11;exact b11
          subst em
          obtain ⟨u,u1,u2⟩:=W2.above m p2 hm b12 _ n gn (by lia) v hv
          have:=y2 u u1
          have e8:w2.aim=w.aim:=b8
          lia
      . exact b15 j j1 (by lia)
    . rw [b16 j (by lia)]
      show Jj (zR w.O3 p.lv n) j=_
      rw [qH,C7 (by lia)]
structure Bs (S:Sh) (bg:Bg) (F:Er) (w:Wk) (R:Nat):Prop where
 al:Al S bg F w
 live:w.O7=false
 root:∃ p,S.pg[S.top]?=some p/\p.lv=R
 pos:0 < w.O4
 le:w.O4<=R+1
 pl:w.O6=Jj w.O3 w.O4
 kp:Kp S bg w w.O4 R
 no:∀ j,R < j->Jj w.O3 j=none
theorem Kp.up (T:Tree S bg) (K:Kp S bg w (p.lv+1) R) (hn:S.pg[n]?=some p) (hin:In S bg n w.aim) (hk:In S bg n k):∀ (j:Nat) (f:Nat),p.lv+1<=j->j<=R->Jj w.O3 j=some f->In S bg f k:=by
  have key:∀ (i:Nat),p.lv+1+i<=R->∃ f q,Jj w.O3 (p.lv+1+i)=some f/\S.pg[f]?=some q/\q.lv=p.lv+1+i/\In S bg f k:=by
    intro i
    induction i with
    | zero =>
      intro h
      obtain ⟨f,q,a1,a2,a3,a4⟩:=K (p.lv+1) (Ae _) h
      exact ⟨f,q,a1,a2,a3,T.nest_in hn a2 (by lia) hin a4 hk⟩
    | succ i ih =>
      intro h
      obtain ⟨f,q,a1,a2,a3,a4⟩:=ih (by lia)
      obtain ⟨f1,q1,b1,b2,b3,b4⟩:=K (p.lv+1+i) (by lia) (by lia)
      rw [a1] at b1;cases b1
      obtain ⟨f2,q2,c1,c2,c3,c4⟩:=K (p.lv+1+(i+1)) (by lia) h
      exact ⟨f2,q2,c1,c2,c3,T.nest_in a2 c2 (by lia) b4 c4 a4⟩
  intro j f h1 h2 hf
  obtain ⟨f',q,a1,a2,a3,a4⟩:=key (j - (p.lv+1)) (by lia)
  rw [show p.lv+1+(j - (p.lv+1))=j by lia,hf] at a1
  cases a1;exact a4
theorem Bs.of (T:Tree S bg) (A':Al S' bg' F' w') (g:Grow S bg S' bg') (hn:S.pg[n]?=some p) (hin:In S bg n w.aim) (hk:In S bg n (JI P)) (K:Kp S bg w (p.lv+1) R) (no:∀ j,R < j->Jj w.O3 j=none) (hr:∃ z,S.pg[S.top]?=some z/\z.lv=R) (hpR:p.lv<=R)
  (hS:S'.pg=(S.pg++[QB P]).set n (QN P S.pg.length)) (ht:S'.top=S.top) (e1:w'.O4=p.lv+1) (e2:w'.aim=JI P) (e3:w'.O6=Jj w.O3 (p.lv+1)) (e4:w'.O3=w.O3) (e5:w'.O7=false):Bs S' bg' F' w' R where
 al:=A'
 live:=e5
 root:=by
  obtain ⟨z,h1,h2⟩:=hr
  obtain ⟨_,z',h3,h4⟩:=g.old _ z h1
  exact ⟨z',by rw [ht];exact h3,by lia⟩
 pos:=by lia
 le:=by lia
 pl:=by rw [e3,e4,e1]
 kp:=fun j j1 j2=>by
  rw [e1] at j1
  obtain ⟨f,q,a1,a2,a3,a4⟩:=K j j1 j2
  have h:=K.up T hn hin hk j f j1 j2 a1
  have ne:f≠n:=fun e=>by subst e;rw [hn] at a2;cases a2;lia
  have same:S'.pg[f]?=S.pg[f]?:=by
   rw [hS,Am (fun e=>ne e.symm),a2];exact JF a2
  exact ⟨f,q,by rw [e4];exact a1,by rw [same];exact a2,a3,by rw [e2];exact h.grow g same⟩
 no:=fun j h=>by rw [e4];exact no j h
theorem gS (ok:Js P.ks.length (bg n) P) (h3:3<=P.ks.length) (hn:S.pg[n]?=some p) (hh:P.hi=p.hi):In S bg n (JI P):=by
 have m:=Aw (Yc (P:=P) (by lia))
 exact ⟨p,hn,ok.low _ m,by rw [<- hh];exact ok.high _ m⟩
theorem Bs.finish:∀ (m:Nat) {S:Sh} {bg:Bg} {w:Wk},Bs S bg F w R->R+1 - w.O4=m->∃ m' S' bg' w',Grow S bg S' bg'/\Steps m' S w S' w'/\m'<=m+1/\Al S' bg' F w'/\w'.O7=true/\w'.O1=w.O1/\w'.O5=w.O5/\w'.O0=w.O0/\S'.O2=S.O2:=by
  intro m
  induction m with
  | zero =>
    intro S bg w B hm
    have hg:w.O4=R+1:=by have:=B.le;lia
    have pn:w.O6=none:=by rw [B.pl];exact B.no _ (by lia)
    obtain ⟨z,hz,hzl⟩:=B.root
    obtain ⟨r,S',w',bg',F',s1,A',g1,d1,dd1,rr⟩:=B.al.step B.live
    obtain ⟨k,q,a1,a2,a3,a4⟩:=(B.al.wok B.live).tell B.pos
    have hs:=s1
    unfold Jp at hs
    rw [C7 (by rw [B.live];simp),pn] at hs
    simp only [Option.getD_none,hz] at hs
    rw [C8 ⟨trivial,by lia⟩] at hs
    simp only [a1] at hs
    cases hs
    obtain ⟨_,hF,b1,b2,b3⟩:=d1
    rw [hF] at A'
    exact ⟨1,_,_,_,g1,.cons B.live s1 (.nil _ _),Ae _,A',rfl,rfl,rfl,rfl,rr⟩
  | succ m ih =>
    intro S bg w B hm
    have hg:w.O4<=R:=by lia
    obtain ⟨f,q,a1,a2,a3,a4⟩:=B.kp w.O4 (Ae _) hg
    have pf:w.O6=some f:=B.pl.trans a1
    obtain ⟨_,b0,b1,b2⟩:=a4
    rw [a2] at b0;cases b0
    obtain ⟨r,S',w',bg',F',s1,A',g1,d1,dd1,rr⟩:=B.al.step B.live
    have W:=B.al.wok B.live
    obtain ⟨k,z,c1,c2,c3,c4⟩:=W.tell B.pos
    have nb:Ze q w.aim=false:=by
      unfold Ze
      cases hh:q.hi with
      | none=>rfl
      | some h=>have:=b2 h hh;simp;lia
    have hs:=s1
    unfold Jp at hs
    rw [C7 (by rw [B.live];simp),pf] at hs
    simp only [Option.getD_some,a2] at hs
    rw [C7 (by simp),nb,C7 (by simp),C7 (by lia),C8 B.pos] at hs
    simp only [c1] at hs
    simp only [Option.some.injEq,Bp] at hs
    obtain ⟨rfl,rfl,rfl⟩:=hs
    obtain ⟨_,hF,x1,x2,x3,x4⟩:=d1
    rw [hF] at A'
    by_cases hroom:(Q1 q w.aim k).ks.length<=S.O2
    . have en:(Qr { S with rd:=S.rd+1 } w f (Q1 q w.aim k)).2.2.O7=true:=by unfold Qr;rw [C8 hroom]
      exact ⟨1,_,_,_,g1,.cons B.live s1 (.nil _ _),by lia,A',en,x1,x2,dd1,rr⟩
    . obtain ⟨n1,n2⟩:=vm B.al.tree a2 c2 (by lia) c4 (B.al.unt B.live B.pos k c1)
      have lt:ltB (bg f) w.aim:=fun v hv=>by
        have:=b1 v hv
        have:v≠w.aim:=fun e=>n2 (by rw [hv,e])
        lia
      have okP:=VH (B.al.tree.page f q a2) (by have:=B.pos;lia) (c:=k) n1 lt b2
      have r2:=B.al.tree.room2
      have B':Bs (Qr { S with rd:=S.rd+1 } w f (Q1 q w.aim k)).2.1 bg' F (Qr { S with rd:=S.rd+1 } w f (Q1 q w.aim k)).2.2 R:=by
        refine Bs.of (P:=Q1 q w.aim k) B.al.tree A' g1 a2 ⟨q,a2,b1,b2⟩ (gS okP (by lia) a2 rfl) (fun j j1 j2=>B.kp j (by lia) j2) B.no B.root (by lia) ?_ ?_ ?_ ?_ ?_ ?_ ?_
        all_goals (unfold Qr;rw [C7 hroom];first | done | exact B.live | rfl)
      have gl:(Qr { S with rd:=S.rd+1 } w f (Q1 q w.aim k)).2.2.O4=w.O4+1:=by
        unfold Qr;rw [C7 hroom];show q.lv+1=_;lia
      obtain ⟨m',S2,bg2,w2,t0,t1,t2,t3,t4,t5,t6,t7,t8⟩:=ih B' (by lia)
      exact ⟨m'+1,S2,bg2,w2,g1.trans t0,.cons B.live s1 t1,by lia,t3,t4,t5.trans x1,t6.trans x2,t7.trans dd1,t8.trans rr⟩
end
section
variable {S S':Sh} {bg bg':Bg} {n f:Nat} {p q P:Pg} {w w':Wk} {r:Row} {a k:Int} {F F':Er} {R:Nat}
def JZ (S:Sh) (l:Nat):Nat:=((List.range S.pg.length).filter (lvB S fun x=>decide (x=l))).length
theorem yS {l:Nat} (h:S.pg[n]?=some p) (hl:p.lv=l):n∈(List.range S.pg.length).filter (lvB S fun x=>decide (x=l)) :=
 Bm.mpr ⟨Ch.mpr (Q4 h),by unfold lvB;rw [h];simpa using hl⟩
def gg {l:Nat} (h:S.pg[n]?=some p) (hl:p.lv=l):1<=JZ S l:=List.length_pos_of_mem (yS h hl)
theorem Qgf {l:List Nat} {x y:Nat} (hx:x∈l) (hy:y∈l) (ne:x≠y):2<=l.length:=by
  cases l with
  | nil=>cases hx
  | cons a l =>
    cases l with
    | nil =>
      rw [Ar] at hx hy
      exact absurd (hx.trans hy.symm) ne
    | cons b l=>simp
theorem Qc3 (T:Tree S bg) (K:Fk S) (h:S.pg[n]?=some p) (hl:0 < p.lv):2<=JZ S (p.lv - 1):=by
 have k1:=K n p h hl
 have pl:=(T.page n p h).parts
 rw [C7 (by lia)] at pl
 obtain ⟨c,q,a1,a2,a3,a4⟩:=T.kid n p h hl 0 _ (Ab (by lia:0 < p.ps.length))
 obtain ⟨d,z,b1,b2,b3,b4⟩:=T.kid n p h hl 1 _ (Ab (by lia:1 < p.ps.length))
 refine Qgf (yS a2 (by lia)) (yS b2 (by lia)) fun e=>?_
 subst e
 have a4:bg c=bg n:=a4
 have b4:bg c=p.ks[0]?:=b4
 rw [Ab (by lia:0 < p.ks.length)] at b4
 have:=(T.page n p h).lowF hl _ (B9 (by lia:0 < p.ks.length)) _ (a4.symm.trans b4)
 lia
theorem yz (m:Nat):∀ (R:Nat),(∀ j,0 < j->j<=R->m<=JZ S (j - 1))->R * m<=((List.range S.pg.length).filter (lvB S fun x=>decide (x < R))).length
  | 0,_=>by simp
  | R+1,h=>by
    have ih:=yz m R fun j a b=>h j a (by lia)
    have:=h (R+1) (by lia) (Ae _)
    rw [XU,Nat.succ_mul]
    unfold JZ at this
    simp only [Nat.add_sub_cancel] at this
    lia
theorem Tree.pages_two (T:Tree S bg) (K:Fk S) (hr:S.pg[S.top]?=some p) (hK:∀ j,0 < j->j<=p.lv->∃ (f:Nat) (q:Pg),S.pg[f]?=some q/\q.lv=j):2 * p.lv+1<=S.pg.length:=by
 obtain ⟨z,r1,r2⟩:=T.root
 rw [hr] at r1;cases r1
 have a:=jZ (S:=S) (L:=p.lv) r2
 rw [XU] at a
 have b:=yz (S:=S) 2 p.lv fun j h1 h2=>by
  obtain ⟨f,q,x1,x2⟩:=hK j h1 h2
  subst x2
  exact Qc3 T K x1 h1
 have c:=gg hr rfl
 unfold JZ at c
 lia
theorem Tree.pages_row (T:Tree S bg) (hr:S.pg[S.top]?=some p) (hK:∀ j,0 < j->j<=p.lv->∃ (f:Nat) (q:Pg),S.pg[f]?=some q/\q.lv=j):JZ S 0+p.lv<=S.pg.length:=by
  obtain ⟨z,r1,r2⟩:=T.root
  rw [hr] at r1;cases r1
  have a:=jZ (S:=S) (L:=p.lv) r2
  have key:∀ R,R<=p.lv->JZ S 0+R<=((List.range S.pg.length).filter (lvB S fun x=>decide (x < R+1))).length:=by
    intro R
    induction R with
    | zero=>intro _;rw [XU,yA];unfold JZ;lia
    | succ R ih =>
      intro h
      have:=ih (by lia)
      obtain ⟨f,q,x1,x2⟩:=hK (R+1) (by lia) h
      have:=gg x1 x2
      rw [XU]
      unfold JZ at *
      lia
  have:=key p.lv (Ae _)
  lia
def lfR (S:Sh) (bg:Bg) (n:Nat):Nat:=((List.range S.pg.length).filter fun m=>lvB S (fun x=>decide (x=0)) m&&ltO (bg n) (bg m)).length
theorem Qfi (S:Sh) (bg:Bg) (hn:S.pg[n]?=some p) (hz:p.lv=0):lfR S bg n+1<=JZ S 0:=by
 refine jl (lvB S fun x=>decide (x=0)) _ _ (fun x _ hx=>(Bool.and_eq_true_iff.mp hx).1) ⟨n,Ch.mpr (Q4 hn),?_,?_⟩
 ·unfold lvB;rw [hn];simpa using hz
 ·rw [qZ,Bool.and_false]
theorem ul (h:ltH k p.hi):Ze p k=false:=by
 unfold Ze
 cases hh:p.hi with
 | none=>rfl
 | some x=>have:=h x hh;simp;lia
theorem xi (hw:w.O7=false) (h0:w.O6.getD S.top=n) (hn:S.pg[n]?=some p) (hg:w.O4=0) (hz:p.lv=0) (hh:ltH w.aim p.hi):Jp S w=some (ZZ { S with rd:=S.rd+1 } w n p):=by
 unfold Jp
 rw [C7 (by rw [hw];simp),h0]
 simp only [hn]
 rw [C7 (by lia),ul hh,C7 (by simp),C7 (by lia),C7 (by lia)]
theorem Qch:∀ (m:Nat) {S:Sh} {bg:Bg} {w:Wk} {n:Nat} {p:Pg} {l h:Int},Al S bg F w->w.O7=false->w.O4=0->w.O0=.stretch l h->l<=w.aim->w.aim < h->Rds F l w.aim w.O5->w.O6.getD S.top=n->S.pg[n]?=some p->p.lv=0->In S bg n w.aim->lfR S bg n<=m ->
    ∃ m' S' bg' w',Grow S bg S' bg'/\Steps m' S w S' w'/\m'<=m+1/\Al S' bg' F w'/\w'.O7=true/\Rds F l h w'.O5/\w'.O0=w.O0/\S'.O2=S.O2:=by
  intro m
  induction m with
  | zero =>
    intro S bg w n p l h A hw hg hd hl hh hr h0 hn hz hin hm
    obtain ⟨_,e1,a1,a2⟩:=hin;rw [hn] at e1;cases e1
    obtain ⟨r,S',w',bg',F',s1,A',g1,d1,dd1,rr⟩:=A.step hw
    have ls:=xi hw h0 hn hg hz a2
    have join:∀ {e:Int} {ps:Ek},w.aim<=e->Rds F w.aim e ps->Rds F l e (w.O5++ps):=fun {e ps} he ⟨x1,x2⟩=>by
      refine ⟨Bv.mpr ⟨hr.1,x1,fun x hx y hy=>?_⟩,fun k v=>?_⟩
      . have:=((hr.2 x.1 x.2).mp hx).2;have:=((x2 y.1 y.2).mp hy).2;lia
      . rw [Ai,hr.2,x2]
        constructor
        . rintro (⟨u1,u2,u3⟩ | ⟨u1,u2,u3⟩)
          . exact ⟨u1,u2,by lia⟩
          . exact ⟨u1,by lia,u3⟩
        . rintro ⟨u1,u2,u3⟩
          rcases Int.lt_or_le k w.aim with c | c
          . exact .inl ⟨u1,u2,c⟩
          . exact .inr ⟨u1,c,u3⟩
    have over:∀ {ps:Ek},r=.read n ps none->∃ m' S' bg' w',Grow S bg S' bg'/\Steps m' S w S' w'/\m'<=0+1/\Al S' bg' F w'/\w'.O7=true/\Rds F l h w'.O5/\w'.O0=w.O0/\S'.O2=S.O2:=fun {ps} e=>by
      subst e
      obtain ⟨l',h',b1,b2,b3,b4,b5,b6⟩:=d1
      rw [hd] at b1;cases b1
      rw [b2] at A'
      exact ⟨1,S',bg',w',g1,.cons hw s1 (.nil _ _),Ae _,A',b6,by rw [b3];exact join (by lia) b5,dd1,rr⟩
    rw [ls] at s1
    have s1':=Ak s1
    unfold ZZ at s1'
    rw [hd] at s1'
    dsimp only at s1'
    rcases A.tree.link n p hn with ⟨x,y⟩ | ⟨x,s,z,y1,y2,y3,y4,y5⟩
    . simp only [x,y] at s1'
      exact over (congrArg (·.1) s1').symm
    . simp only [y1,y2] at s1'
      by_cases hx:h<=x
      . rw [C8 hx] at s1'
        exact over (congrArg (·.1) s1').symm
      . exfalso
        have:s∈(List.range S.pg.length).filter fun m=>lvB S (fun x=>decide (x=0)) m&&ltO (bg n) (bg m):=by
          refine Bm.mpr ⟨Ch.mpr (Q4 y3),?_⟩
          rw [Bc]
          refine ⟨by unfold lvB;rw [y3];simp;lia,?_⟩
          rw [y5];exact YK ((A.tree.page n p hn).wide x y1)
        have:=List.length_pos_of_mem this
        unfold lfR at hm
        lia
  | succ m ih =>
    intro S bg w n p l h A hw hg hd hl hh hr h0 hn hz hin hm
    obtain ⟨_,e1,a1,a2⟩:=hin;rw [hn] at e1;cases e1
    obtain ⟨r,S',w',bg',F',s1,A',g1,d1,dd1,rr⟩:=A.step hw
    have ls:=xi hw h0 hn hg hz a2
    have join:∀ {e:Int} {ps:Ek},w.aim<=e->Rds F w.aim e ps->Rds F l e (w.O5++ps):=fun {e ps} he ⟨x1,x2⟩=>by
      refine ⟨Bv.mpr ⟨hr.1,x1,fun x hx y hy=>?_⟩,fun k v=>?_⟩
      . have:=((hr.2 x.1 x.2).mp hx).2;have:=((x2 y.1 y.2).mp hy).2;lia
      . rw [Ai,hr.2,x2]
        constructor
        . rintro (⟨u1,u2,u3⟩ | ⟨u1,u2,u3⟩)
          . exact ⟨u1,u2,by lia⟩
          . exact ⟨u1,by lia,u3⟩
        . rintro ⟨u1,u2,u3⟩
          rcases Int.lt_or_le k w.aim with c | c
          . exact .inl ⟨u1,u2,c⟩
          . exact .inr ⟨u1,c,u3⟩
    have over:∀ {ps:Ek},r=.read n ps none->∃ m' S' bg' w',Grow S bg S' bg'/\Steps m' S w S' w'/\m'<=m+1+1/\Al S' bg' F w'/\w'.O7=true/\Rds F l h w'.O5/\w'.O0=w.O0/\S'.O2=S.O2:=fun {ps} e=>by
      subst e
      obtain ⟨l',h',b1,b2,b3,b4,b5,b6⟩:=d1
      rw [hd] at b1;cases b1
      rw [b2] at A'
      exact ⟨1,S',bg',w',g1,.cons hw s1 (.nil _ _),by lia,A',b6,by rw [b3];exact join (by lia) b5,dd1,rr⟩
    have s1c:=s1
    rw [ls] at s1
    have s1':=Ak s1
    unfold ZZ at s1'
    rw [hd] at s1'
    dsimp only at s1'
    rcases A.tree.link n p hn with ⟨x,y⟩ | ⟨x,s,z,y1,y2,y3,y4,y5⟩
    . simp only [x,y] at s1'
      exact over (congrArg (·.1) s1').symm
    . simp only [y1,y2] at s1'
      by_cases hx:h<=x
      . rw [C8 hx] at s1'
        exact over (congrArg (·.1) s1').symm
      . rw [C7 hx] at s1'
        have er:r=.read n (QO p l h) (some (s,x)):=(congrArg (·.1) s1').symm
        have eS:S'={ S with rd:=S.rd+1 }:=(congrArg (·.2.1) s1').symm
        have ew:w'.O6=some s:=by have:=congrArg (·.2.2.O6) s1';exact this.symm
        subst er
        obtain ⟨l',h',b1,b2,b3,b4,b5,b6,b7,b8,b9,b10⟩:=d1
        rw [hd] at b1;cases b1
        rw [b2] at A'
        have pgS:S'.pg=S.pg:=by rw [eS]
        have hs':S'.pg[s]?=some z:=by rw [pgS];exact y3
        have bgs:bg' s=some x:=by rw [(g1.old s z y3).1];exact y5
        have inS:In S' bg' s w'.aim:=by
          refine ⟨z,hs',fun v hv=>?_,fun v hv=>?_⟩
          . rw [bgs] at hv;cases hv;rw [b8];exact Bo _
          . rw [b8];exact (A'.tree.page s z hs').wide v hv x bgs
        have less:lfR S' bg' s<=m:=by
          have:lfR S' bg' s < lfR S bg n:=by
            unfold lfR
            rw [pgS]
            refine jl _ _ _ (fun y hy hq=>?_) ⟨s,Ch.mpr (Q4 y3),?_,?_⟩
            . obtain ⟨q1,q2⟩:=Bool.and_eq_true_iff.mp hq
              have ly:=Ch.mp hy
              have by':bg' y=bg y:=(g1.old y _ (Ab ly)).1
              rw [Bc]
              refine ⟨by unfold lvB at q1 ⊢;rw [pgS] at q1;exact q1,?_⟩
              rw [by',bgs] at q2
              exact YJ (YK ((A.tree.page n p hn).wide x y1)) q2
            . rw [Bc]
              refine ⟨by unfold lvB;rw [y3];simp;lia,?_⟩
              rw [y5];exact YK ((A.tree.page n p hn).wide x y1)
            . rw [qZ,Bool.and_false]
          lia
        obtain ⟨m',S2,bg2,w2,t0,t1,t2,t3,t4,t5,t6,t7⟩:=ih A' b9 b10 (dd1.trans hd) (by lia) (by lia) (by rw [b3,b8];exact join (by lia) b7) (by rw [ew];rfl) hs' (by lia) inS less
        exact ⟨m'+1,S2,bg2,w2,g1.trans t0,.cons hw s1c t1,by lia,t3,t4,t5,t6.trans dd1,t7.trans rr⟩
def Ans (F F':Er) (w:Wk):Deed->Prop
 | .find k=>F'=F/\w.O1=F k
 | .put k x=>F'=uM F k x/\w.O1=F k
 | .cut k=>F'=VB F k/\w.O1=F k
 | .stretch l h=>F'=F/\Rds F l h w.O5
def vC:Deed->Prop
 | .stretch l h=>l < h
 | _=>True
theorem Qgr (T:Tree S bg) (D:∀ s,s < S.pg.length->s≠S.top->Kd S s) (K:Fk S) (hT:TabIs S F) (d:Deed) (hd:vC d):
    ∃ m S' bg' F' w',Grow S bg S' bg'/\Steps m S (fresh d) S' w'/\m<=S.pg.length+8/\Al S' bg' F' w'/\w'.O7=true/\Ans F F' w' d/\w'.O0=d/\S'.O2=S.O2:=by
  have A:Al S bg F (fresh d):=by
    refine ⟨T,K,hT,fun n h1 h2=>.inl (D n h1 h2),fun _=>?_,fun _=>WOk.fresh rfl rfl rfl,fun _ h=>absurd h (by show ¬ 0 < 0;lia)⟩
    cases d with
    | find k=>rfl
    | put k x=>rfl
    | cut k=>rfl
    | stretch l h=>exact ⟨hd,.inl rfl⟩
  obtain ⟨rt,hr,_⟩:=T.root
  have rh:=T.root_hi D hr
  have inR:In S bg S.top (fresh d).aim:=⟨rt,hr,fun v hv=>(by rw [T.rbg] at hv;cases hv),fun v hv=>(by rw [rh] at hv;cases hv)⟩
  obtain ⟨S2,bg2,w2,n2,p2,b0,b1,b2,b3,b4,b5,b6,b7,b8,b9,b10,b11,b12,b13,b14,b15,b16⟩:=gk (F:=F) rt.lv A rfl rfl rfl rfl hr inR
  have hr2:S2.pg[S2.top]?=some rt:=by rw [b3,b4];exact hr
  have hK:∀ j,0 < j->j<=rt.lv->∃ (f:Nat) (q:Pg),S.pg[f]?=some q/\q.lv=j:=fun j h1 h2=>by
    obtain ⟨f,q,_,x2,x3,_⟩:=b15 j h1 h2
    exact ⟨f,q,by rw [<- b3];exact x2,x3⟩
  have two:=T.pages_two K hr hK
  have row:=T.pages_row hr hK
  have no:∀ j,rt.lv < j->Jj w2.O3 j=none:=fun j h=>by rw [b16 j h];rfl
  obtain ⟨_,y0,y1,y2⟩:=b14
  rw [b12] at y0;cases y0
  have ls:=xi b6 b11 b12 b7 b13 y2
  have dk:w2.O0=d:=b9
  obtain ⟨r,S3,w3,bg3,F3,s3,A3,g3,d3,dd3,rr3⟩:=b2.step b6
  cases d with
  | find k =>
    have s3':=s3
    rw [ls] at s3'
    have q:=Ak s3'
    unfold ZZ at q;rw [dk] at q;dsimp only at q
    have er:=(congrArg (·.1) q).symm
    subst er
    obtain ⟨k',z1,z2,z3,z4,z5,z6⟩:=d3
    rw [dk] at z1;cases z1
    exact ⟨_,S3,bg3,F3,w3,b0.trans g3,b1.snoc b6 s3,by lia,A3,z6,⟨z3,z4⟩,dd3.trans dk,rr3.trans b5⟩
  | cut k =>
    have s3':=s3
    rw [ls] at s3'
    have q:=Ak s3'
    unfold ZZ at q;rw [dk] at q;dsimp only at q
    have er:=(congrArg (·.1) q).symm
    subst er
    obtain ⟨k',z1,z2,z3,z4,z5,z6⟩:=d3
    rw [dk] at z1;cases z1
    exact ⟨_,S3,bg3,F3,w3,b0.trans g3,b1.snoc b6 s3,by lia,A3,z6,⟨z3,z4⟩,dd3.trans dk,rr3.trans b5⟩
  | put k x =>
    have s3':=s3
    rw [ls] at s3'
    have q:=Ak s3'
    unfold ZZ at q;rw [dk] at q;dsimp only at q
    simp only [Bp] at q
    obtain ⟨rfl,rfl,rfl⟩:=q
    obtain ⟨k',x',z1,z2,z3,z4,z5,z6,z7⟩:=d3
    rw [dk] at z1;cases z1
    by_cases hroom:(QG p2 w2.aim x).ks.length<=S2.O2
    . refine ⟨_,_,bg3,F3,_,b0.trans g3,b1.snoc b6 s3,by lia,A3,?_,⟨z3,z4⟩,dd3.trans dk,rr3.trans b5⟩
      unfold Qr;rw [C8 hroom]
    . have r2:=b2.tree.room2
      have okP:=xR (x:=x) (b2.tree.page n2 p2 b12) b13 y1 y2
      have B:=by
        refine Bs.of (R:=rt.lv) (P:=QG p2 w2.aim x) (w:=w2) (n:=n2) (p:=p2) b2.tree A3 g3 b12 ⟨p2,b12,y1,y2⟩ (gS okP (by lia) b12 rfl) (by rw [b13];exact b15) no ⟨rt,hr2,rfl⟩ (by lia) ?_ ?_ ?_ ?_ ?_ ?_ ?_
        all_goals (unfold Qr;rw [C7 hroom];first | done | exact b6 | rfl)
      obtain ⟨m',S4,bg4,w4,t0,t1,t2,t3,t4,t5,t6,t7,t8⟩:=B.finish _ rfl
      exact ⟨_,S4,bg4,F3,w4,(b0.trans g3).trans t0,(b1.snoc b6 s3).app t1,by lia,t3,t4,⟨z3,t5.trans z4⟩,t7.trans (dd3.trans dk),t8.trans (rr3.trans b5)⟩
  | stretch l h =>
    have hd:l < h:=hd
    have e8:w2.aim=l:=b8
    obtain ⟨m',S4,bg4,w4,t0,t1,t2,t3,t4,t5,t6,t7⟩:=Qch (lfR S2 bg2 n2) b2 b6 b7 dk (by lia) (by lia) ⟨by rw [b10];exact List.Pairwise.nil,fun k v=>⟨fun hm=>(by rw [b10] at hm;cases hm),fun ⟨_,u2,u3⟩=>(by lia)⟩⟩ b11 b12 b13 ⟨p2,b12,y1,y2⟩ (Ae _)
    have lr:=Qfi S2 bg2 b12 b13
    have ce:JZ S2 0=JZ S 0:=by unfold JZ lvB;rw [b3]
    exact ⟨_,S4,bg4,F,w4,b0.trans t0,b1.app t1,by lia,t3,t4,⟨rfl,t5⟩,t6.trans dk,t7.trans b5⟩
end
def yb (L:Ek):Prop:=L.Pairwise (fun x y=>x.1 < y.1)
theorem qi:∀ {L M:Ek},yb L->yb M->(∀ x,x∈L↔x∈M)->L=M
  | [],[],_,_,_=>rfl
  | [],y::M,_,_,h=>by have:=(h y).mpr (by simp);cases this
  | x::L,[],_,_,h=>by have:=(h x).mp (by simp);cases this
  | x::L,y::M,hL,hM,h=>by
    obtain ⟨a1,a2⟩:=Cp.mp hL
    obtain ⟨b1,b2⟩:=Cp.mp hM
    have e:x=y:=by
      have hx:=(h x).mp (by simp)
      have hy:=(h y).mpr (by simp)
      rcases Bk.mp hx with hx | hx
      . exact hx
      . rcases Bk.mp hy with hy | hy
        . exact hy.symm
        . have:=a1 y hy;have:=b1 x hx;lia
    subst e
    congr 1
    refine qi a2 b2 fun z=>⟨fun hz=>?_,fun hz=>?_⟩
    . rcases Bk.mp ((h z).mp (Ax _ hz)) with e | hz'
      . subst e;have:=a1 z hz;lia
      . exact hz'
    . rcases Bk.mp ((h z).mpr (Ax _ hz)) with e | hz'
      . subst e;have:=b1 z hz;lia
      . exact hz'
def uv (S:Sh) (n:Nat):List (Int×Int):=match S.pg[n]? with
 | some p=>prs p
 | none=>[]
def qt (S:Sh) (r:List Nat):List (Int×Int):=r.flatMap (uv S)
def Zero (S:Sh) (bg:Bg):Prop:=bg 0=none/\∃ p,S.pg[0]?=some p/\p.lv=0
section
variable {S S':Sh} {bg bg':Bg} {F:Er}
theorem Zero.grow (Z:Zero S bg) (g:Grow S bg S' bg'):Zero S' bg':=by
 obtain ⟨h1,p,h2,h3⟩:=Z
 obtain ⟨a,q,b,c⟩:=g.old 0 p h2
 exact ⟨a.trans h1,q,b,by lia⟩
theorem QbJ (T:Tree S bg) (hT:TabIs S F) (Z:Zero S bg):∃ r,Chain S 0 r/\r.Nodup/\r.length<=S.pg.length/\(∀ m∈r,∃ q,S.pg[m]?=some q/\q.lv=0)/\yb (qt S r)/\∀ k v,(k,v)∈qt S r↔F k=some v:=by
 obtain ⟨z1,p0,z2,z3⟩:=Z
 obtain ⟨r,c,nd,mem⟩:=Qf4 T z2 z1
 have fc:=c.facts T p0 z2
 obtain ⟨f1,f2,f3,f4,f5⟩:=fc
 have lv0:∀ m∈r,∃ q,S.pg[m]?=some q/\q.lv=0:=fun m hm=>by
  obtain ⟨q,a,b⟩:=f1 m hm
  exact ⟨q,a,by lia⟩
 have len:r.length<=S.pg.length:=by
  rw [Qd6 T nd mem]
  exact Bj (Cb _ _) (by rw [List.length_range];exact Ae _)
 refine ⟨r,c,nd,len,lv0,?_,fun k v=>?_⟩
 ·unfold yb qt
  rw [List.pairwise_flatMap]
  refine ⟨fun m hm=>?_,?_⟩
  ·obtain ⟨q,a,b⟩:=lv0 m hm
   unfold uv;rw [a]
   exact Vb (T.page m q a).sorted
  ·refine List.Pairwise.imp_of_mem (R:=fun a b=>ltO (bg a) (bg b)=true) (fun {a b} ha hb hlt x hx y hy=>?_) f3
   obtain ⟨q,a1,a2⟩:=lv0 a ha
   obtain ⟨u,b1,b2⟩:=lv0 b hb
   unfold uv at hx hy
   rw [a1] at hx;rw [b1] at hy
   have kx:=jD (show (x.1,x.2)∈prs q from hx)
   have ky:=jD (show (y.1,y.2)∈prs u from hy)
   have ne:a≠b:=fun e=>by subst e;rw [qZ] at hlt;cases hlt
   rcases T.dis a b q u a1 b1 (by lia) ne with ⟨h,v,e1,e2,e3⟩ | ⟨h,v,e1,e2,e3⟩
   ·have:=(T.page a q a1).high _ kx h e1
    have:=(T.page b u b1).low _ ky v e2
    lia
   ·exfalso
    have w:=YK ((T.page b u b1).wide h e1)
    have w2:=YJ hlt w
    rw [e2] at w2
    simp only [ltO,decide_eq_true_eq] at w2
    lia
 ·unfold qt
  rw [hT k v,List.mem_flatMap]
  constructor
  ·rintro ⟨m,hm,h⟩
   obtain ⟨q,a,b⟩:=lv0 m hm
   unfold uv at h;rw [a] at h
   exact ⟨m,q,a,b,h⟩
  ·rintro ⟨m,q,a,b,h⟩
   exact ⟨m,(mem m).mpr ⟨q,a,by lia⟩,by unfold uv;rw [a];exact h⟩
end
section
variable {S S':Sh} {bg bg':Bg} {n f:Nat} {p q P:Pg} {w w':Wk} {r:Row} {a k:Int} {F F':Er} {R:Nat}
theorem uG (S:Sh) (w:Wk) (n:Nat) (P:Pg) (hn:n < S.pg.length):((Qr S w n P).2.1.pg.length=S.pg.length/\(Qr S w n P).2.2.O4=w.O4)∨((Qr S w n P).2.1.pg.length=S.pg.length+1/\(Qr S w n P).2.1.pg[S.pg.length]?=some (QB P)/\(Qr S w n P).2.2.O4=P.lv+1):=by
 unfold Qr
 by_cases hr:P.ks.length<=S.O2
 ·rw [C8 hr];exact .inl ⟨by simp,rfl⟩
 ·rw [C7 hr]
  refine .inr ⟨by simp,?_,rfl⟩
  show ((S.pg++[QB P]).set n (QN P S.pg.length))[S.pg.length]?=_
  rw [Am (by lia)];simp
theorem QcD (T:Tree S bg) (W:WOk S bg w) (hw:w.O7=false) (hs:Jp S w=some (r,S',w')):(0 < w.O4->0 < w'.O4)/\(S'.pg.length=S.pg.length∨(S'.pg.length=S.pg.length+1/\∃ q,S'.pg[S.pg.length]?=some q/\q.lv=w.O4/\0 < w'.O4)):=by
  obtain ⟨n,hn0,hpl⟩:∃ n,w.O6.getD S.top=n/\(w.O6=some n∨(w.O6=none/\n=S.top)):=by
    cases e:w.O6 with
    | none=>exact ⟨S.top,rfl,.inr ⟨rfl,rfl⟩⟩
    | some m=>exact ⟨m,rfl,.inl rfl⟩
  obtain ⟨p,hn⟩:∃ p,S.pg[n]?=some p:=by
    rcases hpl with U | ⟨_,rfl⟩
    . obtain ⟨p,a,_⟩:=W.at_ n U;exact ⟨p,a⟩
    . obtain ⟨p,a,_⟩:=T.root;exact ⟨p,a⟩
  have ln:=Q4 hn
  unfold Jp at hs
  rw [C7 (by rw [hw];simp),hn0] at hs
  simp only [hn] at hs
  by_cases hr:w.O6=none/\p.lv < w.O4
  . rw [C8 hr] at hs
    obtain ⟨k,q,a1,a2,a3,a4⟩:=W.tell (by lia)
    simp only [a1] at hs
    cases hs
    refine ⟨id,.inr ⟨by simp,_,by simp;rfl,?_,by show 0 < w.O4;lia⟩⟩
    show p.lv+1=w.O4
    have htop:n=S.top:=by
      rcases hpl with U | ⟨_,e⟩
      . rw [hr.1] at U;cases U
      . exact e
    subst htop
    obtain ⟨r,b1,b2⟩:=T.root
    rw [hn] at b1;cases b1
    have:=b2 k q a2;lia
  . rw [C7 hr] at hs
    cases hb:Ze p w.aim with
    | true =>
      rw [hb,C8 rfl] at hs
      cases hsd:p.sd with
      | none=>rw [hsd] at hs;cases hs
      | some s=>rw [hsd] at hs;cases hs;exact ⟨id,.inl rfl⟩
    | false =>
      rw [hb,C7 (by simp)] at hs
      by_cases hd:w.O4 < p.lv
      . rw [C8 hd] at hs
        cases hq:p.ps[cLe p.ks w.aim]? with
        | none=>rw [hq] at hs;cases hs
        | some c=>rw [hq] at hs;cases hs;exact ⟨id,.inl rfl⟩
      . rw [C7 hd] at hs
        have hg:w.O4<=p.lv:=by
          rcases hpl with U | ⟨U,_⟩
          . obtain ⟨p',b1,b2,_⟩:=W.at_ n U
            rw [hn] at b1;cases b1;exact b2
          . exact Cy fun h=>hr ⟨U,h⟩
        have back:∀ (w0:Wk) (P:Pg),w0.O4=w.O4->P.lv=p.lv->(0 < w.O4->0 < (Qr { S with rd:=S.rd+1 } w0 n P).2.2.O4)/\((Qr { S with rd:=S.rd+1 } w0 n P).2.1.pg.length=S.pg.length∨((Qr { S with rd:=S.rd+1 } w0 n P).2.1.pg.length=S.pg.length+1/\∃ q,(Qr { S with rd:=S.rd+1 } w0 n P).2.1.pg[S.pg.length]?=some q/\q.lv=w.O4/\0 < (Qr { S with rd:=S.rd+1 } w0 n P).2.2.O4)):=fun w0 P e0 hl=>by
          rcases uG { S with rd:=S.rd+1 } w0 n P ln with ⟨h1,h2⟩ | ⟨h1,h2,h3⟩
          . exact ⟨fun h=>by lia,.inl h1⟩
          . exact ⟨fun h=>by lia,.inr ⟨h1,_,h2,by show P.lv=w.O4;lia,by lia⟩⟩
        by_cases h0:0 < w.O4
        . rw [C8 h0] at hs
          obtain ⟨k,q,a1,a2,a3,a4⟩:=W.tell h0
          simp only [a1] at hs
          simp only [Option.some.injEq,Bp] at hs
          obtain ⟨rfl,rfl,rfl⟩:=hs
          exact back w (Q1 p w.aim k) rfl rfl
        . rw [C7 h0] at hs
          have hs:=Ak hs
          unfold ZZ at hs
          cases hdd:w.O0 with
          | find k=>rw [hdd] at hs;cases hs;exact ⟨fun h=>absurd h h0,.inl rfl⟩
          | put k x =>
            rw [hdd] at hs
            dsimp only at hs
            simp only [Bp] at hs
            obtain ⟨rfl,rfl,rfl⟩:=hs
            exact back _ (QG p w.aim x) rfl rfl
          | cut k =>
            rw [hdd] at hs;dsimp only at hs;cases hs
            refine ⟨fun h=>absurd h h0,.inl ?_⟩
            by_cases hq:(QK p w.aim).isSome=true
            . rw [C8 hq];simp
            . rw [C7 hq]
          | stretch l h =>
            rw [hdd] at hs;dsimp only at hs
            refine ⟨fun h=>absurd h h0,.inl ?_⟩
            cases hhi:p.hi with
            | none=>rw [hhi] at hs;cases hs;rfl
            | some x =>
              cases hsd:p.sd with
              | none=>rw [hhi,hsd] at hs;cases hs;rfl
              | some s =>
                rw [hhi,hsd] at hs
                dsimp only at hs
                by_cases hx:h<=x
                . rw [C8 hx] at hs;cases hs;rfl
                . rw [C7 hx] at hs;cases hs;rfl
theorem GT (g:Grow S bg S' bg') {n:Nat} (hn:n < S.pg.length) (fn:Nat->Bool):lvB S' fn n=lvB S fn n:=by
 obtain ⟨_,p',h1,h2⟩:=g.old n _ (Ab hn)
 unfold lvB
 rw [h1,Ab hn]
 show fn p'.lv=fn _
 rw [h2]
theorem zL {α:Type} {f h:α->Bool}:∀ {l:List α},(∀ x∈l,f x=h x)->l.filter f=l.filter h
  | [],_=>rfl
  | x::l,e=>by
    rw [As,As,e x (by simp),zL fun y hy=>e y (Ax _ hy)]
theorem kU (g:Grow S bg S' bg') (h:S'.pg.length=S.pg.length) (l:Nat):JZ S' l=JZ S l:=by
 unfold JZ
 rw [h,zL fun x hx=>GT g (Ch.mp hx) _]
theorem kT (g:Grow S bg S' bg') (h:S'.pg.length=S.pg.length+1) (hq:S'.pg[S.pg.length]?=some q) (l:Nat):JZ S' l=JZ S l+if q.lv=l then 1 else 0:=by
 unfold JZ
 rw [h,List.range_succ,List.filter_append,An,zL fun x hx=>GT g (Ch.mp hx) _]
 have e:lvB S' (fun x=>decide (x=l)) S.pg.length=decide (q.lv=l):=by unfold lvB;rw [hq]
 congr 1
 rw [As,e]
 by_cases c:q.lv=l<;>simp [c]
def lvs (S:Sh) (w:Wk):Nat:=JZ S 0+if w.O4=0/\w.O7=false then 1 else 0
theorem Al.leaves (A:Al S bg F w) (hw:w.O7=false) (hs:Jp S w=some (r,S',w')) (g:Grow S bg S' bg'):lvs S' w'<=lvs S w:=by
 obtain ⟨h1,h2⟩:=QcD A.tree (A.wok hw) hw hs
 have key:∀ (c:Prop) [Decidable c],(if c then 1 else 0)<=1:=fun c _=>by split<;>lia
 unfold lvs
 rcases h2 with h2 | ⟨h2,q,h3,h4,h5⟩
 ·rw [kU g h2]
  by_cases c:w.O4=0
  ·rw [C8 (c:=w.O4=0/\w.O7=false) ⟨c,hw⟩]
   have:=key (w'.O4=0/\w'.O7=false)
   lia
  ·rw [C7 (c:=w'.O4=0/\w'.O7=false) (fun z=>by have:=h1 (by lia);lia)];lia
 ·rw [kT g h2 h3,C7 (c:=w'.O4=0/\w'.O7=false) (fun z=>by lia)]
  by_cases c:w.O4=0
  ·rw [C8 (c:=w.O4=0/\w.O7=false) ⟨c,hw⟩]
   have:=key (q.lv=0)
   lia
  ·rw [C7 (c:=q.lv=0) (by lia)];lia
theorem Steps.leaves {m:Nat} (h:Steps m S w S' w'):∀ {bg F},Al S bg F w->lvs S' w'<=lvs S w:=by
  induction h with
  | nil S w=>intro bg F A;exact Ae _
  | cons hw hs _ ih =>
    intro bg F A
    obtain ⟨r,S',w',bg',F',s1,A',g1,_⟩:=A.step hw
    rw [hs] at s1;cases s1
    exact Bj (ih A') (A.leaves hw hs g1)
theorem zr:∀ {l m:List Nat},l.Nodup->(∀ x∈l,x∈m)->l.length<=m.length
  | [],m,_,_=>Be _
  | x::l,m,h,hs=>by
    obtain ⟨h1,h2⟩:=Cu.mp h
    have hx:=hs x (by simp)
    have:=zr (l:=l) (m:=m.erase x) h2 fun y hy=>by
      have ne:y≠x:=fun e=>h1 (e▸hy)
      exact (List.mem_erase_of_ne ne).mpr (hs y (Ax _ hy))
    rw [List.length_erase_of_mem hx] at this
    have:=List.length_pos_of_mem hx
    rw [Ba];lia
def xC (S:Sh) (n j:Nat):Nat:=match S.pg[n]? with
 | some p=>(p.ps.getD j 0).toNat
 | none=>0
theorem Ku (T:Tree S bg) (K:Fk S) (hn:S.pg[n]?=some p) (hl:0 < p.lv) {j:Nat} (hj:j < 2):∃ q,S.pg[xC S n j]?=some q/\q.lv+1=p.lv/\bg (xC S n j)=Z7 (bg n) p.ks j:=by
 have pl:=(T.page n p hn).parts
 rw [C7 (by lia)] at pl
 have k1:=K n p hn hl
 obtain ⟨c,q,a1,a2,a3,a4⟩:=T.kid n p hn hl j _ (Ab (by lia:j < p.ps.length))
 have e:xC S n j=c:=by
  unfold xC;rw [hn]
  show (p.ps.getD j 0).toNat=c
  rw [List.getD_eq_getElem?_getD,Ab (by lia:j < p.ps.length),a1];rfl
 rw [e];exact ⟨q,a2,a3,a4⟩
theorem vj (T:Tree S bg) (K:Fk S) (hn:S.pg[n]?=some p) (hl:0 < p.lv) {j:Nat} (hj:j < 2):leBB (bg n) (Z7 (bg n) p.ks j)/\∀ h v,p.hi=some h->Z7 (bg n) p.ks j=some v->v < h:=by
  have ok:=T.page n p hn
  have k1:=K n p hn hl
  cases j with
  | zero=>exact ⟨leBB.refl _,fun h v h1 h2=>ok.wide h h1 v h2⟩
  | succ i =>
    have e:i=0:=by lia
    subst e
    have g:Z7 (bg n) p.ks (0+1)=some p.ks[0]:=Ab (l:=p.ks) (i:=0) k1
    have m:p.ks[0]∈p.ks:=B9 _
    rw [g]
    exact ⟨fun v hv=>⟨_,rfl,ok.low _ m v hv⟩,fun h v h1 h2=>by cases h2;exact ok.high _ m h h1⟩
theorem Qbb (T:Tree S bg) (K:Fk S) (l:Nat):2 * JZ S (l+1)<=JZ S l:=by
 let L:=(List.range S.pg.length).filter (lvB S fun x=>decide (x=l+1))
 have inL:∀ n∈L,∃ p,S.pg[n]?=some p/\p.lv=l+1:=fun n hn=>by
  obtain ⟨h1,h2⟩:=Bm.mp hn
  have h1:=Ch.mp h1
  unfold lvB at h2
  rw [Ab h1] at h2
  exact ⟨_,Ab h1,by simpa using h2⟩
 have nd:L.Nodup:=List.nodup_range.filter _
 have key:∀ n m i j,n∈L->m∈L->i < 2->j < 2->xC S n i=xC S m j->n=m/\i=j:=fun n m i j hn hm hi hj e=>by
  obtain ⟨p,a1,a2⟩:=inL n hn
  obtain ⟨q,b1,b2⟩:=inL m hm
  obtain ⟨_,_,_,c3⟩:=Ku T K a1 (by lia) hi
  obtain ⟨_,_,_,d3⟩:=Ku T K b1 (by lia) hj
  rw [e,d3] at c3
  obtain ⟨x1,x2⟩:=vj T K a1 (by lia) hi
  obtain ⟨y1,y2⟩:=vj T K b1 (by lia) hj
  have nm:n=m:=by
   rcases Nat.decEq n m with h | h
   ·exfalso
    rcases T.dis n m p q a1 b1 (by lia) h with ⟨u,v,e1,e2,e3⟩ | ⟨u,v,e1,e2,e3⟩
    ·obtain ⟨z,z1,z2⟩:=y1 v e2
     have:=x2 u z e1 (c3.symm.trans z1);lia
    ·obtain ⟨z,z1,z2⟩:=x1 v e2
     have:=y2 u z e1 (c3.trans z1);lia
   ·exact h
  subst nm
  rw [a1] at b1;cases b1
  refine ⟨rfl,?_⟩
  have ok:=T.page n p a1
  have k1:=K n p a1 (by lia)
  have l0:=ok.lowF (by lia) p.ks[0] (B9 (by lia))
  have ne:bg n≠p.ks[0]?:=fun z=>by
   rw [Ab (by lia)] at z
   have:=l0 _ z;lia
  match i,j,hi,hj with
  | 0,0,_,_=>rfl
  | 1,1,_,_=>rfl
  | 0,1,_,_=>exact absurd c3.symm ne
  | 1,0,_,_=>exact absurd c3 ne
 let M:=L.flatMap fun n=>[xC S n 0,xC S n 1]
 have ndM:M.Nodup:=by
  show List.Pairwise (· ≠ ·) _
  rw [List.pairwise_flatMap]
  refine ⟨fun n hn=>?_,?_⟩
  ·refine Cp.mpr ⟨fun x hx=>?_,List.pairwise_singleton _ _⟩
   rw [Ar] at hx
   subst hx
   intro e
   have:=(key n n 0 1 hn hn (by lia) (by lia) e).2
   lia
  ·refine List.Pairwise.imp_of_mem (R:=(· ≠ ·)) (fun {a b} ha hb ne x hx y hy e=>?_) nd
   subst e
   simp only [Bk,Cf,or_false] at hx hy
   rcases hx with rfl | rfl<;>rcases hy with hy | hy
   ·exact ne (key a b 0 0 ha hb (by lia) (by lia) hy).1
   ·exact ne (key a b 0 1 ha hb (by lia) (by lia) hy).1
   ·exact ne (key a b 1 0 ha hb (by lia) (by lia) hy).1
   ·exact ne (key a b 1 1 ha hb (by lia) (by lia) hy).1
 have sub:∀ x∈M,x∈(List.range S.pg.length).filter (lvB S fun y=>decide (y=l)):=fun x hx=>by
  obtain ⟨n,hn,hx⟩:=List.mem_flatMap.mp hx
  obtain ⟨p,a1,a2⟩:=inL n hn
  simp only [Bk,Cf,or_false] at hx
  rcases hx with rfl | rfl
  ·obtain ⟨q,c1,c2,_⟩:=Ku T K a1 (by lia) (show 0 < 2 by lia)
   exact yS c1 (by lia)
  ·obtain ⟨q,c1,c2,_⟩:=Ku T K a1 (by lia) (show 1 < 2 by lia)
   exact yS c1 (by lia)
 have len:=zr ndM sub
 have lm:M.length=2 * L.length:=by
  show (L.flatMap _).length=_
  generalize L=L'
  induction L' with
  | nil=>rfl
  | cons x t ih=>rw [List.flatMap_cons,An,ih,Ba];simp;lia
 unfold JZ
 show 2 * L.length<=_
 lia
theorem QbW (T:Tree S bg) (K:Fk S):S.pg.length<=2 * JZ S 0:=by
  obtain ⟨r,r1,r2⟩:=T.root
  have a:=jZ (S:=S) (L:=r.lv) r2
  have key:∀ k,((List.range S.pg.length).filter (lvB S fun x=>decide (x < k))).length+2 * JZ S k<=2 * JZ S 0:=by
    intro k
    induction k with
    | zero=>rw [yA];lia
    | succ k ih =>
      have:=Qbb T K k
      rw [XU]
      unfold JZ at *
      lia
  have:=key (r.lv+1)
  lia
end
end TR
namespace D
open PySem PySem.Spec PyProof.Rows L2
section
variable {prog:Program} {w:World} {A:Around} {E:Eg} {s:Shared}
end
section
variable {prog:Program} {w:World} {K:Type} [DecidableEq K] {knd:KeyKind prog w K} {A:Around} {R:Result->Shared->Prop}
end
section
variable {prog:Program} {w:World} {K:Type} [DecidableEq K] {knd:KeyKind prog w K} {A:Around} {E:Eg} {s:Shared}
end
section
variable {X:Cx}
def lsG:DV->M (List DV)
  | .lst ds=>pure ds
  | .ref n=>do
    match <- ZE n with
    | .lst ds=>pure ds
    | _=>failure
  | _=>failure
theorem qY {U hp':Hs} {K:Aa} {v:V} (W:WOk K ρ B U H) (r:RepV K ρ B H d v) (h:lsG d U=some (ds,hp')):U=hp'/\∃ p xs,v=.ref p/\SqL K H p xs/\RepL K ρ B H ds xs:=by
  cases d with
  | lst xs =>
    obtain ⟨rfl,rfl⟩:=Qh h
    obtain ⟨a,ys,rfl,_,sq,l⟩:=r.lstI
    exact ⟨rfl,a,ys,rfl,sq,l⟩
  | ref n =>
    obtain ⟨o,hp1,e1,e2⟩:=Qe (show (ZE n >>= fun o=>(match o with | .lst ds=>pure ds | _=>failure:M (List DV))) U=some (ds,hp') from h)
    obtain ⟨e3,rfl⟩:=Zx e1
    cases o with
    | lst zs =>
      obtain ⟨rfl,rfl⟩:=Qh e2
      obtain ⟨a,rfl,_,ys,h1,l1⟩:=RepV.refW W r e3
      exact ⟨rfl,a,ys,rfl,SqL.of h1,l1⟩
    | dic _=>cases e2
    | ins _ _=>cases e2
  | non=>cases h
  | bl _=>cases h
  | int _=>cases h
  | str _=>cases h
  | tup _=>cases h
end
end D
namespace L2
open PySem PySem.Spec PyProof.Rows
theorem uS:typeLookup (.type "zip") "__len__" = pure none:=am_miss_of_fast (by decide +kernel)
theorem vB:typeLookup (.type "zip") "__length_hint__" = pure none:=am_miss_of_fast (by decide +kernel)
section
variable {X:Cx} {O9:Eh} {σ:L2.St}
def uV (H0 H:Hp) (xs ys:List V) (ts:List V):Prop:=∀ (m:Nat) (t:V),ts[m]?=some t->∃ (a:Addr) (x y:V),t=.ref a/\xs[m]?=some x/\ys[m]?=some y/\H0 a=none/\H a=some (.tup [x,y])
theorem Qes {A:Around} {R:Result->Shared->Prop} {H0:Hp} {z p o i j a b S:Addr} {res:Value} (hh:A.handled=none) (D:ZA z p o i j a b) (qa:SqT X.K H0 a xs) (qb:SqT X.K H0 b ys) (hS0:H0 S=none) (hSz:S∉[z,p,o,i,j]):
    ∀ (k n : Nat) (s : Shared) (H : Hp) (ts : List V), min xs.length ys.length - n = k -> n <= min xs.length ys.length -> Inv X O9 σ H s -> (∀ c ∈ [z, p, o, i, j], xU X O9 H c) -> ZU s.heap z p o i j a b n -> (∀ c q, H0 c = some q -> H c = some q) ->
      H S=some (.lst ts)->ts.length=n->uV H0 H xs ys ts ->
      (∀ (s':Shared) (H':Hp) (ts':List V),Inv X O9 σ H' s'->(∀ c q,H0 c=some q->H' c=some q)->H' S=some (.lst ts')->ts'.length=min xs.length ys.length->uV H0 H' xs ys ts'->R (.ok (.ret res)) s') ->
    codeAny (model X.prog X.w) A (.builtin "list.extend.loop" ⟨[.ref S,.ref z,res],[]⟩) R s:=by
  intro k
  induction k with
  | zero =>
    intro n s H ts hk hn I hf Z kp hS hl hP hR
    have sq:∀ {c:Addr} {vs:List V},SqT X.K H0 c vs->SqT X.K H c vs:=fun {c vs} q=>by
      rcases q with q | q
      . exact .inl (by rcases q with q | ⟨oo,q⟩;exact .inl (kp _ _ q);exact .inr ⟨oo,kp _ _ q⟩)
      . exact .inr q
    obtain ⟨ia,ra,pa,_⟩:=I.tuple (sq qa)
    obtain ⟨ib,rb,pb,_⟩:=I.tuple (sq qb)
    have l1:=ra.length
    have l2:=rb.length
    obtain ⟨f0,fl0,zz0,hf0⟩:=Z.zz
    have hT:s.TypeIs (.ref z) "zip" := ⟨_,zz0,rfl⟩
    refine codeAny_builtin F.entry_extend_loop ?_
    rw [Around.under_plainId F.plain_extend_loop _]
    show wpAny _ A.in1 (pyNext (.ref z) >>= _) _ _ s
    refine C6 ?_
    unfold pyNext
    refine C6 (wpAny_attempt (wpAny_callSpecial?_slot (name:=Str.ofString "__next__") hT F.slot_zip_next (wpAny_call_entry F.slot_zip_next hT F.entry_zip_next
      (kH (by exact hh) D Z (show s.heap.IsTuple a ia.toArray from pa) (show s.heap.IsTuple b ib.toArray from pb) (by rcases Nat.le_total xs.length ys.length with q | q;exact .inl (by simp;lia);exact .inr (by simp;lia)) fun g x kp' hx=>?_) (F.args_zip_next_1 _))))
    obtain ⟨ox,h1,h2⟩:=hx
    refine C6 (wpAny_isInstance (T := "StopIteration") (b:=true) ⟨ox,h1,h2⟩ isSubtype_stop ?_)
    refine C9 ?_
    refine C9 (hR _ H ts (I.turnL (t':=s.toks) hf fun c q hc e=>?_) kp hS (by lia) hP)
    simp only [Bk,Cf,or_false,not_or] at hc
    exact kp' c q hc.1 hc.2.2.1 hc.2.2.2.1 hc.2.2.2.2 e
  | succ k ih =>
    intro n s H ts hk hn I hf Z kp hS hl hP hR
    have sq:∀ {c:Addr} {vs:List V},SqT X.K H0 c vs->SqT X.K H c vs:=fun {c vs} q=>by
      rcases q with q | q
      . exact .inl (by rcases q with q | ⟨oo,q⟩;exact .inl (kp _ _ q);exact .inr ⟨oo,kp _ _ q⟩)
      . exact .inr q
    obtain ⟨ia,ra,pa,za⟩:=I.tuple (sq qa)
    obtain ⟨ib,rb,pb,_⟩:=I.tuple (sq qb)
    have hx:xs[n]?=some xs[n]:=Ab (by lia)
    have hy:ys[n]?=some ys[n]:=Ab (by lia)
    obtain ⟨u,hu,ru⟩:=ra.get hx
    obtain ⟨v,hv,rv⟩:=rb.get hy
    obtain ⟨f0,fl0,zz0,hf0⟩:=Z.zz
    have hT:s.TypeIs (.ref z) "zip" := ⟨_,zz0,rfl⟩
    refine codeAny_builtin F.entry_extend_loop ?_
    rw [Around.under_plainId F.plain_extend_loop _]
    show wpAny _ A.in1 (pyNext (.ref z) >>= _) _ _ s
    refine C6 ?_
    unfold pyNext
    refine C6 (wpAny_attempt (wpAny_callSpecial?_slot (name:=Str.ofString "__next__") hT F.slot_zip_next (wpAny_call_entry F.slot_zip_next hT F.entry_zip_next
      (kG D Z (show s.heap.IsTuple a ia.toArray from pa) (show s.heap.IsTuple b ib.toArray from pb) (by simpa using hu) (by simpa using hv) fun g' S' tp sz kp0=>C9 ?_) (F.args_zip_next_1 _))))
    have kp':∀ c q,c∉[z,p,o,i,j]->s.heap.get? c=some q->g'.get? c=some q:=fun c q hc e=>by
      simp only [Bk,Cf,or_false,not_or] at hc
      exact kp0 c q hc.1 hc.2.2.1 hc.2.2.2.1 hc.2.2.2.2 e
    have ne:∀ c∈[z,p,o,i,j],c≠s.heap.objs.size:=fun c hc e=>by
      obtain ⟨_,pp,⟨u1,u2,oo⟩,⟨oi,ei,_⟩,⟨oj,ej,_⟩⟩:=Z
      simp only [Bk,Cf,or_false] at hc
      rcases hc with rfl | rfl | rfl | rfl | rfl
      . exact Bf (Ap zz0) e
      . exact Bf (Ap pp) e
      . exact Bf (Ap oo) e
      . exact Bf (Ap ei) e
      . exact Bf (Ap ej) e
    have fr:=I.fresh
    have I1:=I.turnNew (t':=s.toks) hf kp' (us:=[u,v]) (.cons ru (.cons rv .nil)) (show 2<=sizeLine by decide) ⟨_,tp,rfl,_,rfl⟩
    have hSs:S≠s.heap.objs.size:=fun e=>by rw [e,fr] at hS;cases hS
    have hS1:upd H s.heap.objs.size (.tup [xs[n],ys[n]]) S=some (.lst ts):=by rw [QI hSs];exact hS
    obtain ⟨zl,its,c,vl,ll,e1⟩:=I1.lstM hS1
    have hz':(ts++[V.ref s.heap.objs.size]).length<=sizeLine:=by rw [An];simp;lia
    have I2:=I1.lset (t':=s.toks) (its':=its++[.ref s.heap.objs.size]) (f:=(·.push (.ref s.heap.objs.size))) hS1 e1 (by simp) (vl.append (.cons (show RelV (V.ref s.heap.objs.size) (Value.ref s.heap.objs.size) from rfl) .nil)) hz'
    show wpAny _ A.in1 (updateSeq S (·.push (.ref s.heap.objs.size)) >>= _) _ _ _
    refine C6 ?_
    refine wpAny_updateSeq (s:={ s with heap:=g' }) e1 rfl (C9 ⟨plainId_quiet F.plain_extend_loop _,ih (n+1) _ _ (ts++[.ref s.heap.objs.size]) (by lia) (by lia) I2 (fun c hc=>?_) (S'.at fun c hc q e=>?_) (fun c q e=>?_) Q3 (by rw [An];simp;lia) ?_ hR⟩) (by simp;lia) (by simp;lia)
    . have f:=hf c hc
      refine ⟨?_,f.2⟩
      rw [QI (show c≠S from fun e=>hSz (e▸hc)),QI (ne c hc)];exact f.1
    . exact (Heap.get?_update_other _ _ (fun h:S=c=>hSz (h▸hc))).trans e
    . rw [QI (fun z=>by rw [z,hS0] at e;cases e),QI (fun z=>by have:=kp c q e;rw [z,fr] at this;cases this)];exact kp c q e
    . intro m t ht
      by_cases hm:m < ts.length
      . rw [Ah hm] at ht
        obtain ⟨aa,x,y,r1,r2,r3,r4,r5⟩:=hP m t ht
        refine ⟨aa,x,y,r1,r2,r3,r4,?_⟩
        rw [QI (fun z=>by rw [z,hS] at r5;cases r5),QI (fun z=>by rw [z,fr] at r5;cases r5)];exact r5
      . rw [Aq (by lia)] at ht
        have m0:m - ts.length=0:=by have:=(Ac.mp ht).1;simp at this;lia
        rw [m0] at ht
        cases ht
        have mn:m=n:=by lia
        subst mn
        refine ⟨_,_,_,rfl,hx,hy,?_,?_⟩
        . cases q:H0 s.heap.objs.size with
          | none=>rfl
          | some w=>rw [kp _ _ q] at fr;cases fr
        . rw [QI (Ne.symm hSs),Q3]
theorem Qer {s:Shared} {E:Eg} {Q:Eg} {z p o i j a b:Addr} {xs ys:List V} (I:Inv X O9 σ H s) (hc:X.calm=true) (D:ZA z p o i j a b) (Z:ZU s.heap z p o i j a b 0) (hf:∀ c∈[z,p,o,i,j],xU X O9 H c)
  (qa:SqT X.K H a xs) (qb:SqT X.K H b ys) (q:∀ (s':Shared) (H':Hp) (ts:List V),Inv X O9 σ H' s'->(∀ c q,H c=some q->H' c=some q)->H' s.heap.objs.size=some (.lst ts)->ts.length=min xs.length ys.length->uV H H' xs ys ts->Q (.ref s.heap.objs.size) s') :
  wpAny (model X.prog X.w) X.A (call (.type "list") [.ref z]) Q E s:=by
 have hh:=I.ok.hd hc
 have lts:∀ c∈[z,p,o,i,j],c < s.heap.objs.size:=fun c hc=>by
  obtain ⟨⟨f0,fl0,zz0,hf0⟩,pp,⟨u1,u2,oo⟩,⟨oi,ei,_⟩,⟨oj,ej,_⟩⟩:=Z
  simp only [Bk,Cf,or_false] at hc
  rcases hc with rfl | rfl | rfl | rfl | rfl
  ·exact Ap zz0
  ·exact Ap pp
  ·exact Ap oo
  ·exact Ap ei
  ·exact Ap ej
 refine callType_codes (Q₁:=fun obj s₁=>obj=.ref s.heap.objs.size/\s₁={ s with heap:=s.heap.push { cls:=.type "list", data:=.seq #[] } }) F.called_list (F.typeCall_list_1 _) F.entry_list_init
  (code_list_new _ ⟨rfl,rfl⟩) fun obj s₁ h₁=>?_
 obtain ⟨rfl,rfl⟩:=h₁
 have hS:(s.heap.push { cls:=.type "list", data:=.seq #[] }).get? s.heap.objs.size=some { cls:=.type "list", data:=.seq #[] }:=Av _ rfl
 refine ⟨⟨_,hS,rfl⟩,F.args_list_init_2 _ _,?_⟩
 show wpAny _ _ (do let old <- Builtin.List.listItems (.ref s.heap.objs.size);Builtin.List.listUpdate (.ref s.heap.objs.size) (fun _=>#[]);letGo old.toList.reverse;Builtin.List.listExtendWith (.ref s.heap.objs.size) (.ref z) .none) _ _ _
 refine C6 ?_
 unfold Builtin.List.listItems
 refine C6 (wpAny_seqItems hS rfl (C9 ?_))
 show wpAny _ _ (updateSeq s.heap.objs.size (fun _=>#[]) >>= fun _=>letGo (#[]:Array Value).toList.reverse >>= fun _=>Builtin.List.listExtendWith (.ref s.heap.objs.size) (.ref z) .none) _ _ _
 refine C6 (wpAny_updateSeq hS rfl ?_)
 have hS₁:=Heap.get?_update_self (Obj.mapSeq (fun _=>(#[]:Array Value))) hS rfl
 refine C6 (wpAny_letGo ?_)
 have zne:z≠s.heap.objs.size:=Bf (lts z (by simp))
 obtain ⟨f0,fl0,zz0,hf0⟩:=Z.zz
 have zz1:((s.heap.push { cls:=.type "list", data:=.seq #[] }).update s.heap.objs.size (Obj.mapSeq fun _=>(#[]:Array Value))).get? z=_:=(Heap.get?_update_other _ _ (Ne.symm zne)).trans (Ad _ zz0)
 have hT:∀ (s':Shared),s'.heap=(s.heap.push { cls:=.type "list", data:=.seq #[] }).update s.heap.objs.size (Obj.mapSeq fun _=>(#[]:Array Value))->s'.TypeIs (.ref z) "zip" := fun s' e=>⟨_,by rw [e];exact zz1,rfl⟩
 unfold Builtin.List.listExtendWith
 refine C6 (wpAny_typeOf (hT _ rfl) ?_)
 have h1:Builtin.List.listSameRef (.ref s.heap.objs.size) (.ref z)=false:=by simp [Builtin.List.listSameRef,Ne.symm zne]
 have h2:(Value.type "zip" == Value.type "list")=false:=by decide
 have h3:(Value.type "zip" == Value.type "tuple")=false:=by decide
 simp only [h1,h2,h3,Bool.or_false,Az,if_false]
 refine C6 (wpAny_pyIter_slot (hT _ rfl) F.slot_zip_iter (wpAny_call_entry F.slot_zip_iter (hT _ rfl) F.entry_zip_iter (C9 ⟨_,rfl, "zip", _,hT _ rfl,(F.slot_zip_next).1,?_⟩) (F.args_zip_iter_1 _)))
 refine C6 (wpAny_holding ?_)
 unfold Builtin.List.listLengthHint
 refine C6 (wpAny_specialOf (hT _ rfl) uS ?_)
 show wpAny _ _ (specialOf (Value.ref z) (Str.ofString "__length_hint__") >>= _) _ _ _
 refine C6 (wpAny_specialOf (hT _ rfl) vB ?_)
 refine C9 ?_
 show wpAny _ _ (rule "list.extend.makes-room" >>= fun _=>Builtin.List.listTouch (.ref s.heap.objs.size) >>= fun _ =>
  again (.builtin "list.extend.loop" ⟨[.ref s.heap.objs.size,.ref z,.none],[]⟩)) _ _ _
 refine C6 (wpAny_rule ?_)
 refine C6 ?_
 show wpAny _ _ (updateSeq s.heap.objs.size (·.push .none) >>= fun _=>updateSeq s.heap.objs.size (·.pop)) _ _ _
 refine C6 (wpAny_updateSeq hS₁ rfl ?_)
 have hS₂:=Heap.get?_update_self (Obj.mapSeq (·.push Value.none)) hS₁ rfl
 refine wpAny_updateSeq (hz:=by seq_fits) hS₂ rfl ?_
 have hS₃:=Heap.get?_update_self (Obj.mapSeq (·.pop)) hS₂ rfl
 have kept:∀ c u,s.heap.get? c=some u->((((s.heap.push { cls:=.type "list", data:=.seq #[] }).update s.heap.objs.size (Obj.mapSeq fun _=>(#[]:Array Value))).update s.heap.objs.size (Obj.mapSeq (·.push Value.none))).update s.heap.objs.size (Obj.mapSeq (·.pop))).get? c=some u:=fun c u e=>by
  have ne:s.heap.objs.size≠c:=Ne.symm (Bf (Ap e))
  exact (Heap.get?_update_other _ _ ne).trans ((Heap.get?_update_other _ _ ne).trans ((Heap.get?_update_other _ _ ne).trans (Ad _ e)))
 have I3:=I.laid (a:=s.heap.objs.size) (o:=.lst []) (t':=s.toks) kept (Ae _) ⟨by simp,[],_,.nil,hS₃⟩
 refine C9 ⟨plainId_quiet F.plain_extend_loop _,Qes (H0:=H) (by exact hh) D qa qb I.fresh (fun hm=>Cv _ (lts _ hm)) _ 0 _ _ [] rfl (Be _) I3 (fun c hc=>?_) (Z.at fun c hc u e=>kept c u e) (fun c u e=>?_) Q3 rfl (fun m t ht=>by simp at ht) fun s' H' ts' J k1 k2 k3 k4=>⟨rfl,q s' H' ts' J k1 k2 k3 k4⟩⟩
 ·have f:=hf c hc
  refine ⟨?_,f.2⟩
  rw [QI (Bf (lts c hc))];exact f.1
 ·rw [QI (fun z=>by rw [z,I.fresh] at e;cases e)];exact e
end
section
variable {X:Cx}
theorem QdI {p p' pos pos':Pos} (hgl:Gl X "list") (hml:X.mg "list" = none) (hg:Gl X "zip") (hm:X.mg "zip" = none) (hc:X.calm=true) (ha:PA X [x,y] ta)
    (hs:starEach [x,y] X.env=[(false,eval x X.env),(false,eval y X.env)]:=by rfl) (hs2:starEach [y] X.env=[(false,eval y X.env)]:=by rfl) (hs3:starEach [.Call (.Name "zip" p') [x,y] [] pos'] X.env=[(false,eval (.Call (.Name "zip" p') [x,y] [] pos') X.env)]:=by rfl) :
    PE X (.Call (.Name "list" p) [.Call (.Name "zip" p') [x,y] [] pos'] [] pos) (fun σ H Q=>ta σ H fun vs H1=>∃ a b xs ys,vs=[.ref a,.ref b]/\SqT X.K H1 a xs/\SqT X.K H1 b ys /\
      ∀ (l:Addr) (H':Hp) (ts:List V),H1 l=none->(∀ c q,H1 c=some q->H' c=some q)->H' l=some (.lst ts)->ts.length=min xs.length ys.length->uV H1 H' xs ys ts->Q (.ref l) H'):=by
  intro O9 s σ H Q I h
  refine wpAny_Call_Name_kw (qO I hgl hml boot_list ?_)
  refine PyProof.Rows.callWith_type1 ?_ hs3 rfl
  rw [hs3]
  show wpAny _ _ (spliced ((false,eval (.Call (.Name "zip" p') [x,y] [] pos') X.env)::[])) _ _ s
  refine Calls.spliced_cons (Call_ (qO I hg hm boot_zip (PyProof.Rows.callWith_type1 (thn (ha pos' O9 s σ H _ I h) fun us s1 ⟨vs,H1,I1,r1,q1⟩=>?_) (by rw [hs,hs2]) (by rw [hs2];rfl))))
  obtain ⟨a,b,xs,ys,e,qa,qb,q⟩:=q1
  subst e
  cases r1 with
  | cons r rr =>
    cases rr with
    | cons r' rr =>
      cases rr
      cases r
      cases r'
      refine QcT I1 qa qb fun s2 z pp o i j I2 D Z hf=>Calls.spliced_nil ?_
      refine Qer I2 hc D Z hf qa qb fun s3 H3 ts I3 k1 k2 k3 k4=>⟨.ref s2.heap.objs.size,H3,I3,rfl,q _ H3 ts I2.fresh k1 k2 k3 k4⟩
end
end L2
namespace D
open PySem PySem.Spec PyProof.Rows L2
theorem RepL.of_get {K:Aa}:∀ {ds:List DV} {ts:List V},ds.length=ts.length->(∀ (m:Nat) (d:DV) (t:V),ds[m]?=some d->ts[m]?=some t->RepV K ρ B H d t)->RepL K ρ B H ds ts
  | [],[],_,_=>by unfold RepL;rfl
  | [],_::_,h,_=>by cases h
  | _::_,[],h,_=>by cases h
  | d::ds,t::ts,h,f=>by
    unfold RepL
    exact ⟨t,ts,rfl,f 0 d t rfl rfl,RepL.of_get (Nat.succ.inj h) fun m x y h1 h2=>f (m+1) x y h1 h2⟩
theorem Gr.more {K:Aa} {H H':Hp} (kp:∀ c q,H c=some q->H' c=some q):Gr K ρ B H ρ B H' :=
 ⟨Cm,fun _ h=>h,fun _ h=>.inl h,fun _ z=>.inl z,fun a o _ h=>kp a o h,fun a q=>by
  cases e:H a with
  | none=>rfl
  | some o=>rw [kp a o e] at q;cases q⟩
theorem WOk.more {K:Aa} {H H':Hp} (W:WOk K ρ B U H) (kp:∀ c q,H c=some q->H' c=some q):WOk K ρ B U H' where
 len:=W.len
 nd:=W.nd
 obj:=fun i a u e q=>by
  refine ORep.gs ((Gr.more kp).gs W.rb) ?_ (W.obj i a u e q)
  have:=W.bt a (W.rb a (Aw e))
  cases z:H a with
  | none=>exact absurd z this
  | some o=>exact kp a o z
 rb:=W.rb
 bt:=fun a h z=>by
  have:=W.bt a h
  cases y:H a with
  | none=>exact this y
  | some o=>rw [kp a o y] at z;cases z
 bk:=W.bk
section
variable {X:Cx} {f g:DEx}
def GC (f g:DEx):DEx:=fun env=>do
 let ds <- v7 f g env
 pure (.lst ds)
theorem Qc5 {p p' pos pos':Pos} (hml:X.mg "list" = none) (hm:X.mg "zip" = none) (hc:X.calm=true) (hx:DE X x f) (hy:DE X y g) (hgl:Gl X "list" := by rfl) (hg:Gl X "zip" := by rfl)
  (hs:starEach [x,y] X.env=[(false,eval x X.env),(false,eval y X.env)]:=by rfl) (hs2:starEach [y] X.env=[(false,eval y X.env)]:=by rfl) (hs3:starEach [.Call (.Name "zip" p') [x,y] [] pos'] X.env=[(false,eval (.Call (.Name "zip" p') [x,y] [] pos') X.env)]:=by rfl) :
  DE X (.Call (.Name "list" p) [.Call (.Name "zip" p') [x,y] [] pos'] [] pos) (GC f g) :=
 L2.PE.imp (QdI hgl hml hg hm hc (JJ hx (JJ hy pa_nil (by rw [hs2];rfl)) (by rw [hs,hs2])) hs hs2 hs3) fun σ H Q zz1=>by
  obtain ⟨Z,env,ρ,B,U,d,hp',S,e,k⟩:=zz1
  obtain ⟨ds,hp0,e0,e⟩:=Qe e
  obtain ⟨rfl,rfl⟩:=Qh e
  obtain ⟨d1,hp1,e1,e0⟩:=Qe e0
  obtain ⟨xs,hp2,e2,e0⟩:=Qe e0
  obtain ⟨rfl,rfl⟩:=XW e2
  obtain ⟨d2,hp3,e3,e0⟩:=Qe e0
  obtain ⟨ys,hp4,e4,e0⟩:=Qe e0
  obtain ⟨rfl,rfl⟩:=XW e4
  obtain ⟨rfl,rfl⟩:=Qh e0
  refine tD.run S e1 fun v ρ1 B1 H1 g1 S1 r1=>tD.run S1 e3 fun u ρ2 B2 H2 g2 S2 r2=>?_
  obtain ⟨a,vs,rfl,na,qa,la⟩:=(RepV.grow S1.wo.rb g2 _ _ r1).tupI
  obtain ⟨b,us,rfl,nb,qb,lb⟩:=r2.tupI
  refine ⟨a,b,vs,us,rfl,qa,qb,fun l H' ts hn kp hl len pr=>?_⟩
  have g3:Gr X.K ρ2 B2 H2 ρ2 B2 H':=Gr.more kp
  refine k _ ρ2 B2 H' ((g1.trans g2).trans g3) (S2.wo.more kp) ?_
  unfold RepV
  refine ⟨l,ts,rfl,fun z=>S2.wo.bt l z hn,SqL.of hl,RepL.of_get (by rw [VP,la.length,lb.length];exact len.symm) fun m d t h1 h2=>?_⟩
  obtain ⟨x',y',q1,q2,rfl⟩:=VO h1
  obtain ⟨u',hu,ru⟩:=la.get q1
  obtain ⟨v',hv,rv⟩:=lb.get q2
  obtain ⟨aa,x2,y2,rfl,p1,p2,p3,p4⟩:=pr m t h2
  rw [hu] at p1;cases p1
  rw [hv] at p2;cases p2
  exact Ye (fun z=>S2.wo.bt aa z p3) (SqT.of p4) (RepL.gs (g3.gs S2.wo.rb) _ _ (RepL.cons ru (RepL.one rv)))
end
section
variable {X:Cx} {e:Expr} {f:DEx} {pos:Pos}
def QcX (x y:DV):M DV:=do
 let xs <- lsG x
 let ys <- lsG y
 Qx (YT (xs++ys))
 pure (.lst (xs++ys))
theorem QfB:P2 X (binaryOp .Add) QcX:=by
 intro O9 s σ H x y v u Q I rx ry h
 obtain ⟨ρ,B,U,dx,dy,d,hp',W,r1,r2,e,k⟩:=h
 obtain ⟨xs,hp1,e1,e⟩:=Qe e
 obtain ⟨ys,hp2,e2,e⟩:=Qe e
 obtain ⟨_,hp3,e3,e⟩:=Qe e
 obtain ⟨hs,rfl⟩:=QH e3
 obtain ⟨rfl,rfl⟩:=Qh e
 obtain ⟨rfl,a,vs,rfl,sa,la⟩:=qY W r1 e1
 obtain ⟨rfl,b,us,rfl,sb,lb⟩:=qY W r2 e2
 refine gY O9 s σ H _ _ v u Q I rx ry ⟨a,b,vs,us,rfl,rfl,sa,sb,?_,jm W (la.append lb) k⟩
 have:=Ed hs
 rw [An,la.length,lb.length] at this
 exact Bj this (by decide)
end
structure UF (K:Aa) (mg:Ei) (x:Str) (st:Stmt):Prop where
 ex:∃ g fd,Fun K x x st g fd/\mg x=some (.ref g)
structure UC (K:Aa) (c:Str):Prop where
 ex:∀ C,ClsN K c C->Cls K C
structure UM (K:Aa) (c m q:Str) (st:Stmt):Prop where
 ex:∃ C g fd,Fun K m q st g fd/\ClsN K c C/\Cls K C/\vD K C m g
structure UI (K:Aa) (mg:Ei) (c q:Str) (st:Stmt):Prop where
 ex:∃ C g fd,Fun K "__init__" q st g fd/\ClsN K c C/\mg c=some (.ref C)/\Mk K C g
structure UG (mg:Ei) (x:Str) (i:Int):Prop where
 ex:∃ t,mg x=some (.int i t)
structure UT (K:Aa) (mg:Ei) (x:Str) (d:DV):Prop where
 ex:∃ a,mg x=some (.ref a)/\KRep K d (.ref a)
section
variable {K:Aa} {h:Heap} {mg:Ei} {f C:Addr} {x c m q:Str} {st:Stmt} {oc:Value} {od an:Option Addr} {osl:Array (Option Value)} {kV doc pm cdv ct:Value} {i:Int} {t:Tok} {d:DV} {a:Addr}
def uf (X:K.In h) (G:h.Ns mainGlobals mg) (n:PySem.W.nsIn K mainGlobals x=some (some (.ref f))) (l:K.lookup f=some ⟨oc,od,.func (PySem.W.fnOf x x (Jv st) (ZB st) (Qo st) .none kV doc pm an cdv ct),osl⟩) (e:PySem.W.codeIn K cdv x=true) (k:PySem.W.keepIn K (.ref f)=true):UF K mg x st:=⟨_,_,Kn l e k,PySem.W.mg_of X G n⟩
theorem uc (X:K.In h) (n:PySem.W.nsIn K mainGlobals c=some (some (.ref C))) (p:PySem.W.plainGet K C Str.empty=true) (e:PySem.W.hasDictIn K C=true) (o:PySem.W.plainOver K C=true) (s:PySem.W.findIn K (.ref C) "__setattr__" = some (some (.builtin "object.__setattr__"))):UC K c:=⟨fun C' n'=>by cases ClsN.uniq (show ClsN K c C from n) n';exact ⟨p,e,o,s⟩⟩
def um (X:K.In h) (u:UC K c) (n:PySem.W.nsIn K mainGlobals c=some (some (.ref C))) (a:PySem.W.findIn K (.ref C) m=some (some (.ref f))) (b:PySem.W.isFn K (.ref f)=true) (l:K.lookup f=some ⟨oc,od,.func (PySem.W.fnOf m q (Jv st) (ZB st) (Qo st) .none kV doc pm an cdv ct),osl⟩) (e:PySem.W.codeIn K cdv q=true) (k:PySem.W.keepIn K (.ref f)=true):UM K c m q st:=⟨_,_,_,Kn l e k,n,u.ex _ n,a,b,k⟩
def ui (X:K.In h) (G:h.Ns mainGlobals mg) (n:PySem.W.nsIn K mainGlobals c=some (some (.ref C))) (a:PySem.W.findIn K (.ref C) "__init__" = some (some (.ref f))) (b:PySem.W.isFn K (.ref f)=true) (l:K.lookup f=some ⟨oc,od,.func (PySem.W.fnOf "__init__" q (Jv st) (ZB st) (Qo st) .none kV doc pm an cdv ct),osl⟩) (e:PySem.W.codeIn K cdv q=true) (k:PySem.W.keepIn K (.ref f)=true) (v:PySem.W.makesIn K C=true) (z:PySem.W.keepIn K (.ref C)=true):UI K mg c q st:=⟨_,_,_,Kn l e k,n,PySem.W.mg_of X G n,v,a,b,z⟩
def uk (X:K.In h) (u:UC K c) (n:PySem.W.nsIn K mainGlobals c=some (some (.ref C))) (a:PySem.W.findIn K (.ref C) x=some none):Y2 K c x:=⟨C,n,u.ex _ n,a⟩
def ug (X:K.In h) (G:h.Ns mainGlobals mg) (n:PySem.W.nsIn K mainGlobals x=some (some (.int i t))):UG mg x i:=⟨_,PySem.W.mg_of X G n⟩
def ut (X:K.In h) (G:h.Ns mainGlobals mg) (n:PySem.W.nsIn K mainGlobals x=some (some (.ref a))) (r:KRep K d (.ref a)):UT K mg x d:=⟨_,PySem.W.mg_of X G n,r⟩
theorem Zd {N ps:List Str} {s:Scope} (h:(s.kind==.function&&!s.isCoroutine&&!s.isGenerator&&decide N.Nodup&&decide (N.take ps.length=ps)&&ps.all (fun x=>decide (s.names.lookup x=some .local)||decide (s.names.lookup x=some .cell))&&s.names.all fun y=>decide (y.2≠.free))=true):Qt N ps s:=by
 simp only [Bc,Cq,decide_eq_true_eq,List.all_eq_true,Bool.or_eq_true] at h
 obtain ⟨⟨⟨⟨⟨⟨a,b⟩,c⟩,d⟩,e⟩,f⟩,g⟩:=h
 refine ⟨?_,b,c,d,e,f,fun y hy=>by have:=g y hy;simpa using this⟩
 revert a;cases s.kind<;>first | (intro _;rfl) | (intro z;exact absurd z (by decide))
end
section
variable {P:Program} {w:World} {K:Aa} {mg:Ei} {O8:Heap} {x c m q:Str} {st:Stmt} {N ps:List Str} {k:Nat} {body:DSx}
def Bn (ps:List Str) (x q:Str) (st:Stmt):Prop:=∀ (kV doc pm:Value) (an:Option Addr) (cdv ct:Value) (us:List Value),us.length=ps.length->bindArgs (PySem.W.fnOf x q (Jv st) (ZB st) (Qo st) .none kV doc pm an cdv ct) ⟨us,[]⟩=pure (ps.zip us)
def Bd (P:Program) (w:World) (K:Aa) (mg:Ei) (O8:Heap) (N:List Str) (k:Nat) (q:Str) (st:Stmt) (body:DSx):Prop:=∀ (g:Addr) (cdv:Value) (A:Around) (outer:List Env) (s:Shared) (H:Hp) (E:XK),Room k (A.deeper (envOfC q (Qo st) s.heap.objs.size g cdv))->DSs (xZ CX0 P w K mg O8 N q (Qo st) g cdv A outer s H E).nox (ZB st) body
theorem hf (u:UF K mg x st) (Sc:Qt N ps (Qo st)) (h:Bd P w K mg O8 N k x st body) (hb:Bn ps x x st:=by intro _ _ _ _ _ _ us hl;rcases us with _ | ⟨_,_ | ⟨_,_ | ⟨_,_ | ⟨_,_ | ⟨_,_ | ⟨_,_⟩⟩⟩⟩⟩⟩<;>first | rfl | cases hl):Has P w K mg O8 x (k+1) ps.length (Q2 N.length body):=let ⟨_,_,F,hm⟩:=u.ex;Qe5 F Sc hm hb (h _)
theorem hM (u:UM K c m q st) (Sc:Qt N ps (Qo st)) (h:Bd P w K mg O8 N k q st body) (hb:Bn ps m q st:=by intro _ _ _ _ _ _ us hl;rcases us with _ | ⟨_,_ | ⟨_,_ | ⟨_,_ | ⟨_,_ | ⟨_,_ | ⟨_,_⟩⟩⟩⟩⟩⟩<;>first | rfl | cases hl):Xt P w K mg O8 c m (k+1) ps.length (Q2 N.length body):=let ⟨_,_,_,F,nc,cl,me⟩:=u.ex;QbQ nc cl me F Sc hb (h _)
theorem hI (u:UI K mg c q st) (Sc:Qt N ps (Qo st)) (h:Bd P w K mg O8 N k q st body) (hb:Bn ps "__init__" q st:=by intro _ _ _ _ _ _ us hl;rcases us with _ | ⟨_,_ | ⟨_,_ | ⟨_,_ | ⟨_,_ | ⟨_,_ | ⟨_,_⟩⟩⟩⟩⟩⟩<;>first | rfl | cases hl):QaV P w K mg O8 c (k+1) ps.length (Q2 N.length body):=let ⟨_,_,_,F,nc,hm,me⟩:=u.ex;QbA nc hm me F Sc hb (h _)
end
end D
namespace L2
open PySem PySem.Spec PyProof.Rows
def QaX (K:Aa) (a b:Addr):It :=
  ⟨fun i H=>∃ xs ys x y,SqL K H a xs/\SqL K H b ys/\xs[i]?=some x/\ys[i]?=some y,
   fun i H v H'=>∃ p x y,H p=none/\(∀ xs,SqL K H a xs->xs[i]?=some x)/\(∀ ys,SqL K H b ys->ys[i]?=some y)/\v=.ref p/\H'=upd H p (.tup [x,y]),
   fun i H=>∃ xs ys,SqL K H a xs/\SqL K H b ys/\(xs.length<=i∨ys.length<=i)⟩
structure ZL (h:Heap) (z p o i j a b:Addr) (n:Nat) (f:Value):Prop where
 zz:IsZip h z p o f
 pp:IsPair h p (.ref i) (.ref j)
 oo:∃ x y,IsPair h o x y
 ii:h.IsListIter i a n
 jj:h.IsListIter j b n
theorem ZL.at {h h':Heap} {z p o i j a b:Addr} {n:Nat} (S:ZL h z p o i j a b n f) (k:∀ c∈[z,p,o,i,j],∀ u,h.get? c=some u->h'.get? c=some u):ZL h' z p o i j a b n f:=by
 obtain ⟨zz,pp,⟨u1,u2,oo⟩,ii,jj⟩:=S
 exact ⟨k z (by simp) _ zz,k p (by simp) _ pp,⟨u1,u2,k o (by simp) _ oo⟩,ii.at fun u e=>k i (by simp) u e,jj.at fun u e=>k j (by simp) u e⟩
theorem QaR {w:World} {K:Aa} {elts:List Expr} {kt:Nat} {z p o i j a b:Addr} (D:ZipApart z p o i j a b):kK P w K (.Tuple elts kt pos) (QaX K a b) [z,p,o,i,j] z (fun n h=>ZL h z p o i j a b n .none) where
 mem:=by simp
 obj:=fun n h S c hc=>by
  obtain ⟨zz,pp,⟨u1,u2,oo⟩,⟨oi,ei,ci,di⟩,⟨oj,ej,cj,dj⟩⟩:=S
  simp only [Bk,Cf,or_false] at hc
  rcases hc with rfl | rfl | rfl | rfl | rfl
  ·exact ⟨_,zz,fun v q=>by have q':Data.fields _=Data.cell v:=q;cases q'⟩
  ·exact ⟨_,pp,fun v q=>by have q':Data.seq _ _=Data.cell v:=q;cases q'⟩
  ·exact ⟨_,oo,fun v q=>by have q':Data.seq _ _=Data.cell v:=q;cases q'⟩
  ·exact ⟨oi,ei,fun v q=>by rw [di] at q;cases q⟩
  ·exact ⟨oj,ej,fun v q=>by rw [dj] at q;cases q⟩
 keep:=fun n h h' S k=>S.at k
 item:=by
  intro X hP hw hK hc n O9 s σ H E I hf S hg
  subst hP hw hK
  obtain ⟨xs,ys,x,y,qa,qb,hx,hy⟩:=hg
  obtain ⟨ia,ra,pa,_⟩:=I.list qa
  obtain ⟨ib,rb,pb,_⟩:=I.list qb
  obtain ⟨u,hu,ru⟩:=ra.get hx
  obtain ⟨v,hv,rv⟩:=rb.get hy
  obtain ⟨zz,pp,⟨u1,u2,oo⟩,ii,jj⟩:=id S
  have hT:s.TypeIs (.ref z) "zip" := ⟨_,zz,rfl⟩
  unfold pyNext
  refine C6 (wpAny_attempt (wpAny_callSpecial?_slot (name:=Str.ofString "__next__") hT F.slot_zip_next (wpAny_call_entry F.slot_zip_next hT F.entry_zip_next
   (zip_next_item D zz pp oo ii jj pa.isList pb.isList (by simpa using hu) (by simpa using hv) fun g zz' oo' ii' jj' tp sz kp=>C9 ?_) (F.args_zip_next_1 _))))
  refine ⟨_,rfl,wpAny_letOwnedTupleGo_zip zz' fun g' z' sb=>?_⟩
  have kp':∀ c q,c∉[z,p,o,i,j]->s.heap.get? c=some q->g'.get? c=some q:=fun c q hc e=>by
   simp only [Bk,Cf,or_false,not_or] at hc
   exact sb.extBut _ _ hc.1 (kp c q hc.1 hc.2.2.1 hc.2.2.2.1 hc.2.2.2.2 e)
  have zl:z < s.heap.objs.size:=Ap zz
  have tp':IsPair g' s.heap.objs.size u v:=sb.extBut _ _ (C4 zl) tp
  have ne:∀ c∈[z,p,o,i,j],c≠s.heap.objs.size:=fun c hc e=>by
   obtain ⟨zz,pp,⟨u1,u2,oo⟩,⟨oi,ei,_⟩,⟨oj,ej,_⟩⟩:=S
   simp only [Bk,Cf,or_false] at hc
   rcases hc with rfl | rfl | rfl | rfl | rfl
   ·exact Bf (Ap zz) e
   ·exact Bf (Ap pp) e
   ·exact Bf (Ap oo) e
   ·exact Bf (Ap ei) e
   ·exact Bf (Ap ej) e
  refine ⟨.ref s.heap.objs.size,upd H s.heap.objs.size (.tup [x,y]),I.turnNew (t':=s.toks) hf kp' (us:=[u,v]) (.cons ru (.cons rv .nil)) (show 2<=sizeLine by decide) ⟨_,tp',rfl,_,rfl⟩,rfl,
   ⟨_,x,y,I.hok.fresh (Ae _),fun xs' h=>by rw [I.list_inj h qa];exact hx,fun ys' h=>by rw [I.list_inj h qb];exact hy,rfl,rfl⟩,?_,fun c hc=>?_⟩
  ·exact ⟨z',sb.extBut _ _ D.TIz (kp _ _ D.TIz D.TITO D.TIi1 D.TIi2 pp),⟨_,_,sb.extBut _ _ D.TOz oo'⟩,ii'.extBut sb.extBut D.i1z,jj'.extBut sb.extBut D.i2z⟩
  ·rw [QI (ne c hc)];exact (hf c hc).1
 done:=by
  intro X hP hw hK hc n O9 s σ H E I hf S hg
  subst hP hw hK
  obtain ⟨xs,ys,qa,qb,hs⟩:=hg
  obtain ⟨ia,ra,pa,_⟩:=I.list qa
  obtain ⟨ib,rb,pb,_⟩:=I.list qb
  have l1:=ra.length
  have l2:=rb.length
  obtain ⟨zz,pp,⟨u1,u2,oo⟩,ii,jj⟩:=S
  have hT:s.TypeIs (.ref z) "zip" := ⟨_,zz,rfl⟩
  unfold pyNext
  refine C6 (wpAny_attempt (wpAny_callSpecial?_slot (name:=Str.ofString "__next__") hT F.slot_zip_next (wpAny_call_entry F.slot_zip_next hT F.entry_zip_next
   (zip_next_end (I.ok.hd hc) D zz pp oo ii jj pa.isList pb.isList (by rcases hs with q | q;exact .inl (by simp;lia);exact .inr (by simp;lia)) fun g x kp hx=>?_) (F.args_zip_next_1 _))))
  obtain ⟨ox,h1,h2⟩:=hx
  refine C6 (wpAny_isInstance (T := "StopIteration") (b:=true) ⟨ox,h1,h2⟩ isSubtype_stop ?_)
  refine C9 ⟨rfl,I.turnL (t':=s.toks) hf fun c q hc e=>?_⟩
  simp only [Bk,Cf,or_false,not_or] at hc
  exact kp c q hc.1 hc.2.2.1 hc.2.2.2.1 hc.2.2.2.2 e
 self:=fun _ _ _ _ _ S h=>wpAny_pyIter_zip S.zz h
section
variable {X:Cx} {elts:List Expr} {kt:Nat} {p2:Pos}
theorem Qeq {R:It->Hp->Prop} {E:Eg} {a b:Addr} (I:Inv X O9 σ H s) (qa:SqL X.K H a xs) (qb:SqL X.K H b ys) (q:R (QaX X.K a b) H):
  wpAny (model X.prog X.w) X.A (call (.type "zip") [.ref a,.ref b]) (fun v s1=>wpAny (model X.prog X.w) X.A (pyIter v) (PIE X O9 σ (.Tuple elts kt p2) R) E s1) E s:=by
 obtain ⟨ia,ra,pa,_⟩:=I.list qa
 obtain ⟨ib,rb,pb,_⟩:=I.list qb
 have la:a < s.heap.objs.size:=by obtain ⟨o,_,e,_⟩:=pa;exact Ap e
 have lb:b < s.heap.objs.size:=by obtain ⟨o,_,e,_⟩:=pb;exact Ap e
 refine call_zip_2 pa.isList pb.isList fun h' hz hTI hTO hi1 hi2 _ hk=>?_
 have I1:Inv X O9 σ H { s with heap:=h' }:=I.kept (t':=s.toks) hk
 refine wpAny_pyIter_zip (s:={ s with heap:=h' }) hz ⟨_,[s.heap.objs.size+4,s.heap.objs.size+2,s.heap.objs.size+3,s.heap.objs.size,s.heap.objs.size+1],_,QaX X.K a b,H,rfl,I1,QaR (zipApart_new la lb),⟨hz,hTI,⟨_,_,hTO⟩,hi1,hi2⟩,fun c hc=>?_,q⟩
 have hc':s.heap.objs.size<=c:=by
  simp only [Bk,Cf,or_false] at hc
  rcases hc with rfl | rfl | rfl | rfl | rfl<;>first | exact Ae _ | exact Nat.le_add_right _ _
 exact I.fpOk hc' (I.hok.fresh hc')
theorem QdO {p pos:Pos} (hg:Gl X "zip") (hm:X.mg "zip" = none) (ha:PA X [x,y] ta) (hs:starEach [x,y] X.env=[(false,eval x X.env),(false,eval y X.env)]:=by rfl) (hs2:starEach [y] X.env=[(false,eval y X.env)]:=by rfl):
    PI X (.Tuple elts kt p2) (.Call (.Name "zip" p) [x,y] [] pos) (fun σ H R=>ta σ H fun vs H1=>∃ a b,vs=[.ref a,.ref b]/\((∃ xs ys,SqT X.K H1 a xs/\SqT X.K H1 b ys/\R (Itz X.K a b) H1)∨∃ xs ys,SqL X.K H1 a xs/\SqL X.K H1 b ys/\R (QaX X.K a b) H1)):=by
  intro O9 s σ H R I h
  refine Call_ (qO I hg hm boot_zip (PyProof.Rows.callWith_type1 (thn (ha pos O9 s σ H _ I h) fun us s1 z=>?_) (by rw [hs,hs2]) (by rw [hs2];rfl)))
  obtain ⟨vs,H1,I1,r1,a,b,e,q1⟩:=z
  subst e
  cases r1 with
  | cons r rr =>
    cases rr with
    | cons r' rr =>
      cases rr
      cases r
      cases r'
      rcases q1 with ⟨xs,ys,qa,qb,q⟩ | ⟨xs,ys,qa,qb,q⟩
      . exact kD (.tp ..) I1 qa qb q
      . exact Qeq I1 qa qb q
end
end L2
namespace D
open PySem PySem.Spec PyProof.Rows L2
def nxZ (x y:DV):NX:=fun i=>do
 let xs <- lsG x
 let ys <- lsG y
 pure (XS (xs.drop i) (ys.drop i)).head?
def QcS (f g:DEx):DXx:=fun env=>do
  let x <- f env
  let y <- g env
  match x,y with
  | .tup xs,.tup ys=>pure (nxD (XS xs ys))
  | x,y=>do
    let _ <- lsG x
    let _ <- lsG y
    pure (nxZ x y)
theorem Qft {K:Aa} {a b:Addr} (ra:RepV K ρ B H x (.ref a)) (rb:RepV K ρ B H y (.ref b)):uU K ρ B H (nxZ x y) (QaX K a b):=fun ρ1 B1 hp1 H1 g W i o hp2 e=>by
 obtain ⟨xs,hp3,e1,e⟩:=Qe e
 obtain ⟨ys,hp4,e2,e⟩:=Qe e
 obtain ⟨rfl,rfl⟩:=Qh e
 obtain ⟨rfl,a',us,q1,sa,la⟩:=qY W (RepV.gs g _ _ ra) e1
 obtain ⟨rfl,b',vs,q2,sb,lb⟩:=qY W (RepV.gs g _ _ rb) e2
 cases q1;cases q2
 refine ⟨rfl,?_⟩
 by_cases h1:i < xs.length
 ·by_cases h2:i < ys.length
  ·rw [Bi h1,Bi h2]
   obtain ⟨u,hu,ru⟩:=la.get (Ab h1)
   obtain ⟨v,hv,rv⟩:=lb.get (Ab h2)
   refine ⟨⟨us,vs,u,v,sa,sb,hu,hv⟩,fun z H' q=>?_⟩
   obtain ⟨p,u',v',hn,h3,h4,e1,e2⟩:=q
   subst e1 e2
   have e3:=h3 us sa
   have e4:=h4 vs sb
   rw [hu] at e3;cases e3
   rw [hv] at e4;cases e4
   exact ⟨Ye (fun z=>W.bt p z hn) (SqT.of Q3) (RepL.gs (uP W.rb hn) _ _ (RepL.cons ru (RepL.one rv))),.inr ⟨p,_,hn,rfl⟩⟩
  ·rw [List.drop_eq_nil_of_le (Cy h2),Bi h1]
   exact ⟨us,vs,sa,sb,.inr (by rw [<- lb.length];exact Cy h2)⟩
 ·rw [List.drop_eq_nil_of_le (Cy h1)]
  exact ⟨us,vs,sa,sb,.inl (by rw [<- la.length];exact Cy h1)⟩
section
variable {X:Cx} {elts:List Expr} {kt:Nat} {p2:Pos} {f g:DEx}
theorem Qe4 {p pos:Pos} (hg:Gl X "zip") (hm:X.mg "zip" = none) (hx:DE X x f) (hy:DE X y g) (hs:starEach [x,y] X.env=[(false,eval x X.env),(false,eval y X.env)]:=by rfl) (hs2:starEach [y] X.env=[(false,eval y X.env)]:=by rfl):
  DX X (.Tuple elts kt p2) (.Call (.Name "zip" p) [x,y] [] pos) (QcS f g) :=
 L2.PI.imp (QdO hg hm (JJ hx (JJ hy pa_nil (by rw [hs2];rfl)) (by rw [hs,hs2])) hs hs2) fun σ H R zz=>by
  obtain ⟨Z,env,ρ,B,U,nxt,hp',S,e,k⟩:=zz
  obtain ⟨d1,hp1,e1,e⟩:=Qe e
  obtain ⟨d2,hp3,e3,e⟩:=Qe e
  refine tD.run S e1 fun v ρ1 B1 H1 g1 S1 r1=>tD.run S1 e3 fun u ρ2 B2 H2 g2 S2 r2=>?_
  have r1:=RepV.grow S1.wo.rb g2 _ _ r1
  have G:=g1.trans g2
  have tt:(∃ xs ys,d1=.tup xs/\d2=.tup ys/\nxt=nxD (XS xs ys)/\hp'=hp3)∨(do let _ <- lsG d1;let _ <- lsG d2;pure (nxZ d1 d2):M NX) hp3=some (nxt,hp'):=by
   cases d1<;>first
    | exact .inr e
    | (cases d2<;>first
      | exact .inr e
      | (obtain ⟨rfl,rfl⟩:=Qh e;exact .inl ⟨_,_,rfl,rfl,rfl,rfl⟩))
  rcases tt with ⟨xs,ys,rfl,rfl,rfl,rfl⟩ | e
  ·obtain ⟨a,vs,rfl,na,qa,la⟩:=r1.tupI
   obtain ⟨b,us,rfl,nb,qb,lb⟩:=r2.tupI
   exact ⟨a,b,rfl,.inl ⟨vs,us,qa,qb,k _ ρ2 B2 H2 G S2.wo (uo (QbD na qa la nb qb lb))⟩⟩
  ·obtain ⟨xs,hp4,e4,e⟩:=Qe e
   obtain ⟨ys,hp5,e5,e⟩:=Qe e
   obtain ⟨rfl,rfl⟩:=Qh e
   obtain ⟨rfl,a,us,rfl,sa,la⟩:=qY S2.wo r1 e4
   obtain ⟨rfl,b,vs,rfl,sb,lb⟩:=qY S2.wo r2 e5
   exact ⟨a,b,rfl,.inr ⟨us,vs,sa,sb,k _ ρ2 B2 H2 G S2.wo (Qft r1 r2)⟩⟩
end
section
variable {X:Cx} {e:Expr} {f:DEx} {pos:Pos}
def lt2 (t:String):Bool:=yM t "list" || yM t "tuple"
def GB (f:DEx):DEx:=fun env=>do
  let x <- f env
  match x with
  | .ref n=>do
    match <- ZE n with
    | .lst _=>pure (.bl true)
    | _=>failure
  | x=>match VC x with
    | some t=>pure (.bl (lt2 t))
    | none=>failure
theorem QeW:CallR X (.builtin "isinstance") (fun xs H Q=>∃ x a,xs=[x,.ref a]/\SqT X.K H a [.ty "list", .ty "tuple"]/\((∃ ρ B d t,RepV X.K ρ B H d x/\VC d=some t/\Q (.bl (lt2 t)) H)∨∃ p ys,x=.ref p/\SqL X.K H p ys/\Q (.bl true) H)):=by
  intro O9 s σ H xs us Q I r h
  obtain ⟨x,a,rfl,st,h⟩:=h
  obtain ⟨u,w',rfl,ru,rw'⟩:=VG r
  cases rw'
  obtain ⟨its,rv,⟨o,e1,e2,m,e3⟩,_⟩:=I.tuple st
  obtain ⟨y1,y2,rfl,z1,z2⟩:=VG rv
  cases z1;cases z2
  obtain ⟨oc,od,oda,os⟩:=o
  cases e2;cases e3
  have fin:∀ b,Q (.bl b) H->∀ tk,EP X O9 σ Q (.bool b) { s with toks:=tk }:=fun b q tk=>⟨.bl _,H,I.tok _,rfl,q⟩
  have kit:∀ t∈["NoneType", "bool", "int", "str", "tuple", "list"],PySem.W.kitAny X.K (.type t) [.type "list", .type "tuple"]=some (lt2 t):=fun t ht=>by
    simp only [Bk,Cf,or_false] at ht
    rcases ht with rfl | rfl | rfl | rfl | rfl | rfl<;>first | rfl | decide | with_unfolding_all rfl | kernel_rfl
  rcases h with ⟨ρ,B,d,t,rv,ht,q⟩ | ⟨p,ys,rfl,sq,q⟩
  . cases d with
    | non=>obtain rfl:=rv.nonI;cases ht;cases ru;exact PySem.W.kia_tup PySem.W.kitx_none I.kIn True.intro e1 (kit _ (by simp)) (fun z=>nomatch z) (fin _ q)
    | bl b=>obtain rfl:=rv.blI;cases ht;cases ru;exact PySem.W.kia_tup PySem.W.kitx_bool I.kIn True.intro e1 (kit _ (by simp)) (fun z=>nomatch z) (fin _ q)
    | int b=>obtain rfl:=rv.intI;cases ht;obtain ⟨tk,rfl⟩:=ru;exact PySem.W.kia_tup PySem.W.kitx_int I.kIn True.intro e1 (kit _ (by simp)) (fun z=>nomatch z) (fin _ q)
    | str b=>obtain rfl:=rv.strI;cases ht;obtain ⟨tk,rfl⟩:=ru;exact PySem.W.kia_tup PySem.W.kitx_str I.kIn True.intro e1 (kit _ (by simp)) (fun z=>nomatch z) (fin _ q)
    | ref b=>cases ht
    | tup b =>
      cases ht
      obtain ⟨a,ys,rfl,_,sq,_⟩:=rv.tupI
      cases ru
      obtain ⟨its,_,⟨o,f1,f2,_⟩,_⟩:=I.tuple sq
      exact PySem.W.kia_tup PySem.W.kitx_tuple I.kIn ⟨o,f1,f2⟩ e1 (kit _ (by simp)) (fun z=>nomatch z) (fin _ q)
    | lst b =>
      cases ht
      obtain ⟨a,ys,rfl,_,sq,_⟩:=rv.lstI
      cases ru
      obtain ⟨its,_,⟨o,k,f1,f2,_⟩,_⟩:=I.list sq
      exact PySem.W.kia_tup PySem.W.kitx_list I.kIn ⟨o,f1,f2⟩ e1 (kit _ (by simp)) (fun z=>nomatch z) (fin _ q)
  . cases ru
    obtain ⟨its,_,⟨o,k,f1,f2,_⟩,_⟩:=I.list sq
    exact PySem.W.kia_tup PySem.W.kitx_list I.kIn ⟨o,f1,f2⟩ e1 (kit "list" (by simp)) (fun z=>nomatch z) (fin _ q)
theorem gh {p p1 p3 p4:Pos} {k:Nat} (hm:X.mg "isinstance" = none) (hl:X.mg "list" = none) (ht:X.mg "tuple" = none) (h:DE X e f) (hg:Gl X "isinstance" := by rfl) (hgl:Gl X "list" := by rfl) (hgt:Gl X "tuple" := by rfl)
    (hs:starEach [e,.Tuple [.Name "list" p1,.Name "tuple" p3] k p4] X.env=(false,eval e X.env)::starEach [.Tuple [.Name "list" p1,.Name "tuple" p3] k p4] X.env:=by rfl)
    (hs2:starEach [.Tuple [.Name "list" p1,.Name "tuple" p3] k p4] X.env=(false,eval (.Tuple [.Name "list" p1,.Name "tuple" p3] k p4) X.env)::starEach [] X.env:=by rfl)
    (hs3:starEach [.Name "list" p1,.Name "tuple" p3] X.env=(false,eval (.Name "list" p1) X.env)::starEach [.Name "tuple" p3] X.env:=by rfl)
    (hs4:starEach [.Name "tuple" p3] X.env=(false,eval (.Name "tuple" p3) X.env)::starEach [] X.env:=by rfl)
    (hpl:(backTo pos (starEach [.Tuple [.Name "list" p1,.Name "tuple" p3] k p4] X.env)).any (·.1)=false:=by rfl):DE X (.Call (.Name "isinstance" p) [e,.Tuple [.Name "list" p1,.Name "tuple" p3] k p4] [] pos) (GB f) :=
  L2.PE.imp (y9 QeW hg hm boot_isinstance (JJ h (JJ (Qb3 (JJ (KJ (v:=.ty "list") hgl hl boot_list rfl) (JJ (KJ (v:=.ty "tuple") hgt ht boot_tuple rfl) pa_nil hs4) hs3)) pa_nil hs2) hs) (by decide) (by decide) hs hpl) fun σ H Q zz=>by
    obtain ⟨Z,env,ρ,B,U,d,hp',S,e,k⟩:=zz
    obtain ⟨x,hp1,e1,e2⟩:=Qe e
    refine tD.run S e1 fun v ρ1 B1 H1 g1 S1 r1=>?_
    refine ⟨by decide,fun p hn=>?_⟩
    have G:Gr X.K ρ1 B1 H1 ρ1 B1 (upd H1 p (.tup [.ty "list", .ty "tuple"])):=Gr.laid hn
    have r2:=RepV.grow S1.wo.rb G _ _ r1
    have W2:=S1.wo.laid (o:=.tup [.ty "list", .ty "tuple"]) hn
    refine ⟨v,p,rfl,SqT.of Q3,?_⟩
    cases x with
    | ref n =>
      obtain ⟨o,hp2,e3,e4⟩:=Qe e2
      obtain ⟨e5,rfl⟩:=Zx e3
      cases o with
      | lst zs =>
        obtain ⟨rfl,rfl⟩:=Qh e4
        obtain ⟨a,rfl,_,ys,h1,l1⟩:=RepV.refW W2 r2 e5
        exact .inr ⟨a,ys,rfl,SqL.of h1,k _ ρ1 B1 _ (g1.trans G) W2 ZH⟩
      | dic _=>cases e4
      | ins _ _=>cases e4
    | non=>obtain ⟨rfl,rfl⟩:=Qh e2;exact .inl ⟨ρ1,B1,_,_,r2,rfl,k _ ρ1 B1 _ (g1.trans G) W2 ZH⟩
    | bl _=>obtain ⟨rfl,rfl⟩:=Qh e2;exact .inl ⟨ρ1,B1,_,_,r2,rfl,k _ ρ1 B1 _ (g1.trans G) W2 ZH⟩
    | int _=>obtain ⟨rfl,rfl⟩:=Qh e2;exact .inl ⟨ρ1,B1,_,_,r2,rfl,k _ ρ1 B1 _ (g1.trans G) W2 ZH⟩
    | str _=>obtain ⟨rfl,rfl⟩:=Qh e2;exact .inl ⟨ρ1,B1,_,_,r2,rfl,k _ ρ1 B1 _ (g1.trans G) W2 ZH⟩
    | tup _=>obtain ⟨rfl,rfl⟩:=Qh e2;exact .inl ⟨ρ1,B1,_,_,r2,rfl,k _ ρ1 B1 _ (g1.trans G) W2 ZH⟩
    | lst _=>obtain ⟨rfl,rfl⟩:=Qh e2;exact .inl ⟨ρ1,B1,_,_,r2,rfl,k _ ρ1 B1 _ (g1.trans G) W2 ZH⟩
end
end D
namespace K21
open PySem PySem.Spec PyProof.Rows L2 D
def top (i:Nat):Stmt:=PySem.Challenge.pw_sidelink_k21_one_walk_alone.main.body.getD i (.Pass ⟨0,0,0,0⟩)
abbrev YO:Stmt:=Zn (top 27) 10
def YC:DSx:=QJ (QD "Shelf" "write_count" (Qd 0))
def ZV:List DV->M DV:=Q2 1 YC
abbrev YN:Stmt:=Zn (top 27) 9
def YB:DSx:=QJ (QD "Shelf" "read_count" (Qd 0))
def ZT:List DV->M DV:=Q2 1 YB
abbrev zy:Stmt:=Zn (top 21) 2
def VS:DSx:=Qs (sIf (Xf (eB (QD "Walk" "ended" (Qd 0)))) (QJ (eC .non)) (Zo)) (Qs (sIf (eB (Qk eqG (Qk ixG (QD "Walk" "deed" (Qd 0)) (eC (.int 0))) (eC (.str "stretch")))) (QJ (ZW QgQ (Qc (QD "Walk" "pairs" (Qd 0)) (Qn)))) (Zo)) (QJ (QD "Walk" "worth" (Qd 0))))
def Q9:List DV->M DV:=Q2 1 VS
abbrev Vi:Stmt:=top 34
def qc (self:Ep):DSx:=sIf (Xf (eB (Qv 2 self (Qc (Qd 2) (Qc (Qd 3) (Qn)))))) (QJ (eC (.bl false))) (Zo)
def Y3 (self:Ep):DSx:=jJ (QcS (Qd 0) (Qd 1)) (gT [2,3]) (qc self)
def X2 (self:Ep):DSx:=Qs (sIf (eB (GB (Qd 1))) (Qs (sIf (eOr (eB (Qk neG (YF "list" (Qd 0)) (YF "list" (Qd 1)))) (Xf (eB (GB (Qd 0))))) (QJ (eC (.bl false))) (Zo)) (Qs (sIf (eB (Qk neG (ZW Xy (Qc (Qd 0) (Qn))) (ZW Xy (Qc (Qd 1) (Qn))))) (QJ (eC (.bl false))) (Zo)) (Qs (Y3 self) (QJ (eC (.bl true)))))) (Zo)) (Qs (sIf (eB (Qk isD (Qd 1) (eC .non))) (QJ (Qk isD (Qd 0) (eC .non))) (Zo)) (QJ (JX (YF "int" (Qd 0)) (JX (XN (YF "bool" (Qd 0))) (Qk eqG (Qd 0) (Qd 1))))))
def QX:Nat->List DV->M DV
 | 0=>fun _=>failure
 | n+1=>Q2 4 (X2 (QX n))
abbrev xK:Stmt:=Zn (top 21) 1
def Ga:DSx:=QJ (QD "Walk" "ended" (Qd 0))
def JA:List DV->M DV:=Q2 1 Ga
abbrev Yi:Stmt:=Zn (top 21) 9
def Z9:DEx:=J3 true (xOf (v7 (Qk ixG (Qd 2) (eC (.int 1))) (Qk ixG (Qd 2) (eC (.int 2))))) [3,4] (eB (Xm leD ltD (Qd 1) (Qk ixG (Qd 0) (eC (.int 0))) (Qd 2))) (Qd 0)
def jc:DSx:=Qs (QU 3 (Qk ixG (QD "Walk" "deed" (Qd 0)) (eC (.int 1)))) (Qs (QU 4 (Qk ixG (QD "Walk" "deed" (Qd 0)) (eC (.int 2)))) (Qs (QU 5 (Z9)) (Qs (Ji (Jz "list" jv (QD "Walk" "pairs" (Qd 0)) (Qc (Qd 5) (Qn)))) (Qs (sIf (eOr (eB (Qk isD (Qk ixG (Qd 2) (eC (.int 3))) (eC .non))) (eB (Qk geD (Qk ixG (Qd 2) (eC (.int 3))) (Qd 4)))) (Qs (Zb "Walk" "ended" (Qd 0) (eC (.bl true))) (QJ (Zt (Qc (eC (.str "read")) (Qc (Qd 1) (Qc (ZW QaP (Qc (Qd 5) (Qn))) (Qc (eC .non) (Qc (eC .non) (Qn))))))))) (Zo)) (Qs (Zb "Walk" "aim" (Qd 0) (Qk ixG (Qd 2) (eC (.int 3)))) (Qs (Zb "Walk" "place" (Qd 0) (Qk ixG (Qd 2) (eC (.int 4)))) (QJ (Zt (Qc (eC (.str "read")) (Qc (Qd 1) (Qc (ZW QaP (Qc (Qd 5) (Qn))) (Qc (QD "Walk" "place" (Qd 0)) (Qc (QD "Walk" "aim" (Qd 0)) (Qn))))))))))))))
def J1:List DV->M DV:=Q2 6 jc
abbrev XA:Stmt:=Zn (top 27) 12
def Xu:DSx:=sIf (Xf (eB (Xm leD ltD (eC (.int 0)) (Qd 1) (ZW Xy (Qc (QD "Shelf" "kept" (Qd 0)) (Qn)))))) (QeM) (Zo)
def Zl:List DV->M DV:=Q2 2 Xu
abbrev zx:Stmt:=Zn (top 27) 2
def zo:DSx:=Qs (Ji (QE "Shelf" "check_number" 2 Zl (Qd 0) (Qc (Qd 1) (Qn)))) (Qs (X7 "Shelf" "write_count" zi (Qd 0) (eC (.int 1))) (Ya (Qd 2) (gSb (QD "Shelf" "kept" (Qd 0)) (Qd 1))))
def Jr:List DV->M DV:=Q2 3 zo
abbrev Vj:Stmt:=top 14
def vH:DSx:=QJ (Zt (Qc (Qk ixD (Qd 0) (eC (.int 0))) (Qc (Qd 1) (Qc (Qd 2) (Qc (Qk ixD (Qd 0) (eC (.int 3))) (Qc (Qk ixD (Qd 0) (eC (.int 4))) (Qn)))))))
def YZ:List DV->M DV:=Q2 3 vH
abbrev Yj:Stmt:=top 16
def zh:DEx:=J3 false (xOf (iTp (Qd 0))) [1] (eB (Qk leD (Qd 0) (Qd 1))) (Qd 0)
def jd:DSx:=QJ (ZW Xy (Qc (zh) (Qn)))
def Zq:List DV->M DV:=Q2 2 jd
abbrev zB:Stmt:=top 15
def xT:DEx:=J3 false (xOf (iTp (Qd 0))) [1] (eB (Qk ltD (Qd 0) (Qd 1))) (Qd 0)
def VU:DSx:=QJ (ZW Xy (Qc (xT) (Qn)))
def Xq:List DV->M DV:=Q2 2 VU
abbrev Vl:Stmt:=top 13
def vJ:DSx:=Qs (QU 4 (Qk ixD (Qd 0) (eC (.int 1)))) (Qs (QU 5 (Qk ixD (Qd 0) (eC (.int 2)))) (Qs (QU 6 (Qv 2 Xq (Qc (Qd 4) (Qc (Qd 1) (Qn))))) (Qs (QU 7 (Qv 2 Zq (Qc (Qd 4) (Qc (Qd 1) (Qn))))) (QJ (Qv 3 YZ (Qc (Qd 0) (Qc (Qk Jd (Qk Jd (eSl (Qd 4) (ZQ) (ZR (Qd 6))) (Qd 2)) (eSl (Qd 4) (ZR (Qd 7)) (ZQ))) (Qc (Qk Jd (Qk Jd (eSl (Qd 5) (ZQ) (ZR (Qd 6))) (Qd 3)) (eSl (Qd 5) (ZR (Qd 7)) (ZQ))) (Qn)))))))))
def Y1:List DV->M DV:=Q2 8 vJ
abbrev UK:Stmt:=top 11
def kP:DSx:=QJ (Qv 4 Y1 (Qc (Qd 0) (Qc (Qd 1) (Qc (Zt (Qn)) (Qc (Zt (Qn)) (Qn))))))
def jW:List DV->M DV:=Q2 2 kP
abbrev Vm:Stmt:=top 9
def vK:DSx:=Qs (QU 2 (Qk ixD (Qd 0) (eC (.int 1)))) (Qs (QU 3 (Qv 2 Xq (Qc (Qd 2) (Qc (Qd 1) (Qn))))) (Qs (sIf (eB (Qk eqD (Qd 3) (Qv 2 Zq (Qc (Qd 2) (Qc (Qd 1) (Qn)))))) (QJ (eC .non)) (Zo)) (QJ (Qk ixD (Qk ixD (Qd 0) (eC (.int 2))) (Qd 3)))))
def JS:List DV->M DV:=Q2 4 vK
abbrev qR:Stmt:=Zn (top 21) 8
def yv:DSx:=Qs (Zb "Walk" "worth" (Qd 0) (Qv 2 JS (Qc (Qd 2) (Qc (QD "Walk" "aim" (Qd 0)) (Qn))))) (Qs (sIf (eB (Qk jt (QD "Walk" "worth" (Qd 0)) (eC .non))) (Ji (QE "Shelf" "write" 3 Jr (QD "Walk" "shelf" (Qd 0)) (Qc (Qd 1) (Qc (Qv 2 jW (Qc (Qd 2) (Qc (QD "Walk" "aim" (Qd 0)) (Qn)))) (Qn))))) (Zo)) (Qs (Zb "Walk" "ended" (Qd 0) (eC (.bl true))) (QJ (Zt (Qc (eC (.str "cut")) (Qc (Qd 1) (Qc (QD "Walk" "worth" (Qd 0)) (Qn))))))))
def XY:List DV->M DV:=Q2 3 yv
abbrev xJ:Stmt:=Zn (top 27) 3
def xy:DSx:=Qs (X7 "Shelf" "write_count" zi (Qd 0) (eC (.int 1))) (Qs (Ji (Jz "list" ZN (QD "Shelf" "kept" (Qd 0)) (Qc (Qd 1) (Qn)))) (QJ (Qk V7 (ZW Xy (Qc (QD "Shelf" "kept" (Qd 0)) (Qn))) (eC (.int 1)))))
def Xs:List DV->M DV:=Q2 2 xy
abbrev zw:Stmt:=Zn (top 27) 8
def zn:DSx:=QJ (ZW Xy (Qc (QD "Shelf" "kept" (Qd 0)) (Qn)))
def Jq:List DV->M DV:=Q2 1 zn
abbrev vb:Stmt:=top 19
def Qa3:DSx:=Qs (QU 2 (Qk ixD (Qd 0) (eC (.int 0)))) (Qs (QU 3 (Qk ixD (Qd 0) (eC (.int 1)))) (Qs (QU 4 (Qk ixD (Qd 0) (eC (.int 2)))) (Qs (QU 5 (Qk Qbi (ZW qd (Qc (Qd 3) (Qn))) (eC (.int 2)))) (Qs (QU 6 (Qk ixD (Qd 3) (Qd 5))) (Qs (QU 7 (eIf (eB (Qk eqD (Qd 2) (eC (.int 0)))) (Qd 5) (Qk Jd (Qd 5) (eC (.int 1))))) (Qs (QU 8 (Zt (Qc (Qd 2) (Qc (eSl (Qd 3) (ZQ) (ZR (Qd 5))) (Qc (eSl (Qd 4) (ZQ) (ZR (Qd 7))) (Qc (Qd 6) (Qc (Qd 1) (Qn)))))))) (Qs (QU 9 (Zt (Qc (Qd 2) (Qc (eSl (Qd 3) (ZR (Qd 7)) (ZQ)) (Qc (eSl (Qd 4) (ZR (Qd 7)) (ZQ)) (Qc (Qk ixD (Qd 0) (eC (.int 3))) (Qc (Qk ixD (Qd 0) (eC (.int 4))) (Qn)))))))) (QJ (Zt (Qc (Qd 8) (Qc (Qd 9) (Qc (Qd 6) (Qn)))))))))))))
def zW:List DV->M DV:=Q2 10 Qa3
abbrev jL:Stmt:=Zn (top 27) 7
def zZ:DSx:=QJ (QD "Shelf" "page_room" (Qd 0))
def Jk:List DV->M DV:=Q2 1 zZ
abbrev UD:Stmt:=top 18
def kL:DSx:=QJ (Qk gtD (ZW qd (Qc (Qk ixD (Qd 0) (eC (.int 1))) (Qn))) (Qd 1))
def XT:List DV->M DV:=Q2 2 kL
abbrev zA:Stmt:=Zn (top 21) 12
def VT:DSx:=Qs (sIf (Xf (eB (Qv 2 XT (Qc (Qd 2) (Qc (QE "Shelf" "room" 1 Jk (QD "Walk" "shelf" (Qd 0)) Qn) (Qn)))))) (Qs (Ji (QE "Shelf" "write" 3 Jr (QD "Walk" "shelf" (Qd 0)) (Qc (Qd 1) (Qc (Qd 2) (Qn))))) (Qs (Zb "Walk" "ended" (Qd 0) (eC (.bl true))) (QJ (eC .non)))) (Zo)) (Qs (QU 3 (Qv 2 zW (Qc (Qd 2) (Qc (QE "Shelf" "pages" 1 Jq (QD "Walk" "shelf" (Qd 0)) Qn) (Qn))))) (Qs (Zb "Walk" "new_page" (Qd 0) (QE "Shelf" "lay" 2 Xs (QD "Walk" "shelf" (Qd 0)) (Qc (Qk ixG (Qd 3) (eC (.int 1))) (Qn)))) (Qs (Ji (QE "Shelf" "write" 3 Jr (QD "Walk" "shelf" (Qd 0)) (Qc (Qd 1) (Qc (Qk ixG (Qd 3) (eC (.int 0))) (Qn))))) (Qs (Zb "Walk" "aim" (Qd 0) (Qk ixG (Qd 3) (eC (.int 2)))) (Qs (Zb "Walk" "goal" (Qd 0) (Qk Jd (Qk ixG (Qd 2) (eC (.int 0))) (eC (.int 1)))) (Qs (Zb "Walk" "place" (Qd 0) (Jz "dict" JY (QD "Walk" "forks" (Qd 0)) (Qc (QD "Walk" "goal" (Qd 0)) (Qn)))) (QJ (QD "Walk" "new_page" (Qd 0)))))))))
def Xp:List DV->M DV:=Q2 4 VT
abbrev xP:Stmt:=top 10
def Ge:DSx:=QJ (Qv 4 Y1 (Qc (Qd 0) (Qc (Qd 1) (Qc (Zt (Qc (Qd 1) (Qn))) (Qc (Zt (Qc (Qd 2) (Qn))) (Qn))))))
def qC:List DV->M DV:=Q2 3 Ge
abbrev qv:Stmt:=Zn (top 21) 7
def xW:DSx:=Qs (Zb "Walk" "worth" (Qd 0) (Qv 2 JS (Qc (Qd 2) (Qc (QD "Walk" "aim" (Qd 0)) (Qn))))) (Qs (QU 3 (QE "Walk" "settle" 3 Xp (Qd 0) (Qc (Qd 1) (Qc (Qv 3 qC (Qc (Qd 2) (Qc (QD "Walk" "aim" (Qd 0)) (Qc (Qk ixG (QD "Walk" "deed" (Qd 0)) (eC (.int 2))) (Qn))))) (Qn))))) (QJ (Zt (Qc (eC (.str "put")) (Qc (Qd 1) (Qc (QD "Walk" "worth" (Qd 0)) (Qc (Qd 3) (Qn))))))))
def XC:List DV->M DV:=Q2 4 xW
abbrev Yh:Stmt:=Zn (top 21) 6
def jb:DSx:=Qs (Zb "Walk" "worth" (Qd 0) (Qv 2 JS (Qc (Qd 2) (Qc (QD "Walk" "aim" (Qd 0)) (Qn))))) (Qs (Zb "Walk" "ended" (Qd 0) (eC (.bl true))) (QJ (Zt (Qc (eC (.str "found")) (Qc (Qd 1) (Qc (QD "Walk" "worth" (Qd 0)) (Qn)))))))
def J0:List DV->M DV:=Q2 3 jb
abbrev qS:Stmt:=Zn (top 21) 5
def yw:DSx:=Qs (QU 3 (Qk ixG (QD "Walk" "deed" (Qd 0)) (eC (.int 0)))) (Qs (sIf (eB (Qk eqG (Qd 3) (eC (.str "find")))) (QJ (QE "Walk" "find_worth" 3 J0 (Qd 0) (Qc (Qd 1) (Qc (Qd 2) (Qn))))) (Zo)) (Qs (sIf (eB (Qk eqG (Qd 3) (eC (.str "put")))) (QJ (QE "Walk" "put_pair" 3 XC (Qd 0) (Qc (Qd 1) (Qc (Qd 2) (Qn))))) (Zo)) (Qs (sIf (eB (Qk eqG (Qd 3) (eC (.str "cut")))) (QJ (QE "Walk" "cut_key" 3 XY (Qd 0) (Qc (Qd 1) (Qc (Qd 2) (Qn))))) (Zo)) (QJ (QE "Walk" "read_pairs" 3 J1 (Qd 0) (Qc (Qd 1) (Qc (Qd 2) (Qn))))))))
def XZ:List DV->M DV:=Q2 4 yw
abbrev Vk:Stmt:=top 12
def vI:DSx:=Qs (QU 3 (Qk ixD (Qd 0) (eC (.int 1)))) (Qs (QU 4 (Qk ixD (Qd 0) (eC (.int 2)))) (Qs (QU 5 (Qv 2 Zq (Qc (Qd 3) (Qc (Qd 1) (Qn))))) (Qs (QU 6 (Qk Jd (Qd 5) (eC (.int 1)))) (QJ (Qv 3 YZ (Qc (Qd 0) (Qc (Qk Jd (Qk Jd (eSl (Qd 3) (ZQ) (ZR (Qd 5))) (Zt (Qc (Qd 1) (Qn)))) (eSl (Qd 3) (ZR (Qd 5)) (ZQ))) (Qc (Qk Jd (Qk Jd (eSl (Qd 4) (ZQ) (ZR (Qd 6))) (Zt (Qc (Qd 2) (Qn)))) (eSl (Qd 4) (ZR (Qd 6)) (ZQ))) (Qn)))))))))
def Y0:List DV->M DV:=Q2 7 vI
abbrev YQ:Stmt:=Zn (top 21) 10
def jX:DSx:=Qs (QU 3 (QE "Walk" "settle" 3 Xp (Qd 0) (Qc (Qd 1) (Qc (Qv 3 Y0 (Qc (Qd 2) (Qc (QD "Walk" "aim" (Qd 0)) (Qc (QD "Walk" "new_page" (Qd 0)) (Qn))))) (Qn))))) (QJ (Zt (Qc (eC (.str "told")) (Qc (Qd 1) (Qc (Qd 3) (Qn))))))
def Xl:List DV->M DV:=Q2 4 jX
abbrev jN:Stmt:=Zn (top 21) 4
def Kc:DSx:=Qs (Zb "Walk" "place" (Qd 0) (Qd 3)) (QJ (Zt (Qc (Qd 1) (Qc (Qd 2) (Qc (Qd 3) (Qn))))))
def JE:List DV->M DV:=Q2 4 Kc
abbrev UE:Stmt:=top 8
def kM:DSx:=QJ (Qk ixD (Qk ixD (Qd 0) (eC (.int 2))) (Qv 2 Zq (Qc (Qk ixD (Qd 0) (eC (.int 1))) (Qc (Qd 1) (Qn)))))
def Yx:List DV->M DV:=Q2 2 kM
abbrev va:Stmt:=top 7
def Qa2:DSx:=Qs (QU 2 (Qk ixD (Qd 0) (eC (.int 3)))) (QJ (JX (Qk jt (Qd 2) (eC .non)) (Qk geD (Qd 1) (Qd 2))))
def Yw:List DV->M DV:=Q2 3 Qa2
abbrev X8:Stmt:=Zn (top 27) 6
def X1:DSx:=Qs (Ji (QE "Shelf" "check_number" 2 Zl (Qd 0) (Qc (Qd 2) (Qn)))) (Qs (QU 3 (Qk Jd (Qk ixG (Qk ixG (QD "Shelf" "kept" (Qd 0)) (QD "Shelf" "top" (Qd 0))) (eC (.int 0))) (eC (.int 1)))) (Qs (Zb "Shelf" "top" (Qd 0) (QE "Shelf" "lay" 2 Xs (Qd 0) (Qc (Zt (Qc (Qd 3) (Qc (Zt (Qc (Qd 1) (Qn))) (Qc (Zt (Qc (QD "Shelf" "top" (Qd 0)) (Qc (Qd 2) (Qn)))) (Qc (eC .non) (Qc (eC .non) (Qn))))))) (Qn)))) (QJ (QD "Shelf" "top" (Qd 0)))))
def ZX:List DV->M DV:=Q2 4 X1
abbrev Xc:Stmt:=Zn (top 21) 11
def Y4:DSx:=Qs (Zb "Walk" "ended" (Qd 0) (eC (.bl true))) (QJ (Zt (Qc (eC (.str "raised")) (Qc (Qd 1) (Qc (QE "Shelf" "raise_root" 3 ZX (QD "Walk" "shelf" (Qd 0)) (Qc (QD "Walk" "aim" (Qd 0)) (Qc (QD "Walk" "new_page" (Qd 0)) (Qn)))) (Qn))))))
def ZJ:List DV->M DV:=Q2 2 Y4
abbrev jK:Stmt:=Zn (top 27) 1
def zY:DSx:=Qs (Ji (QE "Shelf" "check_number" 2 Zl (Qd 0) (Qc (Qd 1) (Qn)))) (Qs (X7 "Shelf" "read_count" zi (Qd 0) (eC (.int 1))) (QJ (Qk ixG (QD "Shelf" "kept" (Qd 0)) (Qd 1))))
def Z4:List DV->M DV:=Q2 2 zY
abbrev jM:Stmt:=Zn (top 27) 4
def ja:DSx:=QJ (QD "Shelf" "top" (Qd 0))
def JD:List DV->M DV:=Q2 1 ja
abbrev xL:Stmt:=Zn (top 21) 3
def Gb:DSx:=Qs (sIf (eB (QD "Walk" "ended" (Qd 0))) (QJ (eC .non)) (Zo)) (Qs (QU 1 (eIf (eB (Qk isD (QD "Walk" "place" (Qd 0)) (eC .non))) (QE "Shelf" "root" 1 JD (QD "Walk" "shelf" (Qd 0)) Qn) (QD "Walk" "place" (Qd 0)))) (Qs (QU 2 (QE "Shelf" "read" 2 Z4 (QD "Walk" "shelf" (Qd 0)) (Qc (Qd 1) (Qn)))) (Qs (sIf (Xx (eB (Qk isD (QD "Walk" "place" (Qd 0)) (eC .non))) (eB (Qk ltD (Qk ixG (Qd 2) (eC (.int 0))) (QD "Walk" "goal" (Qd 0))))) (QJ (QE "Walk" "raise_root_over" 2 ZJ (Qd 0) (Qc (Qd 1) (Qn)))) (Zo)) (Qs (sIf (eB (Qv 2 Yw (Qc (Qd 2) (Qc (QD "Walk" "aim" (Qd 0)) (Qn))))) (QJ (QE "Walk" "go_on" 4 JE (Qd 0) (Qc (eC (.str "side")) (Qc (Qd 1) (Qc (Qk ixG (Qd 2) (eC (.int 4))) (Qn)))))) (Zo)) (Qs (sIf (eB (Qk gtD (Qk ixG (Qd 2) (eC (.int 0))) (QD "Walk" "goal" (Qd 0)))) (Qs (Ya (Qd 1) (gSb (QD "Walk" "forks" (Qd 0)) (Qk ixG (Qd 2) (eC (.int 0))))) (QJ (QE "Walk" "go_on" 4 JE (Qd 0) (Qc (eC (.str "down")) (Qc (Qd 1) (Qc (Qv 2 Yx (Qc (Qd 2) (Qc (QD "Walk" "aim" (Qd 0)) (Qn)))) (Qn))))))) (Zo)) (Qs (sIf (eB (Qk gtD (QD "Walk" "goal" (Qd 0)) (eC (.int 0)))) (QJ (QE "Walk" "tell_fork" 3 Xl (Qd 0) (Qc (Qd 1) (Qc (Qd 2) (Qn))))) (Zo)) (QJ (QE "Walk" "do_deed" 3 XZ (Qd 0) (Qc (Qd 1) (Qc (Qd 2) (Qn)))))))))))
def JW:List DV->M DV:=Q2 3 Gb
abbrev xN:Stmt:=top 38
def Yu:DSx:=sIf (eOr (Xf (eB (Qv 2 (QX 6) (Qc (QE "Walk" "answer" 1 Q9 (Qd 3) Qn) (Qc (Qd 4) (Qn)))))) (eOr (eB (Qk jt (QE "Walk" "over" 1 JA (Qd 3) Qn) (eC (.bl true)))) (eB (Qk jt (QE "Walk" "step" 1 JW (Qd 3) Qn) (eC .non))))) (QJ (eC (.bl false))) (Zo)
def Ym:DSx:=jJ (xLs (Qd 1)) (gT [3,4]) (Yu)
def Gc:DSx:=Qs (QU 2 (Zt (Qc (QE "Shelf" "readings" 1 ZT (Qd 0) Qn) (Qc (QE "Shelf" "writings" 1 ZV (Qd 0) Qn) (Qn))))) (Qs (Ym) (QJ (Qk eqG (Zt (Qc (QE "Shelf" "readings" 1 ZT (Qd 0) Qn) (Qc (QE "Shelf" "writings" 1 ZV (Qd 0) Qn) (Qn)))) (Qd 2))))
def qA:List DV->M DV:=Q2 5 Gc
abbrev jO:Stmt:=top 36
def qM:DSx:=Qs (QU 4 (QE "Shelf" "read" 2 Z4 (Qd 0) (Qc (Qd 2) (Qn)))) (Qs (QU 1 (Qk QcX (Qd 1) (GC (Qk ixG (Qd 4) (eC (.int 1))) (Qk ixG (Qd 4) (eC (.int 2)))))) (Qs (sIf (eB (Qk isD (Qk ixG (Qd 4) (eC (.int 4))) (eC .non))) (QJ (Qd 1)) (Zo)) (QU 2 (Qk ixG (Qd 4) (eC (.int 4))))))
def yr:DSx:=jJ (xOf (Qdi (Qc (QE "Shelf" "pages" 1 Jq (Qd 0) Qn) (Qn)))) (gN 3) (qM)
def Ke:DSx:=Qs (QU 1 (YG (Qn))) (Qs (QU 2 (eC (.int 0))) (Qs (yr) (QJ (eC .non))))
def YX:List DV->M DV:=Q2 5 Ke
abbrev UH:Stmt:=top 35
def qz:DEx:=J3 false (xLs (ZW UW (Qc (Qd 1) (Qn)))) [1,0] (eB (Xm leD ltD (Qk ixG (Qd 2) (eC (.int 1))) (Qd 0) (Qk ixG (Qd 2) (eC (.int 2))))) (Zt (Qc (Qd 0) (Qc (Qk ixG (Qd 1) (Qd 0)) (Qn))))
def kN:DSx:=Qs (sIf (eB (Qk eqG (Qk ixG (Qd 0) (eC (.int 0))) (eC (.str "stretch")))) (QJ (qz)) (Zo)) (Qs (QU 2 (Jz "dict" JY (Qd 1) (Qc (Qk ixG (Qd 0) (eC (.int 1))) (Qn)))) (Qs (sIf (eB (Qk eqG (Qk ixG (Qd 0) (eC (.int 0))) (eC (.str "put")))) (Ya (Qk ixG (Qd 0) (eC (.int 2))) (gSb (Qd 1) (Qk ixG (Qd 0) (eC (.int 1))))) (Zo)) (Qs (sIf (Xx (eB (Qk eqG (Qk ixG (Qd 0) (eC (.int 0))) (eC (.str "cut")))) (eB (Qk jt (Qd 2) (eC .non)))) (Ji (Jz "dict" X5 (Qd 1) (Qc (Qk ixG (Qd 0) (eC (.int 1))) (Qn)))) (Zo)) (QJ (Qd 2)))))
def qW:List DV->M DV:=Q2 3 kN
abbrev qu:Stmt:=Zn (top 21) 0
def xV:DSx:=Qs (Zb "Walk" "shelf" (Qd 0) (Qd 1)) (Qs (Zb "Walk" "deed" (Qd 0) (Qd 2)) (Qs (Zb "Walk" "aim" (Qd 0) (Qk ixG (Qd 2) (eC (.int 1)))) (Qs (Zb "Walk" "goal" (Qd 0) (eC (.int 0))) (Qs (Zb "Walk" "place" (Qd 0) (eC .non)) (Qs (Zb "Walk" "forks" (Qd 0) (JU)) (Qs (Zb "Walk" "new_page" (Qd 0) (eC .non)) (Qs (Zb "Walk" "worth" (Qd 0) (eC .non)) (Qs (Zb "Walk" "pairs" (Qd 0) (XM (Qn))) (Zb "Walk" "ended" (Qd 0) (eC (.bl false)))))))))))
def JO:List DV->M DV:=Q2 3 xV
abbrev jP:Stmt:=top 37
def qN:DSx:=Qs (sIf (eOr (eB (Qk jt (QE "Walk" "answer" 1 Q9 (Qd 4) Qn) (eC .non))) (eB (Qk isD (QE "Walk" "step" 1 JW (Qd 4) Qn) (eC .non)))) (QJ (eC (.bl false))) (Zo)) (QU 5 (Qk V7 (Qd 5) (eC (.int 1))))
def yt:DSx:=XJ (Xx (eB (Qk isD (QE "Walk" "over" 1 JA (Qd 4) Qn) (eC (.bl false)))) (eB (Qk gtD (Qd 5) (eC (.int 0))))) (qN) 100000
def Kf:DSx:=Qs (QU 4 (Xj "Walk" 3 JO (Qc (Qd 0) (Qc (Qd 1) (Qn))))) (Qs (Ji (Jz "list" ZN (Qd 3) (Qc (Zt (Qc (Qd 4) (Qc (Qd 2) (Qn)))) (Qn)))) (Qs (QU 5 (Qk Jd (QE "Shelf" "pages" 1 Jq (Qd 0) Qn) (eC (.int 8)))) (Qs (yt) (Qs (sIf (eOr (eB (Qk jt (QE "Walk" "over" 1 JA (Qd 4) Qn) (eC (.bl true)))) (eOr (Xf (eB (Qv 2 (QX 6) (Qc (QE "Walk" "answer" 1 Q9 (Qd 4) Qn) (Qc (Qd 2) (Qn)))))) (eB (Qk jt (QE "Walk" "step" 1 JW (Qd 4) Qn) (eC .non))))) (QJ (eC (.bl false))) (Zo)) (Qs (sIf (eB (YF "list" (Qd 2))) (Ji (Jz "list" ZN (QE "Walk" "answer" 1 Q9 (Qd 4) Qn) (Qc (Zt (Qc (eC (.int 0)) (Qc (eC (.int 0)) (Qn)))) (Qn)))) (Zo)) (QJ (Qv 2 (QX 6) (Qc (QE "Walk" "answer" 1 Q9 (Qd 4) Qn) (Qc (Qd 2) (Qn))))))))))
def YY:List DV->M DV:=Q2 6 Kf
abbrev Vh:Stmt:=top 30
def yx:DSx:=Qs (QU 3 (Qk yV (Qk Jd (Qd 0) (Qk Qbi (Qd 1) (eC (.int 3)))) (Qd 1))) (QJ (Qk yV (Qk yV (Qk jw (Qk yV (Qk jw (Qd 3) (Qd 3)) (Qd 1)) (Qd 3)) (Qd 1)) (Qd 2)))
def QP:List DV->M DV:=Q2 4 yx
abbrev xO:Stmt:=top 32
def Gd:DSx:=Qs (sIf (eB (Qk eqD (Qv 3 QP (Qc (Qd 0) (Qc (eC (.int 10037)) (Qc (eC (.int 4)) (Qn))))) (eC (.int 0)))) (QJ (Qk V7 (Qk yV (Qk Jd (Qk jw (Qk yV (Qd 0) (Qk qQ (eC (.int 10)) (eC (.int 40)))) (eC (.int 1000000000039))) (eC (.int 5))) (Qk Jd (Qk jw (eC (.int 2)) (Qk qQ (eC (.int 10)) (eC (.int 30)))) (eC (.int 1)))) (Qk qQ (eC (.int 10)) (eC (.int 30))))) (Zo)) (QJ (Qk V7 (Qv 3 QP (Qc (Qd 0) (Qc (eC (.int 10039)) (Qc (eC (.int 9)) (Qn))))) (eC (.int 4))))
def qB:List DV->M DV:=Q2 1 Gd
abbrev UJ:Stmt:=top 31
def kO:DSx:=Qs (QU 1 (Qv 3 QP (Qc (Qd 0) (Qc (eC (.int 10007)) (Qc (eC (.int 5)) (Qn)))))) (Qs (sIf (eB (Qk eqD (Qd 1) (eC (.int 0)))) (QJ (Qk V7 (Qk yV (Qk Jd (Qk jw (Qk yV (Qd 0) (Qk qQ (eC (.int 10)) (eC (.int 40)))) (eC (.int 1000000000039))) (eC (.int 11))) (Qk Jd (Qk jw (eC (.int 2)) (Qk qQ (eC (.int 10)) (eC (.int 30)))) (eC (.int 1)))) (Qk qQ (eC (.int 10)) (eC (.int 30))))) (Zo)) (QJ (Qk V7 (Qv 3 QP (Qc (Qd 0) (Qc (eC (.int 10009)) (Qc (Qk ixD (YG (Qc (eC (.int 10)) (Qc (eC (.int 10)) (Qc (eC (.int 41)) (Qc (eC (.int 120)) (Qc (eC (.int 120)) (Qn))))))) (Qd 1)) (Qn))))) (eC (.int 5)))))
def Yy:List DV->M DV:=Q2 2 kO
abbrev Vg:Stmt:=top 33
def vG:DSx:=Qs (QU 1 (Qv 3 QP (Qc (Qd 0) (Qc (eC (.int 10061)) (Qc (eC (.int 10)) (Qn)))))) (Qs (QU 2 (Qv 1 Yy (Qc (Qd 0) (Qn)))) (Qs (sIf (eB (Qk ltD (Qd 1) (eC (.int 5)))) (QJ (Zt (Qc (eC (.str "put")) (Qc (Qd 2) (Qc (Qv 1 qB (Qc (Qd 0) (Qn))) (Qn)))))) (Zo)) (Qs (sIf (eB (Qk ltD (Qd 1) (eC (.int 7)))) (QJ (Zt (Qc (eC (.str "cut")) (Qc (Qd 2) (Qn))))) (Zo)) (Qs (sIf (eB (Qk ltD (Qd 1) (eC (.int 9)))) (QJ (Zt (Qc (eC (.str "find")) (Qc (Qd 2) (Qn))))) (Zo)) (Qs (QU 3 (ZW KD (Qc (Qd 2) (Qc (Qk V7 (Qk qQ (eC (.int 10)) (eC (.int 30))) (eC (.int 1))) (Qn))))) (Qs (QU 4 (ZW KD (Qc (Qk qQ (eC (.int 10)) (eC (.int 30))) (Qc (Qk Jd (Qk Jd (Qd 3) (eC (.int 1))) (Qv 3 QP (Qc (Qd 0) (Qc (eC (.int 10067)) (Qc (eC (.int 50)) (Qn)))))) (Qn))))) (Qs (QU 5 (ZW KD (Qc (Qk qQ (eC (.int 10)) (eC (.int 30))) (Qc (Qk Jd (Qk Jd (Qd 3) (eC (.int 51))) (Qv 3 QP (Qc (Qd 0) (Qc (eC (.int 10151)) (Qc (eC (.int 150)) (Qn)))))) (Qn))))) (QJ (Zt (Qc (eC (.str "stretch")) (Qc (Qd 3) (Qc (Qk ixD (YG (Qc (Qk Jd (Qd 3) (eC (.int 1))) (Qc (Qd 4) (Qc (Qd 5) (Qc (Qk qQ (eC (.int 10)) (eC (.int 30))) (Qn)))))) (Qv 3 QP (Qc (Qd 0) (Qc (eC (.int 10069)) (Qc (eC (.int 4)) (Qn)))))) (Qn)))))))))))))
def zD:List DV->M DV:=Q2 6 vG
abbrev YM:Stmt:=Zn (top 27) 0
def YA:DSx:=Qs (Zb "Shelf" "page_room" (Qd 0) (Qd 1)) (Qs (Zb "Shelf" "kept" (Qd 0) (XM (Qc (eC (.tup [.int 0,.tup [],.tup [],.non,.non])) (Qn)))) (Qs (Zb "Shelf" "top" (Qd 0) (eC (.int 0))) (Qs (Zb "Shelf" "read_count" (Qd 0) (eC (.int 0))) (Zb "Shelf" "write_count" (Qd 0) (eC (.int 0))))))
def ZS:List DV->M DV:=Q2 2 YA
abbrev zC:Stmt:=top 29
def Yo:DSx:=Qs (sIf (eB (Qk ltD (Qd 1) (ZW qd (Qc (Qd 0) (Qn))))) (QJ (Qk ixD (Qd 0) (Qd 1))) (Zo)) (QJ (eC (.int 0)))
def Zh:List DV->M DV:=Q2 2 Yo
abbrev xM:Stmt:=top 39
def U4:DEx:=J3 false (xLs (ZW UW (Qc (Qd 2) (Qn)))) [2] (Qga) (Zt (Qc (Qd 0) (Qc (Qk ixG (Qd 1) (Qd 0)) (Qn))))
def Kx:DSx:=Qs (QU 5 (Qv 1 zD (Qc (Qd 4) (Qn)))) (Qs (sIf (Xf (eB (Qv 4 YY (Qc (Qd 1) (Qc (Qd 5) (Qc (Qv 2 qW (Qc (Qd 5) (Qc (Qd 2) (Qn)))) (Qc (Qd 3) (Qn)))))))) (QJ (eC (.bl false))) (Zo)) (sIf (Xf (eB (Qv 2 (QX 6) (Qc (Qv 1 YX (Qc (Qd 1) (Qn))) (Qc (U4) (Qn)))))) (QJ (eC (.bl false))) (Zo)))
def QcU:DSx:=jJ (xLs (eSl (Qd 0) (ZQ) (ZR (eC (.int 120))))) (gN 4) (Kx)
def Qgs:DSx:=Qs (QU 1 (Xj "Shelf" 2 ZS (Qc (Qk Jd (eC (.int 2)) (Qk jw (Qv 3 QP (Qc (Qv 2 Zh (Qc (Qd 0) (Qc (eC (.int 0)) (Qn)))) (Qc (eC (.int 10079)) (Qc (eC (.int 7)) (Qn))))) (Qv 3 QP (Qc (Qv 2 Zh (Qc (Qd 0) (Qc (eC (.int 0)) (Qn)))) (Qc (eC (.int 10091)) (Qc (eC (.int 2)) (Qn))))))) (Qn)))) (Qs (QU 2 (JU)) (Qs (QU 3 (XM (Qn))) (Qs (QcU) (QJ (Qv 2 qA (Qc (Qd 1) (Qc (Qd 3) (Qn))))))))
def K7:List DV->M DV:=Q2 6 Qgs
structure Al (K:Aa) (mg:Ei):Prop where
 z0:mg "list" = none
 z1:mg "isinstance" = none
 z2:mg "int" = none
 z3:mg "bool" = none
 z4:mg "tuple" = none
 z5:mg "zip" = none
 z6:mg "len" = none
 z7:mg "range" = none
 z8:mg "sorted" = none
 z9:mg "min" = none
 g0:UG mg "SIDE" 4
 g1:UG mg "HIGH" 3
 g2:UG mg "KEYS" 1
 g3:UG mg "PARTS" 2
 g4:UG mg "LEVEL" 0
 t0:UT K mg "EMPTY_LEAF" (.tup [.int 0,.tup [],.tup [],.non,.non])
 k0:Y2 K "Shelf" "write_count"
 k1:Y2 K "Shelf" "read_count"
 k2:Y2 K "Walk" "worth"
 k3:Y2 K "Walk" "deed"
 k4:Y2 K "Walk" "pairs"
 k5:Y2 K "Walk" "ended"
 k6:Y2 K "Walk" "aim"
 k7:Y2 K "Walk" "place"
 k8:Y2 K "Shelf" "kept"
 k9:Y2 K "Walk" "shelf"
 k10:Y2 K "Shelf" "page_room"
 k11:Y2 K "Walk" "new_page"
 k12:Y2 K "Walk" "forks"
 k13:Y2 K "Walk" "goal"
 k14:Y2 K "Shelf" "top"
 u0:UM K "Shelf" "writings" "Shelf.writings" YO
 u1:UM K "Shelf" "readings" "Shelf.readings" YN
 u2:UM K "Walk" "answer" "Walk.answer" zy
 u3:UF K mg "_law_same" Vi
 u4:UM K "Walk" "over" "Walk.over" xK
 u5:UM K "Walk" "read_pairs" "Walk.read_pairs" Yi
 u6:UM K "Shelf" "check_number" "Shelf.check_number" XA
 u7:UM K "Shelf" "write" "Shelf.write" zx
 u8:UF K mg "refilled" Vj
 u9:UF K mg "count_not_above" Yj
 u10:UF K mg "count_below" zB
 u11:UF K mg "with_run" Vl
 u12:UF K mg "without" UK
 u13:UF K mg "worth_of" Vm
 u14:UM K "Walk" "cut_key" "Walk.cut_key" qR
 u15:UM K "Shelf" "lay" "Shelf.lay" xJ
 u16:UM K "Shelf" "pages" "Shelf.pages" zw
 u17:UF K mg "parted" vb
 u18:UM K "Shelf" "room" "Shelf.room" jL
 u19:UF K mg "is_full" UD
 u20:UM K "Walk" "settle" "Walk.settle" zA
 u21:UF K mg "with_pair" xP
 u22:UM K "Walk" "put_pair" "Walk.put_pair" qv
 u23:UM K "Walk" "find_worth" "Walk.find_worth" Yh
 u24:UM K "Walk" "do_deed" "Walk.do_deed" qS
 u25:UF K mg "with_kid" Vk
 u26:UM K "Walk" "tell_fork" "Walk.tell_fork" YQ
 u27:UM K "Walk" "go_on" "Walk.go_on" jN
 u28:UF K mg "kid_for" UE
 u29:UF K mg "beyond" va
 u30:UM K "Shelf" "raise_root" "Shelf.raise_root" X8
 u31:UM K "Walk" "raise_root_over" "Walk.raise_root_over" Xc
 u32:UM K "Shelf" "read" "Shelf.read" jK
 u33:UM K "Shelf" "root" "Shelf.root" jM
 u34:UM K "Walk" "step" "Walk.step" xL
 u35:UF K mg "_law_still" xN
 u36:UF K mg "_law_leaves" jO
 u37:UF K mg "_law_due" UH
 u38:UI K mg "Walk" "Walk.__init__" qu
 u39:UF K mg "_law_walked" jP
 u40:UF K mg "_law_pick" Vh
 u41:UF K mg "_law_worth" xO
 u42:UF K mg "_law_key" UJ
 u43:UF K mg "_law_deed" Vg
 u44:UI K mg "Shelf" "Shelf.__init__" YM
 u45:UF K mg "_law_cell_at" zC
theorem jS:Qt ["self"] ["self"] (Qo YO):=Zd (by decide +kernel)
theorem jR:Qt ["self"] ["self"] (Qo YN):=Zd (by decide +kernel)
theorem Vp:Qt ["self"] ["self"] (Qo zy):=Zd (by decide +kernel)
theorem sc_law_same:Qt ["found", "due", "one", "other"] ["found", "due"] (Qo Vi):=Zd (by decide +kernel)
theorem KO:Qt ["self"] ["self"] (Qo xK):=Zd (by decide +kernel)
theorem sc_Walk_read_pairs:Qt ["self", "number", "leaf", "low", "high", "pairs"] ["self", "number", "leaf"] (Qo Yi):=Zd (by decide +kernel)
theorem qy:Qt ["self", "number"] ["self", "number"] (Qo XA):=Zd (by decide +kernel)
theorem Vo:Qt ["self", "number", "page"] ["self", "number", "page"] (Qo zx):=Zd (by decide +kernel)
theorem ve:Qt ["page", "keys", "parts"] ["page", "keys", "parts"] (Qo Vj):=Zd (by decide +kernel)
theorem zT:Qt ["keys", "key"] ["keys", "key"] (Qo Yj):=Zd (by decide +kernel)
theorem Vq:Qt ["keys", "key"] ["keys", "key"] (Qo zB):=Zd (by decide +kernel)
theorem sc_with_run:Qt ["page", "key", "new_keys", "new_worths", "keys", "worths", "start", "stop"] ["page", "key", "new_keys", "new_worths"] (Qo Vl):=Zd (by decide +kernel)
theorem uE:Qt ["page", "key"] ["page", "key"] (Qo UK):=Zd (by decide +kernel)
theorem sc_worth_of:Qt ["page", "key", "keys", "place"] ["page", "key"] (Qo Vm):=Zd (by decide +kernel)
theorem x9:Qt ["self", "number", "leaf"] ["self", "number", "leaf"] (Qo qR):=Zd (by decide +kernel)
theorem KN:Qt ["self", "page"] ["self", "page"] (Qo xJ):=Zd (by decide +kernel)
theorem Vn:Qt ["self"] ["self"] (Qo zw):=Zd (by decide +kernel)
theorem sc_parted:Qt ["page", "number", "level", "keys", "parts", "middle", "key", "cut", "old", "new"] ["page", "number"] (Qo vb):=Zd (by decide +kernel)
theorem V3:Qt ["self"] ["self"] (Qo jL):=Zd (by decide +kernel)
theorem uC:Qt ["page", "room"] ["page", "room"] (Qo UD):=Zd (by decide +kernel)
theorem sc_Walk_settle:Qt ["self", "number", "page", "halves"] ["self", "number", "page"] (Qo zA):=Zd (by decide +kernel)
theorem KQ:Qt ["page", "key", "worth"] ["page", "key", "worth"] (Qo xP):=Zd (by decide +kernel)
theorem sc_Walk_put_pair:Qt ["self", "number", "leaf", "new_page"] ["self", "number", "leaf"] (Qo qv):=Zd (by decide +kernel)
theorem zS:Qt ["self", "number", "leaf"] ["self", "number", "leaf"] (Qo Yh):=Zd (by decide +kernel)
theorem sc_Walk_do_deed:Qt ["self", "number", "leaf", "word"] ["self", "number", "leaf"] (Qo qS):=Zd (by decide +kernel)
theorem sc_with_kid:Qt ["page", "key", "kid", "keys", "kids", "place", "behind"] ["page", "key", "kid"] (Qo Vk):=Zd (by decide +kernel)
theorem sc_Walk_tell_fork:Qt ["self", "number", "fork", "new_page"] ["self", "number", "fork"] (Qo YQ):=Zd (by decide +kernel)
theorem V5:Qt ["self", "word", "number", "to"] ["self", "word", "number", "to"] (Qo jN):=Zd (by decide +kernel)
theorem uD:Qt ["page", "key"] ["page", "key"] (Qo UE):=Zd (by decide +kernel)
theorem sc_beyond:Qt ["page", "key", "high"] ["page", "key"] (Qo va):=Zd (by decide +kernel)
theorem sc_Shelf_raise_root:Qt ["self", "key", "number", "level"] ["self", "key", "number"] (Qo X8):=Zd (by decide +kernel)
theorem YR:Qt ["self", "number"] ["self", "number"] (Qo Xc):=Zd (by decide +kernel)
theorem V2:Qt ["self", "number"] ["self", "number"] (Qo jK):=Zd (by decide +kernel)
theorem V4:Qt ["self"] ["self"] (Qo jM):=Zd (by decide +kernel)
theorem sc_Walk_step:Qt ["self", "number", "page"] ["self"] (Qo xL):=Zd (by decide +kernel)
theorem sc_law_still:Qt ["shelf", "ended", "counts", "walk", "due"] ["shelf", "ended"] (Qo xN):=Zd (by decide +kernel)
theorem sc_law_leaves:Qt ["shelf", "found", "number", "k", "page"] ["shelf"] (Qo jO):=Zd (by decide +kernel)
theorem sc_law_due:Qt ["deed", "table", "old"] ["deed", "table"] (Qo UH):=Zd (by decide +kernel)
theorem xu:Qt ["self", "shelf", "deed"] ["self", "shelf", "deed"] (Qo qu):=Zd (by decide +kernel)
theorem sc_law_walked:Qt ["shelf", "deed", "due", "ended", "walk", "left"] ["shelf", "deed", "due", "ended"] (Qo jP):=Zd (by decide +kernel)
theorem sc_law_pick:Qt ["cell", "prime", "many", "low"] ["cell", "prime", "many"] (Qo Vh):=Zd (by decide +kernel)
theorem KP:Qt ["cell"] ["cell"] (Qo xO):=Zd (by decide +kernel)
theorem sc_law_key:Qt ["cell", "way"] ["cell"] (Qo UJ):=Zd (by decide +kernel)
theorem sc_law_deed:Qt ["cell", "kind", "key", "low", "near", "far"] ["cell"] (Qo Vg):=Zd (by decide +kernel)
theorem jQ:Qt ["self", "room"] ["self", "room"] (Qo YM):=Zd (by decide +kernel)
theorem Vr:Qt ["script", "k"] ["script", "k"] (Qo zC):=Zd (by decide +kernel)
theorem sc_law:Qt ["script", "shelf", "table", "ended", "cell", "deed"] ["script"] (Qo xM):=Zd (by decide +kernel)
section
variable {P:Program} {w:World} {K:Aa} {mg:Ei} {O8:Heap} (Z:Al K mg)
include Z
def X4:Xt P w K mg O8 "Shelf" "writings" 1 1 ZV:=hM Z.u0 jS fun _ _ _ _ _ _ _ hr=>Qq (Qu (Qz Z.k0 (Qa 0)))
def X3:Xt P w K mg O8 "Shelf" "readings" 1 1 ZT:=hM Z.u1 jR fun _ _ _ _ _ _ _ hr=>Qq (Qu (Qz Z.k1 (Qa 0)))
def Jn:Xt P w K mg O8 "Walk" "answer" 1 1 Q9:=hM Z.u2 Vp fun _ _ _ _ _ _ _ hr=>Qi (Zz (Y8 (Yb (Qz Z.k5 (Qa 0)))) (Qq (Qu ZG)) QT) (Qi (Zz (Q6 (jA hr.units) (Q5 (Zg hr) (Qz Z.k3 (Qa 0)) Qp) Je (QV _)) (Qq (Qu (Qbe QcZ Z.z0 boot_list (Qb (Qz Z.k4 (Qa 0)) Qm)))) QT) (Qq (Qu (Qz Z.k2 (Qa 0)))))
theorem J4:∀ j:Nat,Has P w K mg O8 "_law_same" (0+j) 2 (QX j)
 | 0=>let ⟨_,_,F,hm⟩:=Z.u3.ex;Qby F hm (ps:=["found", "due"]) (fun _ _ _ _ _ _ us hl=>match us,hl with | [_,_],_=>rfl)
 | j+1=>have h_law_same:=J4 j;hf Z.u3 sc_law_same fun _ _ _ _ _ _ _ hr=>Qi (Zz (Yb (gh Z.z1 Z.z0 Z.z4 (Qa 1))) (Qi (Zz (DW.pt (yD (Q6 (QeH hr.units) (jf Z.z1 Z.z0 boot_list (by decide) (Qa 0)) (jf Z.z1 Z.z0 boot_list (by decide) (Qa 1)) (QV _)) (yE (Y8 (Yb (gh Z.z1 Z.z0 Z.z4 (Qa 0))))))) (Qq (Qu Xi)) QT) (Qi (Zz (Q6 (QeH hr.units) (JT zH Z.z6 PySem.boot_len (Qb (Qa 0) Qm)) (JT zH Z.z6 PySem.boot_len (Qb (Qa 1) Qm)) (QV _)) (Qq (Qu Xi)) QT) (Qi (ye PassesOwn.never rfl (Qe4 (by rfl) (by exact Z.z5) (Qa 0) (Qa 1)) (Qbf [2,3] sc_law_same.nd (by repeat' (first | exact trivial | refine ⟨rfl,(by first | exact .inl rfl | exact .inr rfl),.inl rfl,?_⟩)) rfl (fun _ _ _=>rfl)) (Qq (Zz (Y8 (Yb (QF h_law_same hr (Ae _) Qw (Qb (Qa 2) (Qb (Qa 3) Qm))))) (Qq (Qu Xi)) QT))) (Qq (Qu Xi))))) QT) (Qi (Zz (Q6 GZ (Qa 1) ZG (QV _)) (Qq (Qu (j7 GZ (Qa 0) ZG (QV _)))) QT) (Qq (Qu (vN (jf Z.z1 Z.z2 boot_int (by decide) (Qa 0)) (vN (Qe0 (jf Z.z1 Z.z3 boot_bool (by decide) (Qa 0))) (Qbd (j7 (jA hr.units) (Qa 0) (Qa 1) (QV _))))))))
def Yr:Xt P w K mg O8 "Walk" "over" 1 1 JA:=hM Z.u4 KO fun _ _ _ _ _ _ _ hr=>Qq (Qu (Qz Z.k5 (Qa 0)))
theorem zk:Xt P w K mg O8 "Walk" "read_pairs" 1 3 J1:=hM Z.u5 sc_Walk_read_pairs fun _ _ _ _ _ _ _ hr=>let ⟨_,g_SIDE⟩:=Z.g0.ex;let ⟨_,g_HIGH⟩:=Z.g1.ex;let ⟨_,g_KEYS⟩:=Z.g2.ex;let ⟨_,g_PARTS⟩:=Z.g3.ex;Qi (QM 3 sc_Walk_read_pairs.nd (Q5 (Zg hr) (Qz Z.k3 (Qa 0)) Qp)) (Qi (QM 4 sc_Walk_read_pairs.nd (Q5 (Zg hr) (Qz Z.k3 (Qa 0)) Qp)) (Qi (Qbl 5 sc_Walk_read_pairs.nd (caps:=["low", "high"]) (idx:=[3,4]) ⟨by with_unfolding_all rfl,by decide +kernel,rfl,by decide +kernel,rfl,(by exact ⟨rfl,⟨rfl,trivial⟩⟩),by with_unfolding_all rfl,(by exact ⟨rfl,.inl rfl,⟨_,rfl⟩,(fun h=>NameKind.noConfusion (Ak (show some NameKind.cell=some NameKind.local from h))),⟨rfl,.inl rfl,⟨_,rfl⟩,(fun h=>NameKind.noConfusion (Ak (show some NameKind.cell=some NameKind.local from h))),trivial⟩⟩),by decide⟩ rfl (gw (Qc7 (by rfl) (by exact Z.z5) (Q5 (Zg hr) (Qa 2) (Q8 rfl g_KEYS)) (Q5 (Zg hr) (Qa 2) (Q8 rfl g_PARTS)))) (fun _ _ _ _=>yf (yC QdE KI (Qa 1) (Q5 (Zg hr) (Qa 0) Qp) (Qa 2))) (fun _ _ _ _=>Qa 0)) (Qi (J2 (zI QbN PySem.F.plainAttrs_list PySem.F.slot_list_extend PySem.F.type_list_extend (Qz Z.k4 (Qa 0)) (Qb (Qa 5) Qm))) (Qi (Zz (DW.pt (yD (Q6 GZ (Q5 (Zg hr) (Qa 2) (Q8 rfl g_HIGH)) ZG (QV _)) (yE (Q6 Qg1 (Q5 (Zg hr) (Qa 2) (Q8 rfl g_HIGH)) (Qa 4) (QV _))))) (Qi (Zk Z.k5 (Qa 0) Xi) (Qq (Qu (Zj (Qb Je (Qb (Qa 1) (Qb (Qbe Gf Z.z4 boot_tuple (Qb (Qa 5) Qm)) (Qb ZG (Qb ZG Qm))))))))) QT) (Qi (Zk Z.k6 (Qa 0) (Q5 (Zg hr) (Qa 2) (Q8 rfl g_HIGH))) (Qi (Zk Z.k7 (Qa 0) (Q5 (Zg hr) (Qa 2) (Q8 rfl g_SIDE))) (Qq (Qu (Zj (Qb Je (Qb (Qa 1) (Qb (Qbe Gf Z.z4 boot_tuple (Qb (Qa 5) Qm)) (Qb (Qz Z.k7 (Qa 0)) (Qb (Qz Z.k6 (Qa 0)) Qm))))))))))))))
def Jm:Xt P w K mg O8 "Shelf" "check_number" 1 2 Zl:=hM Z.u6 qy fun _ _ _ _ _ _ _ hr=>Qq (Zz (Y8 (yC QdE KI Qp (Qa 1) (JT zH Z.z6 PySem.boot_len (Qb (Qz Z.k8 (Qa 0)) Qm)))) (Qq Qc8) QT)
theorem XG:Xt P w K mg O8 "Shelf" "write" 2 3 Jr:=hM Z.u7 Vo fun _ _ _ _ _ _ _ hr=>Qi (J2 (Zv (Jm Z) hr (by decide) Qw (Qa 0) (Qb (Qa 1) Qm))) (Qi (j9 Z.k0 (Qa 0) Qp) (Qq (vU (Qa 2) (vQ (Zg hr) (Qz Z.k8 (Qa 0)) (Qa 1)))))
def jq:Has P w K mg O8 "refilled" 1 3 YZ:=hf Z.u8 ve fun _ _ _ _ _ _ _ hr=>let ⟨_,g_SIDE⟩:=Z.g0.ex;let ⟨_,g_HIGH⟩:=Z.g1.ex;let ⟨_,g_LEVEL⟩:=Z.g4.ex;Qq (Qu (Zj (Qb (Ju (Qa 0) (Q8 rfl g_LEVEL)) (Qb (Qa 1) (Qb (Qa 2) (Qb (Ju (Qa 0) (Q8 rfl g_HIGH)) (Qb (Ju (Qa 0) (Q8 rfl g_SIDE)) Qm)))))))
theorem Jc:Has P w K mg O8 "count_not_above" 1 2 Zq:=hf Z.u9 zT fun _ _ _ _ _ _ _ hr=>Qq (Qu (JT zH Z.z6 PySem.boot_len (Qb (je (caps:=["key"]) (idx:=[1]) ⟨by with_unfolding_all rfl,by decide +kernel,rfl,by decide +kernel,rfl,(by exact ⟨rfl,trivial⟩),by with_unfolding_all rfl,(by exact ⟨rfl,.inl rfl,⟨_,rfl⟩,(fun h=>NameKind.noConfusion (Ak (show some NameKind.cell=some NameKind.local from h))),trivial⟩),by decide⟩ rfl (gw (Qbh (Qa 0))) (fun _ _ _ _=>yf (Q6 QdE (Qa 0) (Qa 1) (QV _))) (fun _ _ _ _=>Qa 0)) Qm)))
theorem qq:Has P w K mg O8 "count_below" 1 2 Xq:=hf Z.u10 Vq fun _ _ _ _ _ _ _ hr=>Qq (Qu (JT zH Z.z6 PySem.boot_len (Qb (je (caps:=["key"]) (idx:=[1]) ⟨by with_unfolding_all rfl,by decide +kernel,rfl,by decide +kernel,rfl,(by exact ⟨rfl,trivial⟩),by with_unfolding_all rfl,(by exact ⟨rfl,.inl rfl,⟨_,rfl⟩,(fun h=>NameKind.noConfusion (Ak (show some NameKind.cell=some NameKind.local from h))),trivial⟩),by decide⟩ rfl (gw (Qbh (Qa 0))) (fun _ _ _ _=>yf (Q6 KI (Qa 0) (Qa 1) (QV _))) (fun _ _ _ _=>Qa 0)) Qm)))
theorem jr:Has P w K mg O8 "with_run" 2 4 Y1:=hf Z.u11 sc_with_run fun _ _ _ _ _ _ _ hr=>let ⟨_,g_PARTS⟩:=Z.g3.ex;let ⟨_,g_KEYS⟩:=Z.g2.ex;Qi (QM 4 sc_with_run.nd (Ju (Qa 0) (Q8 rfl g_KEYS))) (Qi (QM 5 sc_with_run.nd (Ju (Qa 0) (Q8 rfl g_PARTS))) (Qi (QM 6 sc_with_run.nd (QF (qq Z) hr (by decide) Qw (Qb (Qa 4) (Qb (Qa 1) Qm)))) (Qi (QM 7 sc_with_run.nd (QF (Jc Z) hr (by decide) Qw (Qb (Qa 4) (Qb (Qa 1) Qm)))) (Qq (Qu (QF (jq Z) hr (by decide) Qw (Qb (Qa 0) (Qb (QA Jy (QA Jy (YD (Qa 4) JG (JH (Qa 6))) (Qa 2)) (YD (Qa 4) (JH (Qa 7)) JG)) (Qb (QA Jy (QA Jy (YD (Qa 5) JG (JH (Qa 6))) (Qa 3)) (YD (Qa 5) (JH (Qa 7)) JG)) Qm)))))))))
theorem GN:Has P w K mg O8 "without" 3 2 jW:=hf Z.u12 uE fun _ _ _ _ _ _ _ hr=>Qq (Qu (QF (jr Z) hr (by decide) Qw (Qb (Qa 0) (Qb (Qa 1) (Qb (Zj Qm) (Qb (Zj Qm) Qm))))))
theorem Y9:Has P w K mg O8 "worth_of" 2 2 JS:=hf Z.u13 sc_worth_of fun _ _ _ _ _ _ _ hr=>let ⟨_,g_PARTS⟩:=Z.g3.ex;let ⟨_,g_KEYS⟩:=Z.g2.ex;Qi (QM 2 sc_worth_of.nd (Ju (Qa 0) (Q8 rfl g_KEYS))) (Qi (QM 3 sc_worth_of.nd (QF (qq Z) hr (by decide) Qw (Qb (Qa 2) (Qb (Qa 1) Qm)))) (Qi (Zz (Q6 (QdC hr.units) (Qa 3) (QF (Jc Z) hr (by decide) Qw (Qb (Qa 2) (Qb (Qa 1) Qm))) (QV _)) (Qq (Qu ZG)) QT) (Qq (Qu (Ju (Ju (Qa 0) (Q8 rfl g_PARTS)) (Qa 3))))))
theorem xb:Xt P w K mg O8 "Walk" "cut_key" 4 3 XY:=hM Z.u14 x9 fun _ _ _ _ _ _ _ hr=>Qi (Zk Z.k2 (Qa 0) (QF (Y9 Z) hr (by decide) Qw (Qb (Qa 2) (Qb (Qz Z.k6 (Qa 0)) Qm)))) (Qi (Zz (Q6 xG (Qz Z.k2 (Qa 0)) ZG (QV _)) (Qq (J2 (Zv (XG Z) hr (by decide) Qw (Qz Z.k9 (Qa 0)) (Qb (Qa 1) (Qb (QF (GN Z) hr (by decide) Qw (Qb (Qa 2) (Qb (Qz Z.k6 (Qa 0)) Qm))) Qm))))) QT) (Qi (Zk Z.k5 (Qa 0) Xi) (Qq (Qu (Zj (Qb Je (Qb (Qa 1) (Qb (Qz Z.k2 (Qa 0)) Qm))))))))
def zq:Xt P w K mg O8 "Shelf" "lay" 1 2 Xs:=hM Z.u15 KN fun _ _ _ _ _ _ _ hr=>Qi (j9 Z.k0 (Qa 0) Qp) (Qi (J2 (zI yT PySem.F.plainAttrs_list PySem.F.slot_list_append PySem.F.type_list_append (Qz Z.k8 (Qa 0)) (Qb (Qa 1) Qm))) (Qq (Qu (QA y6 (JT zH Z.z6 PySem.boot_len (Qb (Qz Z.k8 (Qa 0)) Qm)) Qp))))
def XF:Xt P w K mg O8 "Shelf" "pages" 1 1 Jq:=hM Z.u16 Vn fun _ _ _ _ _ _ _ hr=>Qq (Qu (JT zH Z.z6 PySem.boot_len (Qb (Qz Z.k8 (Qa 0)) Qm)))
def v0:Has P w K mg O8 "parted" 1 2 zW:=hf Z.u17 sc_parted fun _ _ _ _ _ _ _ hr=>let ⟨_,g_SIDE⟩:=Z.g0.ex;let ⟨_,g_HIGH⟩:=Z.g1.ex;let ⟨_,g_PARTS⟩:=Z.g3.ex;let ⟨_,g_KEYS⟩:=Z.g2.ex;let ⟨_,g_LEVEL⟩:=Z.g4.ex;Qi (QM 2 sc_parted.nd (Ju (Qa 0) (Q8 rfl g_LEVEL))) (Qi (QM 3 sc_parted.nd (Ju (Qa 0) (Q8 rfl g_KEYS))) (Qi (QM 4 sc_parted.nd (Ju (Qa 0) (Q8 rfl g_PARTS))) (Qi (QM 5 sc_parted.nd (QA QeG (JT gc Z.z6 PySem.boot_len (Qb (Qa 3) Qm)) Qp)) (Qi (QM 6 sc_parted.nd (Ju (Qa 3) (Qa 5))) (Qi (QM 7 sc_parted.nd (Qex (Q6 (QdC hr.units) (Qa 2) Qp (QV _)) (Qa 5) (QA Jy (Qa 5) Qp))) (Qi (QM 8 sc_parted.nd (Zj (Qb (Qa 2) (Qb (YD (Qa 3) JG (JH (Qa 5))) (Qb (YD (Qa 4) JG (JH (Qa 7))) (Qb (Qa 6) (Qb (Qa 1) Qm))))))) (Qi (QM 9 sc_parted.nd (Zj (Qb (Qa 2) (Qb (YD (Qa 3) (JH (Qa 7)) JG) (Qb (YD (Qa 4) (JH (Qa 7)) JG) (Qb (Ju (Qa 0) (Q8 rfl g_HIGH)) (Qb (Ju (Qa 0) (Q8 rfl g_SIDE)) Qm))))))) (Qq (Qu (Zj (Qb (Qa 8) (Qb (Qa 9) (Qb (Qa 6) Qm)))))))))))))
def yH:Xt P w K mg O8 "Shelf" "room" 1 1 Jk:=hM Z.u18 V3 fun _ _ _ _ _ _ _ hr=>Qq (Qu (Qz Z.k10 (Qa 0)))
def GJ:Has P w K mg O8 "is_full" 1 2 XT:=hf Z.u19 uC fun _ _ _ _ _ _ _ hr=>let ⟨_,g_KEYS⟩:=Z.g2.ex;Qq (Qu (j7 QdD (JT gc Z.z6 PySem.boot_len (Qb (Ju (Qa 0) (Q8 rfl g_KEYS)) Qm)) (Qa 1) (QV _)))
theorem qp:Xt P w K mg O8 "Walk" "settle" 3 3 Xp:=hM Z.u20 sc_Walk_settle fun _ _ _ _ _ _ _ hr=>let ⟨_,g_LEVEL⟩:=Z.g4.ex;Qi (Zz (Y8 (Yb (QF (GJ Z) hr (by decide) Qw (Qb (Qa 2) (Qb (Zm (yH Z) hr (by decide) Qw (Qz Z.k9 (Qa 0))) Qm))))) (Qi (J2 (Zv (XG Z) hr (by decide) Qw (Qz Z.k9 (Qa 0)) (Qb (Qa 1) (Qb (Qa 2) Qm)))) (Qi (Zk Z.k5 (Qa 0) Xi) (Qq (Qu ZG)))) QT) (Qi (QM 3 sc_Walk_settle.nd (QF (v0 Z) hr (by decide) Qw (Qb (Qa 2) (Qb (Zm (XF Z) hr (by decide) Qw (Qz Z.k9 (Qa 0))) Qm)))) (Qi (Zk Z.k11 (Qa 0) (Zv (zq Z) hr (by decide) Qw (Qz Z.k9 (Qa 0)) (Qb (Q5 (Zg hr) (Qa 3) Qp) Qm))) (Qi (J2 (Zv (XG Z) hr (by decide) Qw (Qz Z.k9 (Qa 0)) (Qb (Qa 1) (Qb (Q5 (Zg hr) (Qa 3) Qp) Qm)))) (Qi (Zk Z.k6 (Qa 0) (Q5 (Zg hr) (Qa 3) Qp)) (Qi (Zk Z.k13 (Qa 0) (QA Jy (Q5 (Zg hr) (Qa 2) (Q8 rfl g_LEVEL)) Qp)) (Qi (Zk Z.k7 (Qa 0) (zI (QbM (Zg hr)) PySem.F.plainAttrs_dict PySem.F.slot_dict_get PySem.F.type_dict_get (Qz Z.k12 (Qa 0)) (Qb (Qz Z.k13 (Qa 0)) Qm))) (Qq (Qu (Qz Z.k11 (Qa 0))))))))))
theorem VY:Has P w K mg O8 "with_pair" 3 3 qC:=hf Z.u21 KQ fun _ _ _ _ _ _ _ hr=>Qq (Qu (QF (jr Z) hr (by decide) Qw (Qb (Qa 0) (Qb (Qa 1) (Qb (Zj (Qb (Qa 1) Qm)) (Qb (Zj (Qb (Qa 2) Qm)) Qm))))))
theorem jp:Xt P w K mg O8 "Walk" "put_pair" 4 3 XC:=hM Z.u22 sc_Walk_put_pair fun _ _ _ _ _ _ _ hr=>Qi (Zk Z.k2 (Qa 0) (QF (Y9 Z) hr (by decide) Qw (Qb (Qa 2) (Qb (Qz Z.k6 (Qa 0)) Qm)))) (Qi (QM 3 sc_Walk_put_pair.nd (Zv (qp Z) hr (by decide) Qw (Qa 0) (Qb (Qa 1) (Qb (QF (VY Z) hr (by decide) Qw (Qb (Qa 2) (Qb (Qz Z.k6 (Qa 0)) (Qb (Q5 (Zg hr) (Qz Z.k3 (Qa 0)) Qp) Qm)))) Qm)))) (Qq (Qu (Zj (Qb Je (Qb (Qa 1) (Qb (Qz Z.k2 (Qa 0)) (Qb (Qa 3) Qm))))))))
theorem zj:Xt P w K mg O8 "Walk" "find_worth" 3 3 J0:=hM Z.u23 zS fun _ _ _ _ _ _ _ hr=>Qi (Zk Z.k2 (Qa 0) (QF (Y9 Z) hr (by decide) Qw (Qb (Qa 2) (Qb (Qz Z.k6 (Qa 0)) Qm)))) (Qi (Zk Z.k5 (Qa 0) Xi) (Qq (Qu (Zj (Qb Je (Qb (Qa 1) (Qb (Qz Z.k2 (Qa 0)) Qm)))))))
theorem xc:Xt P w K mg O8 "Walk" "do_deed" 5 3 XZ:=hM Z.u24 sc_Walk_do_deed fun _ _ _ _ _ _ _ hr=>Qi (QM 3 sc_Walk_do_deed.nd (Q5 (Zg hr) (Qz Z.k3 (Qa 0)) Qp)) (Qi (Zz (Q6 (jA hr.units) (Qa 3) Je (QV _)) (Qq (Qu (Zv (zj Z) hr (by decide) Qw (Qa 0) (Qb (Qa 1) (Qb (Qa 2) Qm))))) QT) (Qi (Zz (Q6 (jA hr.units) (Qa 3) Je (QV _)) (Qq (Qu (Zv (jp Z) hr (by decide) Qw (Qa 0) (Qb (Qa 1) (Qb (Qa 2) Qm))))) QT) (Qi (Zz (Q6 (jA hr.units) (Qa 3) Je (QV _)) (Qq (Qu (Zv (xb Z) hr (by decide) Qw (Qa 0) (Qb (Qa 1) (Qb (Qa 2) Qm))))) QT) (Qq (Qu (Zv (zk Z) hr (by decide) Qw (Qa 0) (Qb (Qa 1) (Qb (Qa 2) Qm))))))))
theorem Kq:Has P w K mg O8 "with_kid" 2 3 Y0:=hf Z.u25 sc_with_kid fun _ _ _ _ _ _ _ hr=>let ⟨_,g_PARTS⟩:=Z.g3.ex;let ⟨_,g_KEYS⟩:=Z.g2.ex;Qi (QM 3 sc_with_kid.nd (Ju (Qa 0) (Q8 rfl g_KEYS))) (Qi (QM 4 sc_with_kid.nd (Ju (Qa 0) (Q8 rfl g_PARTS))) (Qi (QM 5 sc_with_kid.nd (QF (Jc Z) hr (by decide) Qw (Qb (Qa 3) (Qb (Qa 1) Qm)))) (Qi (QM 6 sc_with_kid.nd (QA Jy (Qa 5) Qp)) (Qq (Qu (QF (jq Z) hr (by decide) Qw (Qb (Qa 0) (Qb (QA Jy (QA Jy (YD (Qa 3) JG (JH (Qa 5))) (Zj (Qb (Qa 1) Qm))) (YD (Qa 3) (JH (Qa 5)) JG)) (Qb (QA Jy (QA Jy (YD (Qa 4) JG (JH (Qa 6))) (Zj (Qb (Qa 2) Qm))) (YD (Qa 4) (JH (Qa 6)) JG)) Qm)))))))))
theorem zP:Xt P w K mg O8 "Walk" "tell_fork" 4 3 Xl:=hM Z.u26 sc_Walk_tell_fork fun _ _ _ _ _ _ _ hr=>Qi (QM 3 sc_Walk_tell_fork.nd (Zv (qp Z) hr (by decide) Qw (Qa 0) (Qb (Qa 1) (Qb (QF (Kq Z) hr (by decide) Qw (Qb (Qa 2) (Qb (Qz Z.k6 (Qa 0)) (Qb (Qz Z.k11 (Qa 0)) Qm)))) Qm)))) (Qq (Qu (Zj (Qb Je (Qb (Qa 1) (Qb (Qa 3) Qm))))))
def qK:Xt P w K mg O8 "Walk" "go_on" 1 4 JE:=hM Z.u27 V5 fun _ _ _ _ _ _ _ hr=>Qi (Zk Z.k7 (Qa 0) (Qa 3)) (Qq (Qu (Zj (Qb (Qa 1) (Qb (Qa 2) (Qb (Qa 3) Qm))))))
theorem GK:Has P w K mg O8 "kid_for" 2 2 Yx:=hf Z.u28 uD fun _ _ _ _ _ _ _ hr=>let ⟨_,g_PARTS⟩:=Z.g3.ex;let ⟨_,g_KEYS⟩:=Z.g2.ex;Qq (Qu (Ju (Ju (Qa 0) (Q8 rfl g_PARTS)) (QF (Jc Z) hr (by decide) Qw (Qb (Ju (Qa 0) (Q8 rfl g_KEYS)) (Qb (Qa 1) Qm)))))
def vZ:Has P w K mg O8 "beyond" 1 2 Yw:=hf Z.u29 sc_beyond fun _ _ _ _ _ _ _ hr=>let ⟨_,g_HIGH⟩:=Z.g1.ex;Qi (QM 2 sc_beyond.nd (Ju (Qa 0) (Q8 rfl g_HIGH))) (Qq (Qu (vN (j7 xG (Qa 2) ZG (QV _)) (Qbd (j7 Qg1 (Qa 1) (Qa 2) (QV _))))))
theorem qI:Xt P w K mg O8 "Shelf" "raise_root" 2 3 ZX:=hM Z.u30 sc_Shelf_raise_root fun _ _ _ _ _ _ _ hr=>let ⟨_,g_LEVEL⟩:=Z.g4.ex;Qi (J2 (Zv (Jm Z) hr (by decide) Qw (Qa 0) (Qb (Qa 2) Qm))) (Qi (QM 3 sc_Shelf_raise_root.nd (QA Jy (Q5 (Zg hr) (Q5 (Zg hr) (Qz Z.k8 (Qa 0)) (Qz Z.k14 (Qa 0))) (Q8 rfl g_LEVEL)) Qp)) (Qi (Zk Z.k14 (Qa 0) (Zv (zq Z) hr (by decide) Qw (Qa 0) (Qb (Zj (Qb (Qa 3) (Qb (Zj (Qb (Qa 1) Qm)) (Qb (Zj (Qb (Qz Z.k14 (Qa 0)) (Qb (Qa 2) Qm))) (Qb ZG (Qb ZG Qm)))))) Qm))) (Qq (Qu (Qz Z.k14 (Qa 0))))))
theorem Ys:Xt P w K mg O8 "Walk" "raise_root_over" 3 2 ZJ:=hM Z.u31 YR fun _ _ _ _ _ _ _ hr=>Qi (Zk Z.k5 (Qa 0) Xi) (Qq (Qu (Zj (Qb Je (Qb (Qa 1) (Qb (Zv (qI Z) hr (by decide) Qw (Qz Z.k9 (Qa 0)) (Qb (Qz Z.k6 (Qa 0)) (Qb (Qz Z.k11 (Qa 0)) Qm))) Qm))))))
theorem qJ:Xt P w K mg O8 "Shelf" "read" 2 2 Z4:=hM Z.u32 V2 fun _ _ _ _ _ _ _ hr=>Qi (J2 (Zv (Jm Z) hr (by decide) Qw (Qa 0) (Qb (Qa 1) Qm))) (Qi (j9 Z.k1 (Qa 0) Qp) (Qq (Qu (Q5 (Zg hr) (Qz Z.k8 (Qa 0)) (Qa 1)))))
def yI:Xt P w K mg O8 "Shelf" "root" 1 1 JD:=hM Z.u33 V4 fun _ _ _ _ _ _ _ hr=>Qq (Qu (Qz Z.k14 (Qa 0)))
theorem Yt:Xt P w K mg O8 "Walk" "step" 6 1 JW:=hM Z.u34 sc_Walk_step fun _ _ _ _ _ _ _ hr=>let ⟨_,g_LEVEL⟩:=Z.g4.ex;let ⟨_,g_SIDE⟩:=Z.g0.ex;Qi (Zz (Yb (Qz Z.k5 (Qa 0))) (Qq (Qu ZG)) QT) (Qi (QM 1 sc_Walk_step.nd (Qex (Q6 GZ (Qz Z.k7 (Qa 0)) ZG (QV _)) (Zm (yI Z) hr (by decide) Qw (Qz Z.k9 (Qa 0))) (Qz Z.k7 (Qa 0)))) (Qi (QM 2 sc_Walk_step.nd (Zv (qJ Z) hr (by decide) Qw (Qz Z.k9 (Qa 0)) (Qb (Qa 1) Qm))) (Qi (Zz (DW.pt (vV (Q6 GZ (Qz Z.k7 (Qa 0)) ZG (QV _)) (Kl (Q6 KI (Q5 (Zg hr) (Qa 2) (Q8 rfl g_LEVEL)) (Qz Z.k13 (Qa 0)) (QV _))))) (Qq (Qu (Zv (Ys Z) hr (by decide) Qw (Qa 0) (Qb (Qa 1) Qm)))) QT) (Qi (Zz (Yb (QF (vZ Z) hr (by decide) Qw (Qb (Qa 2) (Qb (Qz Z.k6 (Qa 0)) Qm)))) (Qq (Qu (Zv (qK Z) hr (by decide) Qw (Qa 0) (Qb Je (Qb (Qa 1) (Qb (Q5 (Zg hr) (Qa 2) (Q8 rfl g_SIDE)) Qm)))))) QT) (Qi (Zz (Q6 QdD (Q5 (Zg hr) (Qa 2) (Q8 rfl g_LEVEL)) (Qz Z.k13 (Qa 0)) (QV _)) (Qi (vU (Qa 1) (vQ (Zg hr) (Qz Z.k12 (Qa 0)) (Q5 (Zg hr) (Qa 2) (Q8 rfl g_LEVEL)))) (Qq (Qu (Zv (qK Z) hr (by decide) Qw (Qa 0) (Qb Je (Qb (Qa 1) (Qb (QF (GK Z) hr (by decide) Qw (Qb (Qa 2) (Qb (Qz Z.k6 (Qa 0)) Qm))) Qm))))))) QT) (Qi (Zz (Q6 QdD (Qz Z.k13 (Qa 0)) Qp (QV _)) (Qq (Qu (Zv (zP Z) hr (by decide) Qw (Qa 0) (Qb (Qa 1) (Qb (Qa 2) Qm))))) QT) (Qq (Qu (Zv (xc Z) hr (by decide) Qw (Qa 0) (Qb (Qa 1) (Qb (Qa 2) Qm)))))))))))
theorem VW:Has P w K mg O8 "_law_still" 7 2 qA:=hf Z.u35 sc_law_still fun _ _ _ _ _ _ _ hr=>Qi (QM 2 sc_law_still.nd (Zj (Qb (Zm (X3 Z) hr (by decide) Qw (Qa 0)) (Qb (Zm (X4 Z) hr (by decide) Qw (Qa 0)) Qm)))) (Qi (ye PassesOwn.never rfl (yg (Qa 1)) (Qbf [3,4] sc_law_still.nd (by repeat' (first | exact trivial | refine ⟨rfl,(by first | exact .inl rfl | exact .inr rfl),.inl rfl,?_⟩)) rfl (fun _ _ _=>rfl)) (Qq (Zz (DW.pt (yD (Y8 (Yb (QF (J4 Z 6) hr (by decide) Qw (Qb (Zm (Jn Z) hr (by decide) Qw (Qa 3)) (Qb (Qa 4) Qm))))) (yD (Q6 xG (Zm (Yr Z) hr (by decide) Qw (Qa 3)) Xi (QV _)) (yE (Q6 xG (Zm (Yt Z) hr (by decide) Qw (Qa 3)) ZG (QV _)))))) (Qq (Qu Xi)) QT))) (Qq (Qu (j7 (jA hr.units) (Zj (Qb (Zm (X3 Z) hr (by decide) Qw (Qa 0)) (Qb (Zm (X4 Z) hr (by decide) Qw (Qa 0)) Qm))) (Qa 2) (QV _)))))
theorem yJ:Has P w K mg O8 "_law_leaves" 3 1 YX:=hf Z.u36 sc_law_leaves fun _ _ _ _ _ _ _ hr=>Qi (QM 1 sc_law_leaves.nd (vO Qm)) (Qi (QM 2 sc_law_leaves.nd Qp) (Qi (ye PassesOwn.never rfl (gw (Qaa rfl Z.z7 (Qb (Zm (XF Z) hr (by decide) Qw (Qa 0)) Qm))) (gm 3 sc_law_leaves.nd) (Qi (QM 4 sc_law_leaves.nd (Zv (qJ Z) hr (by decide) Qw (Qa 0) (Qb (Qa 2) Qm))) (Qi (QM 1 sc_law_leaves.nd (QA QfB (Qa 1) (Qc5 Z.z0 Z.z5 rfl (Q5 (Zg hr) (Qa 4) Qp) (Q5 (Zg hr) (Qa 4) Qp)))) (Qi (Zz (Q6 GZ (Q5 (Zg hr) (Qa 4) Qp) ZG (QV _)) (Qq (Qu (Qa 1))) QT) (Qq (QM 2 sc_law_leaves.nd (Q5 (Zg hr) (Qa 4) Qp))))))) (Qq (Qu ZG))))
theorem GL:Has P w K mg O8 "_law_due" 1 2 qW:=hf Z.u37 sc_law_due fun _ _ _ _ _ _ _ hr=>Qi (Zz (Q6 (jA hr.units) (Q5 (Zg hr) (Qa 0) Qp) Je (QV _)) (Qq (Qu (je (caps:=["table", "deed"]) (idx:=[1,0]) ⟨by with_unfolding_all rfl,by decide +kernel,rfl,by decide +kernel,rfl,(by exact ⟨rfl,⟨rfl,trivial⟩⟩),by with_unfolding_all rfl,(by exact ⟨rfl,.inl rfl,⟨_,rfl⟩,(fun h=>NameKind.noConfusion (Ak (show some NameKind.cell=some NameKind.local from h))),⟨rfl,.inl rfl,⟨_,rfl⟩,(fun h=>NameKind.noConfusion (Ak (show some NameKind.cell=some NameKind.local from h))),trivial⟩⟩),by decide⟩ rfl (yg (JT (Uf rfl) Z.z8 boot_sorted (Qb (Qa 1) Qm))) (fun _ _ _ _=>yf (yC QdE KI (Q5 (Zg hr) (Qa 2) Qp) (Qa 0) (Q5 (Zg hr) (Qa 2) Qp))) (fun _ _ _ _=>Zj (Qb (Qa 0) (Qb (Q5 (Zg hr) (Qa 1) (Qa 0)) Qm)))))) QT) (Qi (QM 2 sc_law_due.nd (zI (QbM (Zg hr)) PySem.F.plainAttrs_dict PySem.F.slot_dict_get PySem.F.type_dict_get (Qa 1) (Qb (Q5 (Zg hr) (Qa 0) Qp) Qm))) (Qi (Zz (Q6 (jA hr.units) (Q5 (Zg hr) (Qa 0) Qp) Je (QV _)) (Qq (vU (Q5 (Zg hr) (Qa 0) Qp) (vQ (Zg hr) (Qa 1) (Q5 (Zg hr) (Qa 0) Qp)))) QT) (Qi (Zz (DW.pt (vV (Q6 (jA hr.units) (Q5 (Zg hr) (Qa 0) Qp) Je (QV _)) (Kl (Q6 xG (Qa 2) ZG (QV _))))) (Qq (J2 (zI Qfm PySem.F.plainAttrs_dict PySem.F.slot_dict_pop PySem.F.type_dict_pop (Qa 1) (Qb (Q5 (Zg hr) (Qa 0) Qp) Qm)))) QT) (Qq (Qu (Qa 2))))))
def jo:QaV P w K mg O8 "Walk" 1 3 JO:=hI Z.u38 xu fun _ _ _ _ _ _ _ hr=>Qi (Zk Z.k9 (Qa 0) (Qa 1)) (Qi (Zk Z.k3 (Qa 0) (Qa 2)) (Qi (Zk Z.k6 (Qa 0) (Q5 (Zg hr) (Qa 2) Qp)) (Qi (Zk Z.k13 (Qa 0) Qp) (Qi (Zk Z.k7 (Qa 0) ZG) (Qi (Zk Z.k12 (Qa 0) Gp) (Qi (Zk Z.k11 (Qa 0) ZG) (Qi (Zk Z.k2 (Qa 0) ZG) (Qi (Zk Z.k4 (Qa 0) (Kk Qm)) (Qq (Zk Z.k5 (Qa 0) Xi))))))))))
theorem yK:Has P w K mg O8 "_law_walked" 7 4 YY:=hf Z.u39 sc_law_walked fun _ _ _ _ _ _ _ hr=>Qi (QM 4 sc_law_walked.nd (gi (jo Z) hr (by decide) Qw (Qb (Qa 0) (Qb (Qa 1) Qm)))) (Qi (J2 (zI yT PySem.F.plainAttrs_list PySem.F.slot_list_append PySem.F.type_list_append (Qa 3) (Qb (Zj (Qb (Qa 4) (Qb (Qa 2) Qm))) Qm))) (Qi (QM 5 sc_law_walked.nd (QA Jy (Zm (XF Z) hr (by decide) Qw (Qa 0)) Qp)) (Qi (Qbm 100000 PassesOwn.never (DW.pt (vV (Q6 GZ (Zm (Yr Z) hr (by decide) Qw (Qa 4)) Xi (QV _)) (Kl (Q6 QdD (Qa 5) Qp (QV _))))) (Qi (Zz (DW.pt (yD (Q6 xG (Zm (Jn Z) hr (by decide) Qw (Qa 4)) ZG (QV _)) (yE (Q6 GZ (Zm (Yt Z) hr (by decide) Qw (Qa 4)) ZG (QV _))))) (Qq (Qu Xi)) QT) (Qq (QM 5 sc_law_walked.nd (QA y6 (Qa 5) Qp))))) (Qi (Zz (DW.pt (yD (Q6 xG (Zm (Yr Z) hr (by decide) Qw (Qa 4)) Xi (QV _)) (yD (Y8 (Yb (QF (J4 Z 6) hr (by decide) Qw (Qb (Zm (Jn Z) hr (by decide) Qw (Qa 4)) (Qb (Qa 2) Qm))))) (yE (Q6 xG (Zm (Yt Z) hr (by decide) Qw (Qa 4)) ZG (QV _)))))) (Qq (Qu Xi)) QT) (Qi (Zz (Yb (jf Z.z1 Z.z0 boot_list (by decide) (Qa 2))) (Qq (J2 (zI yT PySem.F.plainAttrs_list PySem.F.slot_list_append PySem.F.type_list_append (Zm (Jn Z) hr (by decide) Qw (Qa 4)) (Qb (Zj (Qb Qp (Qb Qp Qm))) Qm)))) QT) (Qq (Qu (QF (J4 Z 6) hr (by decide) Qw (Qb (Zm (Jn Z) hr (by decide) Qw (Qa 4)) (Qb (Qa 2) Qm))))))))))
def ZC:Has P w K mg O8 "_law_pick" 1 3 QP:=hf Z.u40 sc_law_pick fun _ _ _ _ _ _ _ hr=>Qi (QM 3 sc_law_pick.nd (QA xH (QA Jy (Qa 0) (QA QeG (Qa 1) Qp)) (Qa 1))) (Qq (Qu (QA xH (QA xH (QA yZ (QA xH (QA yZ (Qa 3) (Qa 3)) (Qa 1)) (Qa 3)) (Qa 1)) (Qa 2))))
theorem VX:Has P w K mg O8 "_law_worth" 2 1 qB:=hf Z.u41 KP fun _ _ _ _ _ _ _ hr=>Qi (Zz (Q6 (QdC hr.units) (QF (ZC Z) hr (by decide) Qw (Qb (Qa 0) (Qb Qp (Qb Qp Qm)))) Qp (QV _)) (Qq (Qu (QA y6 (QA xH (QA Jy (QA yZ (QA xH (Qa 0) (QA zt Qp Qp)) Qp) Qp) (QA Jy (QA yZ Qp (QA zt Qp Qp)) Qp)) (QA zt Qp Qp)))) QT) (Qq (Qu (QA y6 (QF (ZC Z) hr (by decide) Qw (Qb (Qa 0) (Qb Qp (Qb Qp Qm)))) Qp)))
theorem GM:Has P w K mg O8 "_law_key" 2 1 Yy:=hf Z.u42 sc_law_key fun _ _ _ _ _ _ _ hr=>Qi (QM 1 sc_law_key.nd (QF (ZC Z) hr (by decide) Qw (Qb (Qa 0) (Qb Qp (Qb Qp Qm))))) (Qi (Zz (Q6 (QdC hr.units) (Qa 1) Qp (QV _)) (Qq (Qu (QA y6 (QA xH (QA Jy (QA yZ (QA xH (Qa 0) (QA zt Qp Qp)) Qp) Qp) (QA Jy (QA yZ Qp (QA zt Qp Qp)) Qp)) (QA zt Qp Qp)))) QT) (Qq (Qu (QA y6 (QF (ZC Z) hr (by decide) Qw (Qb (Qa 0) (Qb Qp (Qb (Ju (vO (Qb Qp (Qb Qp (Qb Qp (Qb Qp (Qb Qp Qm)))))) (Qa 1)) Qm)))) Qp))))
theorem Ko:Has P w K mg O8 "_law_deed" 3 1 zD:=hf Z.u43 sc_law_deed fun _ _ _ _ _ _ _ hr=>Qi (QM 1 sc_law_deed.nd (QF (ZC Z) hr (by decide) Qw (Qb (Qa 0) (Qb Qp (Qb Qp Qm))))) (Qi (QM 2 sc_law_deed.nd (QF (GM Z) hr (by decide) Qw (Qb (Qa 0) Qm))) (Qi (Zz (Q6 KI (Qa 1) Qp (QV _)) (Qq (Qu (Zj (Qb Je (Qb (Qa 2) (Qb (QF (VX Z) hr (by decide) Qw (Qb (Qa 0) Qm)) Qm)))))) QT) (Qi (Zz (Q6 KI (Qa 1) Qp (QV _)) (Qq (Qu (Zj (Qb Je (Qb (Qa 2) Qm))))) QT) (Qi (Zz (Q6 KI (Qa 1) Qp (QV _)) (Qq (Qu (Zj (Qb Je (Qb (Qa 2) Qm))))) QT) (Qi (QM 3 sc_law_deed.nd (JT (Qa7 rfl) Z.z9 boot_min (Qb (Qa 2) (Qb (QA y6 (QA zt Qp Qp) Qp) Qm)))) (Qi (QM 4 sc_law_deed.nd (JT (Qa7 rfl) Z.z9 boot_min (Qb (QA zt Qp Qp) (Qb (QA Jy (QA Jy (Qa 3) Qp) (QF (ZC Z) hr (by decide) Qw (Qb (Qa 0) (Qb Qp (Qb Qp Qm))))) Qm)))) (Qi (QM 5 sc_law_deed.nd (JT (Qa7 rfl) Z.z9 boot_min (Qb (QA zt Qp Qp) (Qb (QA Jy (QA Jy (Qa 3) Qp) (QF (ZC Z) hr (by decide) Qw (Qb (Qa 0) (Qb Qp (Qb Qp Qm))))) Qm)))) (Qq (Qu (Zj (Qb Je (Qb (Qa 3) (Qb (Ju (vO (Qb (QA Jy (Qa 3) Qp) (Qb (Qa 4) (Qb (Qa 5) (Qb (QA zt Qp Qp) Qm))))) (QF (ZC Z) hr (by decide) Qw (Qb (Qa 0) (Qb Qp (Qb Qp Qm))))) Qm)))))))))))))
def zO:QaV P w K mg O8 "Shelf" 1 2 ZS:=hI Z.u44 jQ fun _ _ _ _ _ _ _ hr=>let ⟨_,g_EMPTY_LEAF,q_EMPTY_LEAF⟩:=Z.t0.ex;Qi (Zk Z.k10 (Qa 0) (Qa 1)) (Qi (Zk Z.k8 (Qa 0) (Kk (Qb (Qc4 rfl g_EMPTY_LEAF q_EMPTY_LEAF) Qm))) (Qi (Zk Z.k14 (Qa 0) Qp) (Qi (Zk Z.k1 (Qa 0) Qp) (Qq (Zk Z.k0 (Qa 0) Qp)))))
def qr:Has P w K mg O8 "_law_cell_at" 1 2 Zh:=hf Z.u45 Vr fun _ _ _ _ _ _ _ hr=>Qi (Zz (Q6 KI (Qa 1) (JT gc Z.z6 PySem.boot_len (Qb (Qa 0) Qm)) (QV _)) (Qq (Qu (Ju (Qa 0) (Qa 1)))) QT) (Qq (Qu Qp))
theorem law_fn {g:Addr} {fd:FuncData} (F:Fun K "law" "law" xM g fd):qD P w K mg O8 CX0 8 g fd ["script"] (spD K 1 K7):=QgE F sc_law fun _ _ _ _ _ _ hr=>Qi (QM 1 sc_law.nd (gi (zO Z) hr (by decide) Qw (Qb (QA Jy Qp (QA yZ (QF (ZC Z) hr (by decide) Qw (Qb (QF (qr Z) hr (by decide) Qw (Qb (Qa 0) (Qb Qp Qm))) (Qb Qp (Qb Qp Qm)))) (QF (ZC Z) hr (by decide) Qw (Qb (QF (qr Z) hr (by decide) Qw (Qb (Qa 0) (Qb Qp Qm))) (Qb Qp (Qb Qp Qm)))))) Qm))) (Qi (QM 2 sc_law.nd Gp) (Qi (QM 3 sc_law.nd (Kk Qm)) (Qi (ye PassesOwn.never rfl (yg (YD (Qa 0) JG (JH Qp))) (gm 4 sc_law.nd) (Qi (QM 5 sc_law.nd (QF (Ko Z) hr (by decide) Qw (Qb (Qa 4) Qm))) (Qi (Zz (Y8 (Yb (QF (yK Z) hr (by decide) Qw (Qb (Qa 1) (Qb (Qa 5) (Qb (QF (GL Z) hr (by decide) Qw (Qb (Qa 5) (Qb (Qa 2) Qm))) (Qb (Qa 3) Qm))))))) (Qq (Qu Xi)) QT) (Qq (Zz (Y8 (Yb (QF (J4 Z 6) hr (by decide) Qw (Qb (QF (yJ Z) hr (by decide) Qw (Qb (Qa 1) Qm)) (Qb (je (caps:=["table"]) (idx:=[2]) ⟨by with_unfolding_all rfl,by decide +kernel,rfl,by decide +kernel,rfl,(by exact ⟨rfl,trivial⟩),by with_unfolding_all rfl,(by exact ⟨rfl,.inl rfl,⟨_,rfl⟩,(fun h=>NameKind.noConfusion (Ak (show some NameKind.cell=some NameKind.local from h))),trivial⟩),by decide⟩ rfl (yg (JT (Uf rfl) Z.z8 boot_sorted (Qb (Qa 2) Qm))) (fun _ _ _ _=>Qc9) (fun _ _ _ _=>Zj (Qb (Qa 0) (Qb (Q5 (Zg hr) (Qa 1) (Qa 0)) Qm)))) Qm))))) (Qq (Qu Xi)) QT))))) (Qq (Qu (QF (VW Z) hr (by decide) Qw (Qb (Qa 1) (Qb (Qa 3) Qm))))))))
end
def shF (r:Int) (k:Nat) (t a b:Int):List (Str×DV):=[("page_room", .int r),("kept", .ref k),("top", .int t),("read_count", .int a),("write_count", .int b)]
theorem Qcz (r:Int) (k:Nat) (t a b:Int):List.lookup ("page_room" : Str) (shF r k t a b)=some (DV.int r):=by rfl
theorem YS (r:Int) (k:Nat) (t a b:Int):List.lookup ("kept" : Str) (shF r k t a b)=some (DV.ref k):=by rfl
theorem kr (r:Int) (k:Nat) (t a b:Int):List.lookup ("top" : Str) (shF r k t a b)=some (DV.int t):=by rfl
theorem QcA (r:Int) (k:Nat) (t a b:Int):List.lookup ("write_count" : Str) (shF r k t a b)=some (DV.int b):=by rfl
theorem QeN (r:Int) (k:Nat) (t a b:Int):List.lookup ("read_count" : Str) (shF r k t a b)=some (DV.int a):=by rfl
theorem vh (r:Int) (k:Nat) (t a b c:Int):J8 ("write_count" : Str) (.int c) (shF r k t a b)=shF r k t a c:=by rfl
theorem Qcx (r:Int) (k:Nat) (t a b c:Int):J8 ("read_count" : Str) (.int c) (shF r k t a b)=shF r k t c b:=by rfl
theorem Qcy (r:Int) (k:Nat) (t a b c:Int):J8 ("top" : Str) (.int c) (shF r k t a b)=shF r k c a b:=by rfl
def yo (r:Int) (k:Nat) (t a b:Int):(shF r k t a b).length=5:=rfl
theorem xx (r:Int) (k:Nat) (t a b:Int):List.lookup ("check_number" : Str) (shF r k t a b)=none:=by rfl
theorem UU (r:Int) (k:Nat) (t a b:Int):List.lookup ("lay" : Str) (shF r k t a b)=none:=by rfl
theorem Vt (r:Int) (k:Nat) (t a b:Int):List.lookup ("read" : Str) (shF r k t a b)=none:=by rfl
theorem qU (r:Int) (k:Nat) (t a b:Int):List.lookup ("write" : Str) (shF r k t a b)=none:=by rfl
theorem uI (r:Int) (k:Nat) (t a b:Int):List.lookup ("root" : Str) (shF r k t a b)=none:=by rfl
theorem vg (r:Int) (k:Nat) (t a b:Int):List.lookup ("raise_root" : Str) (shF r k t a b)=none:=by rfl
theorem Qcv (r:Int) (k:Nat) (t a b:Int):List.lookup ("room" : Str) (shF r k t a b)=none:=by rfl
theorem qT (r:Int) (k:Nat) (t a b:Int):List.lookup ("pages" : Str) (shF r k t a b)=none:=by rfl
theorem Qcu (r:Int) (k:Nat) (t a b:Int):List.lookup ("readings" : Str) (shF r k t a b)=none:=by rfl
theorem Qcw (r:Int) (k:Nat) (t a b:Int):List.lookup ("writings" : Str) (shF r k t a b)=none:=by rfl
section
variable {r t a b:Int} {n k:Nat} {ps:List DV} {U:Hs}
theorem y8 (h1:U[n]?=some (.ins "Shelf" (shF r k t a b))) (h2:U[k]?=some (.lst ps)):Jq [.ref n] U=some (.int ps.length,U):=by
 simp [Jq,zn,Q2,Qs,QU,QJ,Yg,sIf,Zo,jI,zJ,jG,jH,Qk,Qd,eC,eB,asB,Xx,eOr,Xf,JX,ji,XN,eIf,jh,Qn,Qc,Zt,YG,Qv,ZW,Qx,gN,ZI,Z0,Z1,ZM,Z5,Ja,Z6,J7,Yd,jC,ZK,Jx,Ji,Zb,X7,Ve,Ya,gSb,jE,Jz,J5,QD,zM,zU,onI,onL,onD,ZN,J6,X5,JY,ixG,Xy,qd,qg,Xg,Y7,asI,zi,VA,QE,Xj,XM,JU,qG,evP,Jg,Xa,run_pure,JC,Jh,J9,run_set,Xb,QZ,QL,ZY,h1,h2,YS]
theorem Qd5 (h1:U[n]?=some (.ins "Shelf" (shF r k t a b))):JD [.ref n] U=some (.int t,U):=by
 simp [JD,ja,Q2,Qs,QU,QJ,Yg,sIf,Zo,jI,zJ,jG,jH,Qk,Qd,eC,eB,asB,Xx,eOr,Xf,JX,ji,XN,eIf,jh,Qn,Qc,Zt,YG,Qv,ZW,Qx,gN,ZI,Z0,Z1,ZM,Z5,Ja,Z6,J7,Yd,jC,ZK,Jx,Ji,Zb,X7,Ve,Ya,gSb,jE,Jz,J5,QD,zM,zU,onI,onL,onD,ZN,J6,X5,JY,ixG,Xy,qd,qg,Xg,Y7,asI,zi,VA,QE,Xj,XM,JU,qG,evP,Jg,Xa,run_pure,JC,Jh,J9,run_set,Xb,QZ,QL,ZY,h1,kr]
theorem Qd4 (h1:U[n]?=some (.ins "Shelf" (shF r k t a b))):Jk [.ref n] U=some (.int r,U):=by
 simp [Jk,zZ,Q2,Qs,QU,QJ,Yg,sIf,Zo,jI,zJ,jG,jH,Qk,Qd,eC,eB,asB,Xx,eOr,Xf,JX,ji,XN,eIf,jh,Qn,Qc,Zt,YG,Qv,ZW,Qx,gN,ZI,Z0,Z1,ZM,Z5,Ja,Z6,J7,Yd,jC,ZK,Jx,Ji,Zb,X7,Ve,Ya,gSb,jE,Jz,J5,QD,zM,zU,onI,onL,onD,ZN,J6,X5,JY,ixG,Xy,qd,qg,Xg,Y7,asI,zi,VA,QE,Xj,XM,JU,qG,evP,Jg,Xa,run_pure,JC,Jh,J9,run_set,Xb,QZ,QL,ZY,h1,Qcz]
theorem G4 (h1:U[n]?=some (.ins "Shelf" (shF r k t a b))):ZT [.ref n] U=some (.int a,U):=by
 simp [ZT,YB,Q2,Qs,QU,QJ,Yg,sIf,Zo,jI,zJ,jG,jH,Qk,Qd,eC,eB,asB,Xx,eOr,Xf,JX,ji,XN,eIf,jh,Qn,Qc,Zt,YG,Qv,ZW,Qx,gN,ZI,Z0,Z1,ZM,Z5,Ja,Z6,J7,Yd,jC,ZK,Jx,Ji,Zb,X7,Ve,Ya,gSb,jE,Jz,J5,QD,zM,zU,onI,onL,onD,ZN,J6,X5,JY,ixG,Xy,qd,qg,Xg,Y7,asI,zi,VA,QE,Xj,XM,JU,qG,evP,Jg,Xa,run_pure,JC,Jh,J9,run_set,Xb,QZ,QL,ZY,h1,QeN]
theorem vz (h1:U[n]?=some (.ins "Shelf" (shF r k t a b))):ZV [.ref n] U=some (.int b,U):=by
 simp [ZV,YC,Q2,Qs,QU,QJ,Yg,sIf,Zo,jI,zJ,jG,jH,Qk,Qd,eC,eB,asB,Xx,eOr,Xf,JX,ji,XN,eIf,jh,Qn,Qc,Zt,YG,Qv,ZW,Qx,gN,ZI,Z0,Z1,ZM,Z5,Ja,Z6,J7,Yd,jC,ZK,Jx,Ji,Zb,X7,Ve,Ya,gSb,jE,Jz,J5,QD,zM,zU,onI,onL,onD,ZN,J6,X5,JY,ixG,Xy,qd,qg,Xg,Y7,asI,zi,VA,QE,Xj,XM,JU,qG,evP,Jg,Xa,run_pure,JC,Jh,J9,run_set,Xb,QZ,QL,ZY,h1,QcA]
theorem yy {i:Int} (h1:U[n]?=some (.ins "Shelf" (shF r k t a b))) (h2:U[k]?=some (.lst ps)) (i0:0<=i) (i1:i < ps.length):
  Zl [.ref n,.int i] U=some (.non,U):=by
 have q0:¬ i < 0:=by lia
 have q1:¬ (ps.length:Int)<=i:=by lia
 simp [Zl,Xu,Q2,Qs,QU,QJ,Yg,sIf,Zo,jI,zJ,jG,jH,Qk,Qd,eC,eB,asB,Xx,eOr,Xf,JX,ji,XN,eIf,jh,Qn,Qc,Zt,YG,Qv,ZW,Qx,gN,ZI,Z0,Z1,ZM,Z5,Ja,Z6,J7,Yd,jC,ZK,Jx,Ji,Zb,X7,Ve,Ya,gSb,jE,Jz,J5,QD,zM,zU,onI,onL,onD,ZN,J6,X5,JY,ixG,Xy,qd,qg,Xg,Y7,asI,zi,VA,QE,Xj,XM,JU,qG,evP,Jg,Xa,run_pure,JC,Jh,J9,run_set,Xb,QZ,QL,ZY,Xm,h1,h2,YS,i0,i1,q0,q1]
theorem gZ {i:Nat} (h1:U[n]?=some (.ins "Shelf" (shF r k t a b))) (h2:U[k]?=some (.lst ps)) (hnk:n≠k) (hd:ps[i]?=some d):
  Z4 [.ref n,.int i] U=some (d,U.set n (.ins "Shelf" (shF r k t (a+1) b))):=by
 have i1:i < ps.length:=(Ac.mp hd).1
 have c:=yy (i:=(i:Int)) h1 h2 (by lia) (by lia)
 have hd':=zX hd
 simp [Z4,zY,Q2,Qs,QU,QJ,Yg,sIf,Zo,jI,zJ,jG,jH,Qk,Qd,eC,eB,asB,Xx,eOr,Xf,JX,ji,XN,eIf,jh,Qn,Qc,Zt,YG,Qv,ZW,Qx,gN,ZI,Z0,Z1,ZM,Z5,Ja,Z6,J7,Yd,jC,ZK,Jx,Ji,Zb,X7,Ve,Ya,gSb,jE,Jz,J5,QD,zM,zU,onI,onL,onD,ZN,J6,X5,JY,ixG,Xy,qd,qg,Xg,Y7,asI,zi,VA,QE,Xj,XM,JU,qG,evP,Jg,Xa,run_pure,JC,Jh,J9,run_set,Xb,QZ,QL,ZY,h1,h2,c,YS,QeN,Qcx,yo,xx,hd',hnk,hnk.symm]
theorem VJ {i:Nat} {d:DV} (h1:U[n]?=some (.ins "Shelf" (shF r k t a b))) (h2:U[k]?=some (.lst ps)) (hnk:n≠k) (i1:i < ps.length):
  Jr [.ref n,.int i,d] U=some (.non,(U.set n (.ins "Shelf" (shF r k t a (b+1)))).set k (.lst (ps.set i d))):=by
 have c:=yy (i:=(i:Int)) h1 h2 (by lia) (by lia)
 simp [Jr,zo,Q2,Qs,QU,QJ,Yg,sIf,Zo,jI,zJ,jG,jH,Qk,Qd,eC,eB,asB,Xx,eOr,Xf,JX,ji,XN,eIf,jh,Qn,Qc,Zt,YG,Qv,ZW,Qx,gN,ZI,Z0,Z1,ZM,Z5,Ja,Z6,J7,Yd,jC,ZK,Jx,Ji,Zb,X7,Ve,Ya,gSb,jE,Jz,J5,QD,zM,zU,onI,onL,onD,ZN,J6,X5,JY,ixG,Xy,qd,qg,Xg,Y7,asI,zi,VA,QE,Xj,XM,JU,qG,evP,Jg,Xa,run_pure,JC,Jh,J9,run_set,Xb,QZ,QL,ZY,h1,h2,c,YS,QcA,vh,yo,xx,hnk,hnk.symm,Qdq i1]
theorem QbI {pg:DV} (h1:U[n]?=some (.ins "Shelf" (shF r k t a b))) (h2:U[k]?=some (.lst ps)) (hnk:n≠k) (hl:ps.length < 99999):
  Xs [.ref n,pg] U=some (.int ps.length,(U.set n (.ins "Shelf" (shF r k t a (b+1)))).set k (.lst (ps++[pg]))):=by
 have hlim:ps.length < lim:=by unfold lim;lia
 simp [Xs,xy,Q2,Qs,QU,QJ,Yg,sIf,Zo,jI,zJ,jG,jH,Qk,Qd,eC,eB,asB,Xx,eOr,Xf,JX,ji,XN,eIf,jh,Qn,Qc,Zt,YG,Qv,ZW,Qx,gN,ZI,Z0,Z1,ZM,Z5,Ja,Z6,J7,Yd,jC,ZK,Jx,Ji,Zb,X7,Ve,Ya,gSb,jE,Jz,J5,QD,zM,zU,onI,onL,onD,ZN,J6,X5,JY,ixG,Xy,qd,qg,Xg,Y7,asI,zi,VA,QE,Xj,XM,JU,qG,evP,Jg,Xa,run_pure,JC,Jh,J9,run_set,Xb,QZ,QL,ZY,h1,h2,YS,QcA,vh,yo,hlim,hnk,hnk.symm]
end
def Zi (l:Int) (ks ps:List Int) (hi sd:Option Int):DV:=.tup [.int l,.tup (ks.map .int),.tup (ps.map .int),opt hi,opt sd]
def hiB (hi:Option Int) (k:Int):Bool:=match hi with
 | none=>false
 | some h=>decide (h<=k)
def cLe (ks:List Int) (k:Int):Nat:=(ks.filter fun x=>decide (x<=k)).length
def cLt (ks:List Int) (k:Int):Nat:=(ks.filter fun x=>decide (x < k)).length
def JB (ks:List Int) (k:Int):cLe ks k<=ks.length:=Cb _ _
def jY (ks:List Int) (k:Int):cLt ks k<=ks.length:=Cb _ _
theorem Qgd {f:DEx} (hf:f env U=some (.tup ds,U)):iTp f env U=some (ds,U):=by
 unfold iTp;rw [Qg hf];rfl
theorem Qba {t:DTx} {p:Int->Bool} (ks:List Int) (k:Int) (hl:ks.length<=100) (ht:∀ x U,t [.val (.int x),.val (.int k)] U=some (p x,U)) (U:Hs):ZW Xy (Qc (J3 false (xOf (iTp (Qd 0))) [1] t (Qd 0)) Qn) [.val (.tup (ks.map .int)),.val (.int k)] U=some (.int (ks.filter p).length,U):=by
 have q:J3 false (xOf (iTp (Qd 0))) [1] t (Qd 0) [.val (.tup (ks.map .int)),.val (.int k)] U=some (.lst (((ks.filter p).map fun x=>x).map .int),U):=by
  unfold J3
  rw [Qg (QcR (Qgd (ds:=ks.map .int) (Qf rfl)))]
  exact (Qg (vL (p:=p) (g:=fun x=>x) ks (fun i hi=>qf (ks.map .int) i (by rw [Br];exact hi) U) (fun x=>ht x U) (fun x=>rfl) (by lia))).trans rfl
 rw [Y5 (JL q) (GR ..),Br,Br]
def Kh (ks:List Int) (k:Int) (hl:ks.length<=100):Zq [.tup (ks.map .int),.int k]=pure (.int (cLe ks k)):=gb fun U=>Qy (env:=[.val (.tup (ks.map .int)),.val (.int k)]) (QC (Qba ks k hl (fun _ _=>rfl) U))
def Qev (ks:List Int) (k:Int) (hl:ks.length<=100):Xq [.tup (ks.map .int),.int k]=pure (.int (cLt ks k)):=gb fun U=>Qy (env:=[.val (.tup (ks.map .int)),.val (.int k)]) (QC (Qba ks k hl (fun _ _=>rfl) U))
theorem kQ (l:Int) (ks ps:List Int) (hi sd:Option Int) (k:Int):Yw [Zi l ks ps hi sd,.int k]=pure (.bl (hiB hi k)):=by
 cases hi<;>rfl
theorem Qfe (l:Int) (ks ps:List Int) (hi sd:Option Int) (k:Int) (hl:ks.length<=100) (U:ps.length=ks.length+1):Yx [Zi l ks ps hi sd,.int k]=pure (.int (ps.getD (cLe ks k) 0)):=by
 have h:=JB ks k
 have a:=Ka ps (i:=(cLe ks k:Int)) (by lia) (by lia)
 rw [B7] at a
 refine Yf (XO (qX (x:=.tup (ps.map .int)) (y:=.int (cLe ks k)) rfl (xa (x:=.tup (ks.map .int)) (y:=.int k) rfl rfl (Kh ks k hl)) ?_))<;>try exact []
 simp [ixD,a]
theorem QcO (l:Int) (ks ps:List Int) (hi sd:Option Int) (k:Int) (hl:ks.length<=100) (U:ps.length=ks.length):JS [Zi l ks ps hi sd,.int k]=pure (if cLt ks k=cLe ks k then .non else .int (ps.getD (cLt ks k) 0)):=by
 have h:=JB ks k
 have hlt:=jY ks k
 refine Yf (env:=[.val (Zi l ks ps hi sd),.val (.int k),.val (.tup (ks.map .int)),.val (.int (cLt ks k))]) ?_
 refine (ZO (Z2 (d:=.tup (ks.map .int)) rfl)).trans ?_
 refine (ZO (Z2 (d:=.int (cLt ks k)) (xa (x:=.tup (ks.map .int)) (y:=.int k) rfl rfl (Qev ks k hl)))).trans ?_
 have tst:eB (Qk eqD (Qd 3) (Qv 2 Zq (Qc (Qd 2) (Qc (Qd 1) Qn)))) [.val (Zi l ks ps hi sd),.val (.int k),.val (.tup (ks.map .int)),.val (.int (cLt ks k))]=pure (decide (cLt ks k=cLe ks k)):=by
  refine Qgz (qX (x:=.int (cLt ks k)) (y:=.int (cLe ks k)) rfl (xa (x:=.tup (ks.map .int)) (y:=.int k) rfl rfl (Kh ks k hl)) ?_)
  rw [ZK]
  congr 2
  rw [Bool.eq_iff_iff];simp only [beq_iff_eq,decide_eq_true_eq];lia
 by_cases hc:cLt ks k=cLe ks k
 ·rw [C8 hc]
  exact Qd9 ((Qhh (tst.trans (by simp [hc]))).trans (XO rfl))
 ·rw [C7 hc]
  refine (ZO ((Qhg (tst.trans (by simp [hc]))).trans rfl)).trans ?_
  have hlt2:cLt ks k < ks.length:=by
   have:cLt ks k<=cLe ks k:=by
    unfold cLt cLe
    rw [<- List.countP_eq_length_filter,<- List.countP_eq_length_filter]
    exact List.countP_mono_left fun x _ hx=>by simp at hx ⊢;lia
   lia
  have a:=Ka ps (i:=(cLt ks k:Int)) (by lia) (by lia)
  rw [B7] at a
  exact XO (qX (x:=.tup (ps.map .int)) (y:=.int (cLt ks k)) rfl rfl (by simp [ixD,a]))
theorem K8 {f:DEx} {g:DAx} {x:DV} (h:f env U=some (x,hp1)) (h':g env hp1=some (xs,hp2)):Qc f g env U=some (x::xs,hp2):=by
 unfold Qc;rw [Qg h,Qg h'];rfl
theorem Qbo {F:Ep} {f f' f'' f3:DEx} (h:f env=pure x) (h':f' env=pure y) (h'':f'' env=pure z) (h3:f3 env=pure u) (hF:F [x,y,z,u]=pure d):Qv 4 F (Qc f (Qc f' (Qc f'' (Qc f3 Qn)))) env=pure d:=by simp [Qv,Qc,Qn,h,h',h'',h3,Qx,hF]
def xI (l:Int) (ks ps:List Int) (hi sd:Option Int) (a b:DV):YZ [Zi l ks ps hi sd,a,b]=pure (.tup [.int l,a,b,opt hi,opt sd]):=rfl
theorem runs (ks ns:List Int) (a b:Nat) (h:ks.length<=1000) (hn:ns.length<=10):(do let x <- slD (.tup (ks.map .int)) none (some (a:Int));let y <- Jd x (.tup (ns.map .int));let d <- slD (.tup (ks.map .int)) (some (b:Int)) none;Jd y d:M DV)=pure (.tup ((ks.take a++ns++ks.drop b).map .int)):=by
 rw [Vv,Vu]
 simp only [Ef,Jd]
 rw [ze (by simp;lia)]
 simp only [Qx,if_true,Ef]
 rw [ze (by simp;lia)]
 simp [List.map_take,List.map_drop]
theorem Qez {f g h q:DEx} {ks ns:List Int} {a b:Nat} (hf:f env=pure (.tup (ks.map .int))) (hg:g env=pure (.int (a:Int))) (hh:h env=pure (.int (b:Int))) (hq:q env=pure (.tup (ns.map .int))) (hl:ks.length<=1000) (hn:ns.length<=10):Qk Jd (Qk Jd (eSl f ZQ (ZR g)) q) (eSl f (ZR h) ZQ) env=pure (.tup ((ks.take a++ns++ks.drop b).map .int)):=by
 have e1:eSl f ZQ (ZR g) env=slD (.tup (ks.map .int)) none (some (a:Int)):=by simp only [eSl,hf,hg,ZQ,ZR,asI,Ef]
 have e2:eSl f (ZR h) ZQ env=slD (.tup (ks.map .int)) (some (b:Int)) none:=by simp only [eSl,hf,hh,ZQ,ZR,asI,Ef]
 rw [<- runs ks ns a b hl hn]
 simp only [Qk,e1,e2,hq,Ef,bind_assoc]
theorem xS (l:Int) (ks ps nk nw:List Int) (hi sd:Option Int) (k:Int) (hl:ks.length<=100) (U:ps.length<=100) (h1:nk.length<=10) (h2:nw.length<=10):Y1 [Zi l ks ps hi sd,.int k,.tup (nk.map .int),.tup (nw.map .int)]=pure (Zi l (ks.take (cLt ks k)++nk++ks.drop (cLe ks k)) (ps.take (cLt ks k)++nw++ps.drop (cLe ks k)) hi sd):=by
 refine Yf (env:=[.val (Zi l ks ps hi sd),.val (.int k),.val (.tup (nk.map .int)),.val (.tup (nw.map .int)),.val (.tup (ks.map .int)),.val (.tup (ps.map .int)),.val (.int (cLt ks k:Int)),.val (.int (cLe ks k:Int))]) ?_
 refine (ZO (Z2 (d:=.tup (ks.map .int)) rfl)).trans ?_
 refine (ZO (Z2 (d:=.tup (ps.map .int)) rfl)).trans ?_
 refine (ZO (Z2 (d:=.int (cLt ks k:Int)) (xa (x:=.tup (ks.map .int)) (y:=.int k) rfl rfl (Qev ks k hl)))).trans ?_
 refine (ZO (Z2 (d:=.int (cLe ks k:Int)) (xa (x:=.tup (ks.map .int)) (y:=.int k) rfl rfl (Kh ks k hl)))).trans ?_
 exact XO (Qbn (x:=Zi l ks ps hi sd) rfl (Qez rfl rfl rfl rfl (by lia) h1) (Qez rfl rfl rfl rfl (by lia) h2) (xI l ks ps hi sd _ _))
def v8 (ks:List Int) (c:Nat) (k:Int):List Int:=ks.take c++k::ks.drop c
theorem Qf8 (ks:List Int) (c:Nat) (k:Int) (h:ks.length<=1000):(do let a <- slD (.tup (ks.map .int)) none (some (c:Int));let b <- Jd a (.tup [.int k]);let d <- slD (.tup (ks.map .int)) (some (c:Int)) none;Jd b d:M DV)=pure (.tup ((v8 ks c k).map .int)):=by
 rw [Vv,Vu]
 simp only [Ef,Jd]
 rw [ze (by simp;lia)]
 simp only [Qx,if_true,Ef]
 rw [ze (by simp;lia)]
 simp [v8,List.map_take,List.map_drop]
theorem gx {f g h:DEx} {ks:List Int} {c:Nat} {k:Int} (hf:f env=pure (.tup (ks.map .int))) (hg:g env=pure (.int (c:Int))) (hk:h env=pure (.int k)) (hl:ks.length<=1000):Qk Jd (Qk Jd (eSl f ZQ (ZR g)) (Zt (Qc h Qn))) (eSl f (ZR g) ZQ) env=pure (.tup ((v8 ks c k).map .int)):=by
 have e1:eSl f ZQ (ZR g) env=slD (.tup (ks.map .int)) none (some (c:Int)):=by simp only [eSl,hf,hg,ZQ,ZR,asI,Ef]
 have e2:eSl f (ZR g) ZQ env=slD (.tup (ks.map .int)) (some (c:Int)) none:=by simp only [eSl,hf,hg,ZQ,ZR,asI,Ef]
 have e3:Zt (Qc h Qn) env=pure (.tup [.int k]):=by
  simp only [Zt,Qc,Qn,hk,Ef];rfl
 rw [<- Qf8 ks c k hl]
 simp only [Qk,e1,e2,e3,Ef,bind_assoc]
theorem Qak (l:Int) (ks ps:List Int) (hi sd:Option Int) (k kid:Int) (hl:ks.length<=100) (U:ps.length<=1000):Y0 [Zi l ks ps hi sd,.int k,.int kid]=pure (Zi l (v8 ks (cLe ks k) k) (v8 ps (cLe ks k+1) kid) hi sd):=by
 refine Yf (env:=[.val (Zi l ks ps hi sd),.val (.int k),.val (.int kid),.val (.tup (ks.map .int)),.val (.tup (ps.map .int)),.val (.int (cLe ks k:Int)),.val (.int ((cLe ks k:Int)+1))]) ?_
 refine (ZO (Z2 (d:=.tup (ks.map .int)) rfl)).trans ?_
 refine (ZO (Z2 (d:=.tup (ps.map .int)) rfl)).trans ?_
 refine (ZO (Z2 (d:=.int (cLe ks k:Int)) (xa (x:=.tup (ks.map .int)) (y:=.int k) rfl rfl (Kh ks k hl)))).trans ?_
 refine (ZO (Z2 (d:=.int ((cLe ks k:Int)+1)) rfl)).trans ?_
 refine XO (Qbn (x:=Zi l ks ps hi sd) (y:=.tup ((v8 ks (cLe ks k) k).map .int)) (z:=.tup ((v8 ps (cLe ks k+1) kid).map .int)) rfl ?_ ?_ (xI l ks ps hi sd _ _))
 ·exact gx rfl rfl rfl (by lia)
 ·exact gx rfl (by show (pure (DV.int ((cLe ks k:Int)+1)):M DV)=_;rw [show ((cLe ks k:Int)+1)=((cLe ks k+1:Nat):Int) by lia]) rfl U
def Zf (l:Int) (n:Nat):Nat:=if l=0 then n / 2 else n / 2+1
def QbY (l:Int) (ks ps:List Int) (hi sd:Option Int) (num:Int):DV :=
 .tup [Zi l (ks.take (ks.length / 2)) (ps.take (Zf l ks.length)) (some (ks.getD (ks.length / 2) 0)) (some num),Zi l (ks.drop (Zf l ks.length)) (ps.drop (Zf l ks.length)) hi sd,.int (ks.getD (ks.length / 2) 0)]
theorem Qat (l:Int) (ks ps:List Int) (hi sd:Option Int) (num:Int) (h3:3<=ks.length) (hl:ks.length<=100):zW [Zi l ks ps hi sd,.int num]=pure (QbY l ks ps hi sd num):=by
 have hm:((ks.length:Int)) / 2=((ks.length / 2:Nat):Int):=by lia
 have a:=Ka ks (i:=((ks.length / 2:Nat):Int)) (by lia) (by lia)
 rw [B7] at a
 have hcut:(if l=0 then DV.int ((ks.length / 2:Nat):Int) else .int (((ks.length / 2:Nat):Int)+1))=.int ((Zf l ks.length:Nat):Int):=by
  unfold Zf
  split<;>simp
 generalize hC:Zf l ks.length=C at hcut
 generalize hK:ks.getD (ks.length / 2) 0=kk at a
 have e7:eIf (eB (Qk eqD (Qd 2) (eC (.int 0)))) (Qd 5) (Qk Jd (Qd 5) (eC (.int 1))) [.val (Zi l ks ps hi sd),.val (.int num),.val (.int l),.val (.tup (ks.map .int)),.val (.tup (ps.map .int)),.val (.int ((ks.length / 2:Nat):Int)),.val (.int kk),.un,.un,.un]=pure (.int (C:Int)):=by
  rw [<- hcut]
  by_cases q:l=0
  ·simp [eIf,eB,Qk,Qd,eC,ZK,asB,q]
  ·have:(l==0)=false:=by simpa using q
   simp [eIf,eB,Qk,Qd,eC,ZK,asB,q,this,ZI]
 unfold QbY
 rw [hC,hK]
 refine Yf (env:=[.val (Zi l ks ps hi sd),.val (.int num),.val (.int l),.val (.tup (ks.map .int)),.val (.tup (ps.map .int)),.val (.int ((ks.length / 2:Nat):Int)),.val (.int kk),.val (.int (C:Int)),.val (Zi l (ks.take (ks.length / 2)) (ps.take C) (some kk) (some num)),.val (Zi l (ks.drop C) (ps.drop C) hi sd)]) ?_
 refine (ZO (Z2 (d:=.int l) rfl)).trans ?_
 refine (ZO (Z2 (d:=.tup (ks.map .int)) rfl)).trans ?_
 refine (ZO (Z2 (d:=.tup (ps.map .int)) rfl)).trans ?_
 refine (ZO (Z2 (d:=.int ((ks.length / 2:Nat):Int)) ?_)).trans ?_
 ·refine qX (x:=.int (ks.length:Int)) (y:=.int 2) ?_ rfl ((Gv _ 2 (by decide) (by decide)).trans (by rw [hm]))
  show (pure (DV.int ((ks.map DV.int).length:Int)):M DV)=_
  rw [Br]
 refine (ZO (Z2 (d:=.int kk) (qX (x:=.tup (ks.map .int)) (y:=.int ((ks.length / 2:Nat):Int)) rfl rfl (Qdp a)))).trans ?_
 refine (ZO (Z2 (d:=.int (C:Int)) e7)).trans ?_
 refine (ZO (Z2 (d:=Zi l (ks.take (ks.length / 2)) (ps.take C) (some kk) (some num)) ?_)).trans ?_
 ·have t1:=GE (f:=Qd 3) (g:=Qd 5) (env:=[.val (Zi l ks ps hi sd),.val (.int num),.val (.int l),.val (.tup (ks.map .int)),.val (.tup (ps.map .int)),.val (.int ((ks.length / 2:Nat):Int)),.val (.int kk),.val (.int (C:Int)),.un,.un]) (ds:=ks.map .int) (m:=ks.length / 2) rfl rfl
  have t2:=GE (f:=Qd 4) (g:=Qd 7) (env:=[.val (Zi l ks ps hi sd),.val (.int num),.val (.int l),.val (.tup (ks.map .int)),.val (.tup (ps.map .int)),.val (.int ((ks.length / 2:Nat):Int)),.val (.int kk),.val (.int (C:Int)),.un,.un]) (ds:=ps.map .int) (m:=C) rfl rfl
  simp only [List.set_cons_succ,List.set_cons_zero,Bb,List.map_nil,Ba,List.length_nil,List.cons_append,List.nil_append,List.replicate,Zt,Qc,Qn,t1,t2,Ef]
  simp only [Zi,List.map_take,opt]
  rfl
 refine (ZO (Z2 (d:=Zi l (ks.drop C) (ps.drop C) hi sd) ?_)).trans ?_
 ·have t1:=GD (f:=Qd 3) (g:=Qd 7) (env:=[.val (Zi l ks ps hi sd),.val (.int num),.val (.int l),.val (.tup (ks.map .int)),.val (.tup (ps.map .int)),.val (.int ((ks.length / 2:Nat):Int)),.val (.int kk),.val (.int (C:Int)),.val (Zi l (ks.take (ks.length / 2)) (ps.take C) (some kk) (some num)),.un]) (ds:=ks.map .int) (m:=C) rfl rfl
  have t2:=GD (f:=Qd 4) (g:=Qd 7) (env:=[.val (Zi l ks ps hi sd),.val (.int num),.val (.int l),.val (.tup (ks.map .int)),.val (.tup (ps.map .int)),.val (.int ((ks.length / 2:Nat):Int)),.val (.int kk),.val (.int (C:Int)),.val (Zi l (ks.take (ks.length / 2)) (ps.take C) (some kk) (some num)),.un]) (ds:=ps.map .int) (m:=C) rfl rfl
  simp only [List.set_cons_succ,List.set_cons_zero,Bb,List.map_nil,Ba,List.length_nil,List.cons_append,List.nil_append,List.replicate,Zt,Qc,Qn,t1,t2,Ef]
  simp only [Zi,List.map_drop]
  rfl
 exact XO rfl
theorem Xn (p:TR.Pg):pgD p=Zi p.lv p.ks p.ps p.hi (p.sd.map fun n=>(n:Int)):=by
 unfold pgD Zi;cases p.sd<;>rfl
theorem Qaw (p:TR.Pg) (k:Int):Yw [pgD p,.int k]=pure (.bl (TR.Ze p k)):=by
 rw [Xn,kQ]
 unfold hiB TR.Ze
 cases p.hi<;>rfl
theorem QfN (p:TR.Pg) (k c:Int) (hl:p.ks.length<=100) (U:p.ps.length=p.ks.length+1) (hc:p.ps[TR.cLe p.ks k]?=some c):Yx [pgD p,.int k]=pure (.int c):=by
 rw [Xn,Qfe _ _ _ _ _ _ hl U]
 rw [List.getD_eq_getElem?_getD,show p.ps[cLe p.ks k]?=some c from hc];rfl
theorem Qb6 (p:TR.Pg) (k:Int) (hl:p.ks.length<=100) (U:p.ps.length=p.ks.length):JS [pgD p,.int k]=pure (opt (TR.QK p k)):=by
 rw [Xn,QcO _ _ _ _ _ _ hl U]
 unfold TR.QK
 by_cases h:cLt p.ks k=cLe p.ks k
 ·rw [C8 h,C8 (show TR.cLt p.ks k=TR.cLe p.ks k from h)];rfl
 ·rw [C7 h,C7 (show ¬ TR.cLt p.ks k=TR.cLe p.ks k from h)]
  have h1:=TR.Kg p.ks k
  have h2:=TR.JB p.ks k
  have h3:¬ TR.cLt p.ks k=TR.cLe p.ks k:=h
  rw [List.getD_eq_getElem?_getD,show p.ps[cLt p.ks k]?=some (p.ps[TR.cLt p.ks k]'(by lia)) from Ab _,Ab (show TR.cLt p.ks k < p.ps.length by lia)];rfl
theorem QdL (p:TR.Pg) (k x:Int) (hl:p.ks.length<=100) (U:p.ps.length<=100):qC [pgD p,.int k,.int x]=pure (pgD (TR.QG p k x)):=by
 have e:=xS p.lv p.ks p.ps [k] [x] p.hi (p.sd.map fun n=>(n:Int)) k hl U (by simp) (by simp)
 rw [Xn,Xn]
 refine Yf (env:=[.val (Zi p.lv p.ks p.ps p.hi (p.sd.map fun n=>(n:Int))),.val (.int k),.val (.int x)]) (XO (Qbo rfl rfl rfl rfl (e.trans ?_)))
 simp [TR.QG,TR.cLt,TR.cLe,cLt,cLe]
theorem ux (p:TR.Pg) (k:Int) (hl:p.ks.length<=100) (U:p.ps.length<=100):jW [pgD p,.int k]=pure (pgD (TR.without p k)):=by
 have e:=xS p.lv p.ks p.ps [] [] p.hi (p.sd.map fun n=>(n:Int)) k hl U (by simp) (by simp)
 rw [Xn,Xn]
 refine Yf (env:=[.val (Zi p.lv p.ks p.ps p.hi (p.sd.map fun n=>(n:Int))),.val (.int k)]) (XO (Qbo rfl rfl rfl rfl (e.trans ?_)))
 simp [TR.without,TR.cLt,TR.cLe,cLt,cLe]
theorem uw (p:TR.Pg) (k:Int) (c:Nat) (hl:p.ks.length<=100) (U:p.ps.length<=1000):Y0 [pgD p,.int k,.int c]=pure (pgD (TR.Q1 p k c)):=by
 rw [Xn,Qak _ _ _ _ _ _ _ hl U,Xn];rfl
theorem QdK (p:TR.Pg) (O2:Nat):XT [pgD p,.int O2]=pure (.bl (decide (O2 < p.ks.length))):=by
 have e:(decide ((O2:Int) < ((p.ks.map DV.int).length:Int)))=decide (O2 < p.ks.length):=by
  rw [Br];congr 1;rw [eq_iff_iff];lia
 refine Yf (env:=[.val (pgD p),.val (.int O2)]) (XO (qX (x:=.int ((p.ks.map DV.int).length:Int)) (y:=.int O2) rfl rfl ((Z1 _ _).trans ?_)))
 rw [<- e]
theorem Qax (p:TR.Pg) (n:Nat) (h3:3<=p.ks.length) (hl:p.ks.length<=100):zW [pgD p,.int n]=pure (.tup [pgD (TR.QN p n),pgD (TR.QB p),.int (TR.JI p)]):=by
 rw [Xn,Qat _ _ _ _ _ _ h3 hl]
 unfold QbY
 rw [Xn,Xn]
 have hc:Zf p.lv p.ks.length=TR.Zf p:=by
  unfold Zf TR.Zf TR.mid
  by_cases h:p.lv=0
  ·simp [h]
  ·rw [C7 h,C7 (by lia)]
 rw [hc];rfl
structure At (U:Hs) (n k a f q:Nat) (S:TR.Sh) (w:TR.Wk):Prop where
 h1:U[n]?=some (.ins "Shelf" (shF S.O2 k S.top S.rd S.wr))
 h2:U[k]?=some (.lst (S.pg.map pgD))
 h3:U[a]?=some (wkO n f q w)
 h4:U[f]?=some (.dic (fkD w.O3))
 h5:U[q]?=some (.lst (prD w.O5))
structure Dif (n k a f q:Nat):Prop where
 nk:n≠k
 na:n≠a
 nf:n≠f
 nq:n≠q
 ka:k≠a
 kf:k≠f
 kq:k≠q
 af:a≠f
 aq:a≠q
 fq:f≠q
def Fr (U hp':Hs) (n k a f q:Nat):Prop:=U.length<=hp'.length/\∀ i,i < U.length->i≠n->i≠k->i≠a->i≠f->i≠q->hp'[i]?=U[i]?
section
variable {U hp' hp2:Hs} {n k a f q:Nat} {S S':TR.Sh} {w w':TR.Wk}
def Fr.refl:Fr U U n k a f q:=⟨Ae _,fun _ _ _ _ _ _ _=>rfl⟩
def Fr.trans (x:Fr U hp' n k a f q) (y:Fr hp' hp2 n k a f q):Fr U hp2 n k a f q:=⟨Bj x.1 y.1,fun i hi a1 a2 a3 a4 a5=>(y.2 i (Ay hi x.1) a1 a2 a3 a4 a5).trans (x.2 i hi a1 a2 a3 a4 a5)⟩
def gs {n m:Nat} {Y:Option OV} (h:n≠m) (h':U[m]?=Y):(U.set n X)[m]?=Y:=(QL _ _ _ _ h).trans h'
theorem gss {n:Nat} (h':U[n]?=some Y):(U.set n X)[n]?=some X:=QZ _ _ _ (by rw [h'];rfl)
theorem At.walk (A:At U n k a f q S w) (D:Dif n k a f q) (w':TR.Wk) (e1:w'.O3=w.O3) (e2:w'.O5=w.O5):At (U.set a (wkO n f q w')) n k a f q S w'/\Fr U (U.set a (wkO n f q w')) n k a f q :=
 ⟨⟨gs D.na.symm A.h1,gs D.ka.symm A.h2,gss A.h3,gs D.af (by rw [e1];exact A.h4),gs D.aq (by rw [e2];exact A.h5)⟩,by simp,fun i hi a1 a2 a3 a4 a5=>QL _ _ _ _ (Ne.symm a3)⟩
theorem At.shelf (A:At U n k a f q S w) (D:Dif n k a f q) (S':TR.Sh) (e:S'.O2=S.O2):At ((U.set n (.ins "Shelf" (shF S.O2 k S'.top S'.rd S'.wr))).set k (.lst (S'.pg.map pgD))) n k a f q S' w/\Fr U ((U.set n (.ins "Shelf" (shF S.O2 k S'.top S'.rd S'.wr))).set k (.lst (S'.pg.map pgD))) n k a f q :=
 ⟨⟨gs D.nk.symm (by rw [e];exact gss A.h1),gss (gs D.nk A.h2),gs D.ka (gs D.na A.h3),gs D.kf (gs D.nf A.h4),gs D.kq (gs D.nq A.h5)⟩,by simp,fun i hi a1 a2 a3 a4 a5=>(QL _ _ _ _ (Ne.symm a2)).trans (QL _ _ _ _ (Ne.symm a1))⟩
theorem At.count (A:At U n k a f q S w) (D:Dif n k a f q) (S':TR.Sh) (e:S'.O2=S.O2) (e2:S'.pg=S.pg):At (U.set n (.ins "Shelf" (shF S.O2 k S'.top S'.rd S'.wr))) n k a f q S' w/\Fr U (U.set n (.ins "Shelf" (shF S.O2 k S'.top S'.rd S'.wr))) n k a f q :=
 ⟨⟨by rw [e];exact gss A.h1,gs D.nk (by rw [e2];exact A.h2),gs D.na A.h3,gs D.nf A.h4,gs D.nq A.h5⟩,by simp,fun i hi a1 a2 a3 a4 a5=>QL _ _ _ _ (Ne.symm a1)⟩
theorem At.fork (A:At U n k a f q S w) (D:Dif n k a f q) (w':TR.Wk) (h:wkO n f q w'=wkO n f q w) (e:w'.O5=w.O5):At (U.set f (.dic (fkD w'.O3))) n k a f q S w'/\Fr U (U.set f (.dic (fkD w'.O3))) n k a f q :=
 ⟨⟨gs D.nf.symm A.h1,gs D.kf.symm A.h2,gs D.af.symm (by rw [h];exact A.h3),gss A.h4,gs D.fq (by rw [e];exact A.h5)⟩,by simp,fun i hi a1 a2 a3 a4 a5=>QL _ _ _ _ (Ne.symm a4)⟩
theorem At.pair (A:At U n k a f q S w) (D:Dif n k a f q) (w':TR.Wk) (h:wkO n f q w'=wkO n f q w) (e:w'.O3=w.O3):At (U.set q (.lst (prD w'.O5))) n k a f q S w'/\Fr U (U.set q (.lst (prD w'.O5))) n k a f q :=
 ⟨⟨gs D.nq.symm A.h1,gs D.kq.symm A.h2,gs D.aq.symm (by rw [h];exact A.h3),gs D.fq.symm (by rw [e];exact A.h4),gss A.h5⟩,by simp,fun i hi a1 a2 a3 a4 a5=>QL _ _ _ _ (Ne.symm a5)⟩
theorem At.more (A:At U n k a f q S w) (x:OV):At (U++[x]) n k a f q S w/\Fr U (U++[x]) n k a f q:=by
 have ap:∀ {i:Nat} {y:OV},U[i]?=some y->(U++[x])[i]?=some y:=fun {i y} h=>by rw [Ah (Ac.mp h).1];exact h
 exact ⟨⟨ap A.h1,ap A.h2,ap A.h3,ap A.h4,ap A.h5⟩,by simp,fun i hi _ _ _ _ _=>Ah hi⟩
theorem gL (ps:List TR.Pg) (p:TR.Pg):ps.map pgD++[pgD p]=(ps++[p]).map pgD:=by simp
theorem map_set (ps:List TR.Pg) (i:Nat) (p:TR.Pg):(ps.map pgD).set i (pgD p)=(ps.set i p).map pgD:=by rw [List.map_set]
def Xd (A:At U n k a f q S w) {env:En} (h:env[0]?=some (.val (.ref a))):QD "Walk" "shelf" (Qd 0) env U=some (.ref n,U):=QY (Qf h) A.h3 (QaT ..)
theorem UP (A:At U n k a f q S w) (D:Dif n k a f q) {i:Nat} (hi:i < S.pg.length) (P:TR.Pg) (h3:S.O2 < P.ks.length->3<=P.ks.length) (hP:P.ks.length<=100) (hl:S.pg.length < 90000):
  ∃ hp',Xp [.ref a,.int i,pgD P] U=some (oN (TR.Qr S w i P).1,hp')/\At hp' n k a f q (TR.Qr S w i P).2.1 (TR.Qr S w i P).2.2/\Fr U hp' n k a f q:=by
 have t0:Qv 2 XT (Qc (Qd 2) (Qc (QE "Shelf" "room" 1 Jk (QD "Walk" "shelf" (Qd 0)) Qn) Qn)) [.val (.ref a),.val (.int i),.val (pgD P),.un] U=some (.bl (decide (S.O2 < P.ks.length)),U) :=
  Zc (ZF (Qf rfl) (Q0 (Xd A rfl) A.h1 (Qcv ..) Xh rfl (Qd4 A.h1))) rfl (Zp (QdK P S.O2) U)
 unfold TR.Qr
 by_cases hr:P.ks.length<=S.O2
 ·rw [C8 hr]
  have hd:decide (S.O2 < P.ks.length)=false:=Ee (by lia)
  rw [hd] at t0
  have t1:Xf (eB (Qv 2 XT (Qc (Qd 2) (Qc (QE "Shelf" "room" 1 Jk (QD "Walk" "shelf" (Qd 0)) Qn) Qn)))) [.val (.ref a),.val (.int i),.val (pgD P),.un] U=some (true,U):=JP (b:=false) (QW t0)
  have wr:=VJ (d:=pgD P) (i:=i) A.h1 A.h2 D.nk (by simpa using hi)
  rw [map_set] at wr
  obtain ⟨A1,F1⟩:=A.shelf D { S with pg:=S.pg.set i P,wr:=S.wr+1 } rfl
  obtain ⟨A2,F2⟩:=A1.walk D { w with O7:=true } rfl rfl
  refine ⟨_,?_,A2,F1.trans F2⟩
  refine Qy (env:=[.val (.ref a),.val (.int i),.val (pgD P),.un]) (Q7 ((Zu t1).trans ?_))
  refine (Qj (X6 (Q0 (Xd A rfl) A.h1 (qU ..) (ZF (Qf rfl) (Qf rfl)) rfl wr))).trans ?_
  exact (Qj (Jl (v:=.bl true) rfl (Qf rfl) A1.h3 wl)).trans (QC (d:=.non) rfl)
 ·rw [C7 hr]
  have hd:decide (S.O2 < P.ks.length)=true:=Ec (by lia)
  rw [hd] at t0
  have t1:Xf (eB (Qv 2 XT (Qc (Qd 2) (Qc (QE "Shelf" "room" 1 Jk (QD "Walk" "shelf" (Qd 0)) Qn) Qn)))) [.val (.ref a),.val (.int i),.val (pgD P),.un] U=some (false,U):=JP (b:=true) (QW t0)
  have pl:(S.pg.map pgD).length=S.pg.length:=by simp
  have pe:=Qax P S.pg.length (h3 (by lia)) hP
  have ly:=QbI (pg:=pgD (TR.QB P)) A.h1 A.h2 D.nk (by rw [pl];lia)
  rw [pl,gL] at ly
  obtain ⟨A1,F1⟩:=A.shelf D { S with pg:=S.pg++[TR.QB P],wr:=S.wr+1 } rfl
  obtain ⟨A2,F2⟩:=A1.walk D { w with Oz:=some S.pg.length } rfl rfl
  have wr:=VJ (d:=pgD (TR.QN P S.pg.length)) (i:=i) A2.h1 A2.h2 D.nk (by simp;lia)
  rw [map_set] at wr
  obtain ⟨A3,F3⟩:=A2.shelf D { S with pg:=(S.pg++[TR.QB P]).set i (TR.QN P S.pg.length),wr:=S.wr+1+1 } rfl
  obtain ⟨A4,F4⟩:=A3.walk D { w with Oz:=some S.pg.length,aim:=TR.JI P } rfl rfl
  obtain ⟨A5,F5⟩:=A4.walk D { w with Oz:=some S.pg.length,aim:=TR.JI P,O4:=P.lv+1 } rfl rfl
  obtain ⟨A6,F6⟩:=A5.walk D { w with Oz:=some S.pg.length,aim:=TR.JI P,O4:=P.lv+1,O6:=TR.Jj w.O3 (P.lv+1) } rfl rfl
  refine ⟨_,?_,A6,F1.trans (F2.trans (F3.trans (F4.trans (F5.trans F6))))⟩
  refine Qy (env:=[.val (.ref a),.val (.int i),.val (pgD P),.val (.tup [pgD (TR.QN P S.pg.length),pgD (TR.QB P),.int (TR.JI P)])]) ?_
  refine (Qj ((QR t1).trans QS)).trans ?_
  have pg:=y8 A.h1 A.h2
  rw [pl] at pg
  refine (Qj (Za (Zc (ZF (Qf rfl) (Q0 (Xd A rfl) A.h1 (qT ..) Xh rfl pg)) rfl (Zp pe U)))).trans ?_
  refine (Qj (Jl (Q0 (Xd A rfl) A.h1 (UU ..) (JL (Ql (Qf rfl) rfl (JV (i:=1) rfl _))) rfl ly) (Qf rfl) A1.h3 wl)).trans ?_
  refine (Qj (X6 (Q0 (Xd A2 rfl) A2.h1 (qU ..) (ZF (Qf rfl) (Ql (Qf rfl) rfl (JV (i:=0) rfl _))) rfl wr))).trans ?_
  refine (Qj (Jl (Ql (Qf rfl) rfl (JV (i:=2) rfl _)) (Qf rfl) A3.h3 wl)).trans ?_
  refine (Qj (Jl (v:=.int ((P.lv+1:Nat):Int)) (Ql (Ql (Qf rfl) rfl (Qb4 P _)) rfl rfl) (Qf rfl) A4.h3 wl)).trans ?_
  have dg:Jz "dict" JY (QD "Walk" "forks" (Qd 0)) (Qc (QD "Walk" "goal" (Qd 0)) Qn) [.val (.ref a),.val (.int i),.val (pgD P),.val (.tup [pgD (TR.QN P S.pg.length),pgD (TR.QB P),.int (TR.JI P)])] _=some (oN (TR.Jj w.O3 (P.lv+1)),_) :=
   Qc6 (QY (Qf rfl) A5.h3 (U1 ..)) A5.h4 (JL (QY (Qf rfl) A5.h3 (vv ..)))
  refine (Qj (Jl dg (Qf rfl) A5.h3 wl)).trans ?_
  exact QC (QY (Qf rfl) A6.h3 (K3 ..))
end
def Qa0 (x:DV) (xs:List DV):atI (x::xs) 0=some x:=zX (j:=0) rfl
theorem V0 {r a b:Int} {n k:Nat} {ps:List DV} {U:Hs} {t i:Nat} {key:Int} {l:Int} {ks qs:List Int} {hi sd:Option Int} (h1:U[n]?=some (.ins "Shelf" (shF r k t a b))) (h2:U[k]?=some (.lst ps)) (hnk:n≠k) (hi1:i < ps.length) (ht:ps[t]?=some (Zi l ks qs hi sd)) (hl:ps.length < 99999):
  ZX [.ref n,.int key,.int i] U=some (.int ps.length,(U.set n (.ins "Shelf" (shF r k ps.length a (b+1)))).set k (.lst (ps++[Zi (l+1) [key] [(t:Int),(i:Int)] none none]))):=by
 have c:=yy (i:=(i:Int)) h1 h2 (by lia) (by lia)
 have ht':atI ps (t:Int)=some (.tup [.int l,.tup (ks.map .int),.tup (qs.map .int),opt hi,opt sd]):=zX ht
 have y:=QbI (pg:=Zi (l+1) [key] [(t:Int),(i:Int)] none none) h1 h2 hnk hl
 have pd:DV.tup [.int (l+1),.tup [.int key],.tup [.int (t:Int),.int (i:Int)],.non,.non]=Zi (l+1) [key] [(t:Int),(i:Int)] none none:=rfl
 have g1:((U.set n (.ins "Shelf" (shF r k t a (b+1)))).set k (.lst (ps++[Zi (l+1) [key] [(t:Int),(i:Int)] none none])))[n]?=some (.ins "Shelf" (shF r k t a (b+1))):=by
  rw [QL _ _ _ _ hnk.symm];exact QZ _ _ _ (by rw [h1];rfl)
 have g2:∀ X Y Z:OV,((U.set n X).set k Y).set n Z=(U.set n Z).set k Y:=fun X Y Z=>by
  rw [List.set_comm _ _ hnk,List.set_set,List.set_comm _ _ hnk.symm,List.set_comm _ _ hnk]
 have g3:((U.set n (.ins "Shelf" (shF r k ps.length a (b+1)))).set k (.lst (ps++[Zi (l+1) [key] [(t:Int),(i:Int)] none none])))[n]?=some (.ins "Shelf" (shF r k ps.length a (b+1))):=by
  rw [QL _ _ _ _ hnk.symm];exact QZ _ _ _ (by rw [h1];rfl)
 simp [ZX,X1,Q2,Qs,QU,QJ,Yg,sIf,Zo,jI,zJ,jG,jH,Qk,Qd,eC,eB,asB,Xx,eOr,Xf,JX,ji,XN,eIf,jh,Qn,Qc,Zt,YG,Qv,ZW,Qx,gN,ZI,Z0,Z1,ZM,Z5,Ja,Z6,J7,Yd,jC,ZK,Jx,Ji,Zb,X7,Ve,Ya,gSb,jE,Jz,J5,QD,zM,zU,onI,onL,onD,ZN,J6,X5,JY,ixG,Xy,qd,qg,Xg,Y7,asI,zi,VA,QE,Xj,XM,JU,qG,evP,Jg,Xa,run_pure,JC,Jh,J9,run_set,Xb,QZ,QL,ZY,YT,lim,ixD,h1,h2,c,YS,kr,Qcy,yo,xx,UU,ht',Qa0,pd,y,g1,g2,g3]
theorem Qcf {n k a f q:Nat} {S:TR.Sh} {w:TR.Wk} (A:At U n k a f q S w) (D:Dif n k a f q) {c:Nat} {key:Int} (hc:c < S.pg.length) (hr:S.pg[S.top]?=some r) (hl:S.pg.length < 90000):
  ZX [.ref n,.int key,.int c] U=some (.int S.pg.length,(U.set n (.ins "Shelf" (shF S.O2 k S.pg.length S.rd (S.wr+1)))).set k (.lst ((S.pg++[(⟨r.lv+1,[key],[(S.top:Int),(c:Int)],none,none⟩:TR.Pg)]).map pgD))):=by
 have ht:(S.pg.map pgD)[S.top]?=some (Zi r.lv r.ks r.ps r.hi (r.sd.map fun n=>(n:Int))):=by rw [Bu,hr,Option.map_some,Xn]
 have e:=V0 (key:=key) A.h1 A.h2 D.nk (i:=c) (by simpa using hc) ht (by simp;lia)
 rw [e,Br]
 rw [show Zi ((r.lv:Int)+1) [key] [(S.top:Int),(c:Int)] none none=pgD ⟨r.lv+1,[key],[(S.top:Int),(c:Int)],none,none⟩ from rfl,gL]
theorem KU (S:TR.Sh) (w:TR.Wk) (i:Nat) (P:TR.Pg):(TR.Qr S w i P).2.2.O1=w.O1:=by
 unfold TR.Qr;split<;>rfl
section
variable {U:Hs} {n k a f q:Nat} {S:TR.Sh} {w:TR.Wk} {i:Nat} {p:TR.Pg}
theorem GI (A:At U n k a f q S w) (D:Dif n k a f q) (word:Str) (t:Option Nat):∃ hp',JE [.ref a,.str word,.int i,oN t] U=some (.tup [.str word,.int i,oN t],hp')/\At hp' n k a f q S { w with O6:=t }/\Fr U hp' n k a f q:=by
 obtain ⟨A1,F1⟩:=A.walk D { w with O6:=t } rfl rfl
 refine ⟨_,?_,A1,F1⟩
 refine Qy (env:=[.val (.ref a),.val (.str word),.val (.int i),.val (oN t)]) ?_
 exact (Qj (Jl (Qf rfl) (Qf rfl) A.h3 wl)).trans (QC (Jt (JM (Qf rfl) (Qf rfl) (Qf rfl)) (by simp)))
theorem VZ (A:At U n k a f q S w) (D:Dif n k a f q) {c:Nat} (hw:w.Oz=some c) (hc:c < S.pg.length) (hr:S.pg[S.top]?=some r) (hl:S.pg.length < 90000):∃ hp',ZJ [.ref a,.int i] U=some (.tup [.str "raised", .int i,.int S.pg.length],hp')/\At hp' n k a f q { S with pg:=S.pg++[⟨r.lv+1,[w.aim],[(S.top:Int),(c:Int)],none,none⟩],top:=S.pg.length,wr:=S.wr+1 } { w with O7:=true }/\Fr U hp' n k a f q:=by
 obtain ⟨A1,F1⟩:=A.walk D { w with O7:=true } rfl rfl
 have e:=Qcf (key:=w.aim) A1 D hc hr hl
 obtain ⟨A2,F2⟩:=A1.shelf D { S with pg:=S.pg++[⟨r.lv+1,[w.aim],[(S.top:Int),(c:Int)],none,none⟩],top:=S.pg.length,wr:=S.wr+1 } rfl
 refine ⟨_,?_,A2,F1.trans F2⟩
 refine Qy (env:=[.val (.ref a),.val (.int i)]) ?_
 refine (Qj (Jl (v:=.bl true) rfl (Qf rfl) A.h3 wl)).trans ?_
 refine QC (Jt (JM rfl (Qf rfl) (Q0 (Xd A1 rfl) A1.h1 (vg ..) (ZF (QY (Qf rfl) A1.h3 (Yl ..)) (QY (d:=.int c) (Qf rfl) A1.h3 ((K3 ..).trans (by show some (oN w.Oz)=_;rw [hw];rfl)))) rfl e)) (by simp))
theorem VI (A:At U n k a f q S w) (D:Dif n k a f q) {env:En} (e0:env[0]?=some (.val (.ref a))) (e2:env[2]?=some (.val (pgD p))) (h1:p.ks.length<=100) (h2:p.ps.length=p.ks.length):
  ∃ hp',Zb "Walk" "worth" (Qd 0) (Qv 2 JS (Qc (Qd 2) (Qc (QD "Walk" "aim" (Qd 0)) Qn))) env U=some ((.nx,env),hp')/\At hp' n k a f q S { w with O1:=TR.QK p w.aim }/\Fr U hp' n k a f q:=by
 obtain ⟨A1,F1⟩:=A.walk D { w with O1:=TR.QK p w.aim } rfl rfl
 exact ⟨_,Jl (Zc (ZF (Qf e2) (QY (Qf e0) A.h3 (Yl ..))) rfl (Zp (Qb6 p w.aim h1 h2) U)) (Qf e0) A.h3 wl,A1,F1⟩
theorem Qda (A:At U n k a f q S w) (D:Dif n k a f q) (h1:p.ks.length<=100) (h2:p.ps.length=p.ks.length):
  ∃ hp',J0 [.ref a,.int i,pgD p] U=some (.tup [.str "found", .int i,opt (TR.QK p w.aim)],hp')/\At hp' n k a f q S { w with O1:=TR.QK p w.aim,O7:=true }/\Fr U hp' n k a f q:=by
 obtain ⟨hp1,e1,A1,F1⟩:=VI (env:=[.val (.ref a),.val (.int i),.val (pgD p)]) A D rfl rfl h1 h2
 obtain ⟨A2,F2⟩:=A1.walk D { w with O1:=TR.QK p w.aim,O7:=true } rfl rfl
 refine ⟨_,?_,A2,F1.trans F2⟩
 refine Qy (env:=[.val (.ref a),.val (.int i),.val (pgD p)]) ?_
 refine (Qj e1).trans ((Qj (Jl (v:=.bl true) rfl (Qf rfl) A1.h3 wl)).trans ?_)
 exact QC (Jt (JM rfl (Qf rfl) (QY (Qf rfl) A2.h3 (XX ..))) (by simp))
theorem Qf1 (A:At U n k a f q S w) (D:Dif n k a f q) (hi:i < S.pg.length) {x y:Int} (hd:w.O0=.put y x) (h1:p.ks.length<=90) (h2:p.ps.length=p.ks.length) (h3:S.O2 < (TR.QG p w.aim x).ks.length->3<=(TR.QG p w.aim x).ks.length) (h4:(TR.QG p w.aim x).ks.length<=100) (hl:S.pg.length < 90000):
  ∃ hp',XC [.ref a,.int i,pgD p] U=some (.tup [.str "put", .int i,opt (TR.QK p w.aim),oN (TR.Qr S { w with O1:=TR.QK p w.aim } i (TR.QG p w.aim x)).1],hp')/\At hp' n k a f q (TR.Qr S { w with O1:=TR.QK p w.aim } i (TR.QG p w.aim x)).2.1 (TR.Qr S { w with O1:=TR.QK p w.aim } i (TR.QG p w.aim x)).2.2/\Fr U hp' n k a f q:=by
 obtain ⟨hp1,e1,A1,F1⟩:=VI (env:=[.val (.ref a),.val (.int i),.val (pgD p),.un]) A D rfl rfl (by lia) h2
 obtain ⟨hp2,e2,A2,F2⟩:=UP A1 D hi (TR.QG p w.aim x) h3 h4 hl
 refine ⟨hp2,?_,A2,F1.trans F2⟩
 refine Qy (env:=[.val (.ref a),.val (.int i),.val (pgD p),.val (oN (TR.Qr S { w with O1:=TR.QK p w.aim } i (TR.QG p w.aim x)).1)]) ?_
 refine (Qj e1).trans ?_
 have dx:ixG (Z8 w.O0) (.int 2) hp1=some (.int x,hp1):=by rw [hd];exact JV (i:=2) rfl hp1
 refine (Qj (Za (Q0 (Qf rfl) A1.h3 (QcM ..) (ZF (Qf rfl) (Zc (JM (Qf rfl) (QY (Qf rfl) A1.h3 (Yl ..)) (Ql (QY (Qf rfl) A1.h3 (YV ..)) rfl dx)) rfl (Zp (QdL p w.aim x (by lia) (by lia)) hp1))) rfl e2))).trans ?_
 refine QC (Jt (uY rfl (Qf rfl) (QY (Qf rfl) A2.h3 ((XX ..).trans ?_)) (Qf rfl)) (by simp))
 rw [KU]
theorem Kj (A:At U n k a f q S w) (D:Dif n k a f q) (hi:i < S.pg.length) (h1:p.ks.length<=100) (h2:p.ps.length=p.ks.length):
    ∃ hp',XY [.ref a,.int i,pgD p] U=some (.tup [.str "cut", .int i,opt (TR.QK p w.aim)],hp')/\At hp' n k a f q (if (TR.QK p w.aim).isSome=true then { S with pg:=S.pg.set i (TR.without p w.aim),wr:=S.wr+1 } else S) { w with O1:=TR.QK p w.aim,O7:=true }/\Fr U hp' n k a f q:=by
  obtain ⟨hp1,e1,A1,F1⟩:=VI (env:=[.val (.ref a),.val (.int i),.val (pgD p)]) A D rfl rfl h1 h2
  have t:∀ b:Bool,(TR.QK p w.aim).isSome=b->eB (Qk jt (QD "Walk" "worth" (Qd 0)) (eC .non)) [.val (.ref a),.val (.int i),.val (pgD p)] hp1=some (b,hp1):=fun b hb=>QW (Ql (QY (Qf rfl) A1.h3 (XX ..)) rfl (by rw [ur,hb];rfl))
  cases hs:(TR.QK p w.aim).isSome with
  | true =>
    rw [C8 rfl]
    have wr:=VJ (d:=pgD (TR.without p w.aim)) (i:=i) A1.h1 A1.h2 D.nk (by simpa using hi)
    rw [map_set] at wr
    obtain ⟨A2,F2⟩:=A1.shelf D { S with pg:=S.pg.set i (TR.without p w.aim),wr:=S.wr+1 } rfl
    obtain ⟨A3,F3⟩:=A2.walk D { w with O1:=TR.QK p w.aim,O7:=true } rfl rfl
    refine ⟨_,?_,A3,F1.trans (F2.trans F3)⟩
    refine Qy (env:=[.val (.ref a),.val (.int i),.val (pgD p)]) ?_
    refine (Qj e1).trans ?_
    refine (Qj ((Zu (t true hs)).trans (X6 (Q0 (Xd A1 rfl) A1.h1 (qU ..) (ZF (Qf rfl) (Zc (ZF (Qf rfl) (QY (Qf rfl) A1.h3 (Yl ..))) rfl (Zp (ux p w.aim (by lia) (by lia)) hp1))) rfl wr)))).trans ?_
    refine (Qj (Jl (v:=.bl true) rfl (Qf rfl) A2.h3 wl)).trans ?_
    exact QC (Jt (JM rfl (Qf rfl) (QY (Qf rfl) A3.h3 (XX ..))) (by simp))
  | false =>
    rw [C7 (by simp)]
    obtain ⟨A3,F3⟩:=A1.walk D { w with O1:=TR.QK p w.aim,O7:=true } rfl rfl
    refine ⟨_,?_,A3,F1.trans F3⟩
    refine Qy (env:=[.val (.ref a),.val (.int i),.val (pgD p)]) ?_
    refine (Qj e1).trans ?_
    refine (Qj ((QR (t false hs)).trans QS)).trans ?_
    refine (Qj (Jl (v:=.bl true) rfl (Qf rfl) A1.h3 wl)).trans ?_
    exact QC (Jt (JM rfl (Qf rfl) (QY (Qf rfl) A3.h3 (XX ..))) (by simp))
theorem Qel (A:At U n k a f q S w) (D:Dif n k a f q) (hi:i < S.pg.length) {c:Nat} (hw:w.Oz=some c) (h1:p.ks.length<=90) (h2:p.ps.length<=100) (h3:S.O2 < (TR.Q1 p w.aim c).ks.length->3<=(TR.Q1 p w.aim c).ks.length) (h4:(TR.Q1 p w.aim c).ks.length<=100) (hl:S.pg.length < 90000):
  ∃ hp',Xl [.ref a,.int i,pgD p] U=some (.tup [.str "told", .int i,oN (TR.Qr S w i (TR.Q1 p w.aim c)).1],hp')/\At hp' n k a f q (TR.Qr S w i (TR.Q1 p w.aim c)).2.1 (TR.Qr S w i (TR.Q1 p w.aim c)).2.2/\Fr U hp' n k a f q:=by
 obtain ⟨hp2,e2,A2,F2⟩:=UP A D hi (TR.Q1 p w.aim c) h3 h4 hl
 refine ⟨hp2,?_,A2,F2⟩
 refine Qy (env:=[.val (.ref a),.val (.int i),.val (pgD p),.val (oN (TR.Qr S w i (TR.Q1 p w.aim c)).1)]) ?_
 have nw:QD "Walk" "new_page" (Qd 0) [.val (.ref a),.val (.int i),.val (pgD p),.un] U=some (.int c,U):=QY (Qf rfl) A.h3 ((K3 ..).trans (by rw [hw];rfl))
 refine (Qj (Za (Q0 (Qf rfl) A.h3 (QcM ..) (ZF (Qf rfl) (Zc (JM (Qf rfl) (QY (Qf rfl) A.h3 (Yl ..)) nw) rfl (Zp (uw p w.aim c (by lia) (by lia)) U))) rfl e2))).trans ?_
 exact QC (Jt (JM rfl (Qf rfl) (Qf rfl)) (by simp))
end
section
variable {U:Hs} {n k a f q:Nat} {S:TR.Sh} {w:TR.Wk} {i:Nat} {p:TR.Pg}
theorem QbX (A:At U n k a f q S w) {l h:Int} (hl:p.ks.length<=100):
  Z9 [.val (.ref a),.val (.int i),.val (pgD p),.val (.int l),.val (.int h),.un] U=some (.ref U.length,U++[OV.lst (prD (TR.QO p l h))]):=by
 have e0:v7 (Qk ixG (Qd 2) (eC (.int 1))) (Qk ixG (Qd 2) (eC (.int 2))) [.val (.ref a),.val (.int i),.val (pgD p),.val (.int l),.val (.int h),.un] U=some (prD (p.ks.zip p.ps),U):=by
  have x1:Qk ixG (Qd 2) (eC (.int 1)) [.val (.ref a),.val (.int i),.val (pgD p),.val (.int l),.val (.int h),.un] U=some (.tup (p.ks.map .int),U):=Ql (Qf rfl) rfl (QfL p U)
  have x2:Qk ixG (Qd 2) (eC (.int 2)) [.val (.ref a),.val (.int i),.val (pgD p),.val (.int l),.val (.int h),.un] U=some (.tup (p.ps.map .int),U):=Ql (Qf rfl) rfl (QfM p U)
  unfold v7
  rw [Qg x1]
  show (ya (.tup (p.ks.map .int)) >>= _) U=_
  rw [show ya (.tup (p.ks.map .int))=pure (p.ks.map .int) from rfl,Ef,Qg x2,show ya (.tup (p.ps.map .int))=pure (p.ps.map .int) from rfl,Ef,kE];rfl
 have e1:xOf (v7 (Qk ixG (Qd 2) (eC (.int 1))) (Qk ixG (Qd 2) (eC (.int 2)))) [.val (.ref a),.val (.int i),.val (pgD p),.val (.int l),.val (.int h),.un] U=some (nxD (prD (p.ks.zip p.ps)),U):=by
  unfold xOf;rw [Qg e0];rfl
 have hz:(p.ks.zip p.ps).length<=100:=by rw [List.length_zip];lia
 have e2:=kW (U:=U) (t:=fun d=>eB (Xm leD ltD (Qd 1) (Qk ixG (Qd 0) (eC (.int 0))) (Qd 2)) (cE [3,4] [.val (.ref a),.val (.int i),.val (pgD p),.val (.int l),.val (.int h),.un] d)) (f:=fun d=>Qd 0 (cE [3,4] [.val (.ref a),.val (.int i),.val (pgD p),.val (.int l),.val (.int h),.un] d)) (p:=QdS l h) (prD (p.ks.zip p.ps)) (fun d hd=>by
   obtain ⟨z,_,rfl⟩:=C5.mp hd
   have c:cE [3,4] [.val (.ref a),.val (.int i),.val (pgD p),.val (.int l),.val (.int h),.un] (.tup [.int z.1,.int z.2])=[.val (.tup [.int z.1,.int z.2]),.val (.int l),.val (.int h)]:=rfl
   show eB (Xm leD ltD (Qd 1) (Qk ixG (Qd 0) (eC (.int 0))) (Qd 2)) (cE [3,4] [.val (.ref a),.val (.int i),.val (pgD p),.val (.int l),.val (.int h),.un] (.tup [.int z.1,.int z.2])) U=_
   rw [c]
   have x1:Qk ixG (Qd 0) (eC (.int 0)) [.val (.tup [.int z.1,.int z.2]),.val (.int l),.val (.int h)] U=some (.int z.1,U):=Ql (Qf rfl) rfl (JV (i:=0) rfl U)
   by_cases q1:l<=z.1
   ·by_cases q2:z.1 < h<;>simp [eB,Xm,Jg,run_pure,x1,Qd,Z5,ZM,asB,QdS,q1,q2]
   ·simp [eB,Xm,Jg,run_pure,x1,Qd,Z5,ZM,asB,QdS,q1])
  (fun d hd=>rfl) (by rw [qh];lia)
 rw [uz] at e2
 unfold Z9 J3
 rw [Qg e1,Qg (show Xv _ _ _ lim 0 U=_ from e2)]
 rfl
theorem V1 (A:At U n k a f q S w) (D:Dif n k a f q) {l h:Int} (hd:w.O0=.stretch l h) (h1:p.ks.length<=100) (hw:w.O5.length<=50000) (hlk:(p.hi=none/\p.sd=none)∨∃ x s,p.hi=some x/\p.sd=some s):
  ∃ hp',J1 [.ref a,.int i,pgD p] U=some (QaE (TR.ZZ S w i p).1,hp')/\At hp' n k a f q (TR.ZZ S w i p).2.1 (TR.ZZ S w i p).2.2/\Fr U hp' n k a f q:=by
 have d1:ixG (Z8 w.O0) (.int 1) U=some (.int l,U):=by rw [hd];exact JV (i:=1) rfl U
 have d2:ixG (Z8 w.O0) (.int 2) U=some (.int h,U):=by rw [hd];exact JV (i:=2) rfl U
 obtain ⟨A1,F1⟩:=A.more (OV.lst (prD (TR.QO p l h)))
 obtain ⟨A2,F2⟩:=A1.pair D { w with O5:=w.O5++TR.QO p l h } rfl rfl
 have pl:(TR.QO p l h).length<=100:=by
  unfold TR.QO
  refine Bj (Cb _ _) ?_
  rw [List.length_zip];lia
 have gl:(U++[OV.lst (prD (TR.QO p l h))])[U.length]?=some (.lst (prD (TR.QO p l h))):=by simp
 have ql:q≠U.length:=fun e=>by
  have:=(Ac.mp A.h5).1;lia
 have ex:=Qae (o:=QD "Walk" "pairs" (Qd 0)) (fa:=Qc (Qd 5) Qn) (env:=[.val (.ref a),.val (.int i),.val (pgD p),.val (.int l),.val (.int h),.val (.ref U.length)]) (QY (Qf rfl) A1.h3 (U2 ..)) A1.h5 (JL (Qf rfl)) gl (by rw [qh,qh];lia)
 rw [gW] at ex
 have tw:∀ {hpx:Hs} {env:En},hpx[U.length]?=some (.lst (prD (TR.QO p l h)))->env[5]?=some (.val (.ref U.length))->ZW QaP (Qc (Qd 5) Qn) env hpx=some (.tup (prD (TR.QO p l h)),hpx):=fun {hpx env} hx he=>by
  unfold ZW
  rw [Qg (JL (Qf he))]
  show (ZE U.length >>= _) hpx=_
  rw [Qg (Zw hx)];rfl
 have gl2:((U++[OV.lst (prD (TR.QO p l h))]).set q (OV.lst (prD (w.O5++TR.QO p l h))))[U.length]?=some (.lst (prD (TR.QO p l h))):=gs ql gl
 have al:a≠U.length:=fun e=>by
  have:=(Ac.mp A.h3).1;lia
 have start:∀ (g:DSx) (r:(Fl×En)×Hs),g [.val (.ref a),.val (.int i),.val (pgD p),.val (.int l),.val (.int h),.val (.ref U.length)] ((U++[OV.lst (prD (TR.QO p l h))]).set q (OV.lst (prD (w.O5++TR.QO p l h))))=some r ->
   Qs (QU 3 (Qk ixG (QD "Walk" "deed" (Qd 0)) (eC (.int 1)))) (Qs (QU 4 (Qk ixG (QD "Walk" "deed" (Qd 0)) (eC (.int 2)))) (Qs (QU 5 Z9) (Qs (Ji (Jz "list" jv (QD "Walk" "pairs" (Qd 0)) (Qc (Qd 5) Qn))) g))) [.val (.ref a),.val (.int i),.val (pgD p),.un,.un,.un] U=some r:=fun g r hg=>by
  refine (Qj (Za (Ql (QY (Qf rfl) A.h3 (YV ..)) rfl d1))).trans ?_
  refine (Qj (Za (Ql (QY (Qf rfl) A.h3 (YV ..)) rfl d2))).trans ?_
  refine (Qj (Za (QbX A h1))).trans ?_
  exact (Qj (X6 ex)).trans hg
 have fin:∃ hp',Qs (Zb "Walk" "ended" (Qd 0) (eC (.bl true))) (QJ (Zt (Qc (eC (.str "read")) (Qc (Qd 1) (Qc (ZW QaP (Qc (Qd 5) Qn)) (Qc (eC .non) (Qc (eC .non) Qn))))))) [.val (.ref a),.val (.int i),.val (pgD p),.val (.int l),.val (.int h),.val (.ref U.length)] ((U++[OV.lst (prD (TR.QO p l h))]).set q (OV.lst (prD (w.O5++TR.QO p l h))))=some ((.rt (QaE (.read i (TR.QO p l h) none)),[.val (.ref a),.val (.int i),.val (pgD p),.val (.int l),.val (.int h),.val (.ref U.length)]),hp')/\At hp' n k a f q S { w with O5:=w.O5++TR.QO p l h,O7:=true }/\Fr U hp' n k a f q:=by
  obtain ⟨A3,F3⟩:=A2.walk D { w with O5:=w.O5++TR.QO p l h,O7:=true } rfl rfl
  refine ⟨_,?_,A3,F1.trans (F2.trans F3)⟩
  refine (Qj (Jl (v:=.bl true) rfl (Qf rfl) A2.h3 wl)).trans ?_
  exact QC (Jt (Qeu rfl (Qf rfl) (tw (gs al gl2) rfl) rfl rfl) (by simp))
 have hiE:∀ hpx:Hs,Qk ixG (Qd 2) (eC (.int 3)) [.val (.ref a),.val (.int i),.val (pgD p),.val (.int l),.val (.int h),.val (.ref U.length)] hpx=some (opt p.hi,hpx):=fun hpx=>Ql (Qf rfl) rfl (QfK p hpx)
 have sdE:∀ hpx:Hs,Qk ixG (Qd 2) (eC (.int 4)) [.val (.ref a),.val (.int i),.val (pgD p),.val (.int l),.val (.int h),.val (.ref U.length)] hpx=some (oN p.sd,hpx):=fun hpx=>Ql (Qf rfl) rfl (Qb5 p hpx)
 rcases hlk with ⟨e1,e2⟩ | ⟨x,s,e1,e2⟩
 ·rw [Qan hd e1]
  obtain ⟨hp',ef,Af,Ff⟩:=fin
  refine ⟨hp',Qy (start _ _ (Q7 ((Zu (hp1:=_) ?_).trans ef))),Af,Ff⟩
  exact QgC (QW (Ql (hiE _) rfl (by rw [xp,e1];rfl)))
 ·rw [QbK hd e1 e2]
  by_cases hx:h<=x
  ·rw [C8 hx]
   obtain ⟨hp',ef,Af,Ff⟩:=fin
   refine ⟨hp',Qy (start _ _ (Q7 ((Zu (hp1:=_) ?_).trans ef))),Af,Ff⟩
   exact (jk (QW (b:=false) (Ql (hiE _) rfl (by rw [xp,e1];rfl)))).trans (QW (Ql (hiE _) (Qf rfl) (by rw [e1];show geD (.int x) (.int h) _=_;rw [Ja,Ec hx];rfl)))
  ·rw [C7 hx]
   obtain ⟨A3,F3⟩:=A2.walk D { w with O5:=w.O5++TR.QO p l h,aim:=x } rfl rfl
   obtain ⟨A4,F4⟩:=A3.walk D { w with O5:=w.O5++TR.QO p l h,aim:=x,O6:=some s } rfl rfl
   refine ⟨_,Qy (env:=[.val (.ref a),.val (.int i),.val (pgD p),.val (.int l),.val (.int h),.val (.ref U.length)]) (start _ _ ?_),A4,F1.trans (F2.trans (F3.trans F4))⟩
   refine (Qj ((QR ((jk (QW (b:=false) (Ql (hiE _) rfl (by rw [xp,e1];rfl)))).trans (QW (b:=false) (Ql (hiE _) (Qf rfl) (by rw [e1];show geD (.int x) (.int h) _=_;rw [Ja,Ee hx];rfl))))).trans QS)).trans ?_
   refine (Qj (Jl (v:=.int x) ((hiE _).trans (by rw [e1];rfl)) (Qf rfl) A2.h3 wl)).trans ?_
   refine (Qj (Jl (v:=.int s) ((sdE _).trans (by rw [e2];rfl)) (Qf rfl) A3.h3 wl)).trans ?_
   exact QC (Jt (Qeu rfl (Qf rfl) (tw (gs al (gs al gl2)) rfl) (QY (Qf rfl) A4.h3 (YW ..)) (QY (Qf rfl) A4.h3 (Yl ..))) (by simp))
end
section
variable {U:Hs} {n k a f q:Nat} {S:TR.Sh} {w:TR.Wk} {i:Nat} {p:TR.Pg}
theorem Xe:PyData.strOk "find" = true:=by decide +kernel
theorem JR:PyData.strOk "put" = true:=by decide +kernel
theorem JK:PyData.strOk "cut" = true:=by decide +kernel
theorem XR:PyData.strOk "stretch" = true:=by decide +kernel
def zp:TR.Deed->Str
 | .find _ => "find"
 | .put _ _ => "put"
 | .cut _ => "cut"
 | .stretch _ _ => "stretch"
theorem Ui (d:TR.Deed) (U:Hs):ixG (Z8 d) (.int 0) U=some (.str (zp d),U):=by cases d<;>exact JV (i:=0) rfl U
theorem vS (A:At U n k a f q S w) (D:Dif n k a f q) (hi:i < S.pg.length) (h1:p.ks.length<=90) (h2:p.ps.length=p.ks.length) (h3:∀ x,S.O2 < (TR.QG p w.aim x).ks.length->3<=(TR.QG p w.aim x).ks.length) (h4:∀ x,(TR.QG p w.aim x).ks.length<=100) (hl:S.pg.length < 90000) (hw:w.O5.length<=50000) (hlk:(p.hi=none/\p.sd=none)∨∃ x s,p.hi=some x/\p.sd=some s):
    ∃ hp',XZ [.ref a,.int i,pgD p] U=some (QaE (TR.ZZ S w i p).1,hp')/\At hp' n k a f q (TR.ZZ S w i p).2.1 (TR.ZZ S w i p).2.2/\Fr U hp' n k a f q:=by
  have s0:QU 3 (Qk ixG (QD "Walk" "deed" (Qd 0)) (eC (.int 0))) [.val (.ref a),.val (.int i),.val (pgD p),.un] U=some ((.nx,[.val (.ref a),.val (.int i),.val (pgD p),.val (.str (zp w.O0))]),U):=Za (Ql (QY (Qf rfl) A.h3 (YV ..)) rfl (Ui w.O0 U))
  have tst:∀ (x:Str) (b:Bool),PyData.strOk (zp w.O0)=true->PyData.strOk x=true->(zp w.O0==x)=b->eB (Qk eqG (Qd 3) (eC (.str x))) [.val (.ref a),.val (.int i),.val (pgD p),.val (.str (zp w.O0))] U=some (b,U):=fun x b o1 o2 e=>QW (Ql (Qf rfl) rfl (eqS U o1 o2 e))
  have ag:∀ (nm:Str) (fn:Ep) (d:DV) (hp':Hs),List.lookup nm (wkF n f q (Z8 w.O0) (.int w.aim) (.int w.O4) (oN w.O6) (oN w.Oz) (opt w.O1) (.bl w.O7))=none->fn [.ref a,.int i,pgD p] U=some (d,hp')->QJ (QE "Walk" nm 3 fn (Qd 0) (Qc (Qd 1) (Qc (Qd 2) Qn))) [.val (.ref a),.val (.int i),.val (pgD p),.val (.str (zp w.O0))] U=some ((.rt d,[.val (.ref a),.val (.int i),.val (pgD p),.val (.str (zp w.O0))]),hp'):=fun nm fn d hp' e1 e2=>QC (Q0 (Qf rfl) A.h3 e1 (ZF (Qf rfl) (Qf rfl)) rfl e2)
  cases hd:w.O0 with
  | find y =>
    obtain ⟨hp',e,A',F'⟩:=Qda (i:=i) A D (by lia) h2
    refine ⟨hp',?_,by rw [yQ hd];exact A',F'⟩
    rw [yQ hd]
    have t:=tst "find" true (by rw [hd];exact Xe) Xe (by rw [hd];show (("find" : Str)==("find" : Str))=true;decide)
    exact Qy ((Qj s0).trans (Q7 ((Zu t).trans (ag _ _ _ _ (Qgk ..) e))))
  | put y x =>
    obtain ⟨hp',e,A',F'⟩:=Qf1 (i:=i) A D hi hd h1 h2 (h3 x) (h4 x) hl
    refine ⟨hp',?_,by rw [Uw hd];exact A',F'⟩
    rw [Uw hd]
    have t1:=tst "find" false (by rw [hd];exact JR) Xe (by rw [hd];show (("put" : Str)==("find" : Str))=false;decide)
    have t2:=tst "put" true (by rw [hd];exact JR) JR (by rw [hd];show (("put" : Str)==("put" : Str))=true;decide)
    exact Qy ((Qj s0).trans ((Qj ((QR t1).trans QS)).trans (Q7 ((Zu t2).trans (ag _ _ _ _ (Qgl ..) e)))))
  | cut y =>
    obtain ⟨hp',e,A',F'⟩:=Kj (i:=i) A D hi (by lia) h2
    refine ⟨hp',?_,by rw [Uv hd];exact A',F'⟩
    rw [Uv hd]
    have t1:=tst "find" false (by rw [hd];exact JK) Xe (by rw [hd];show (("cut" : Str)==("find" : Str))=false;decide)
    have t2:=tst "put" false (by rw [hd];exact JK) JR (by rw [hd];show (("cut" : Str)==("put" : Str))=false;decide)
    have t3:=tst "cut" true (by rw [hd];exact JK) JK (by rw [hd];show (("cut" : Str)==("cut" : Str))=true;decide)
    exact Qy ((Qj s0).trans ((Qj ((QR t1).trans QS)).trans ((Qj ((QR t2).trans QS)).trans (Q7 ((Zu t3).trans (ag _ _ _ _ (Qgm ..) e))))))
  | stretch l h =>
    obtain ⟨hp',e,A',F'⟩:=V1 (i:=i) A D hd (by lia) hw hlk
    refine ⟨hp',?_,A',F'⟩
    have t1:=tst "find" false (by rw [hd];exact XR) Xe (by rw [hd];show (("stretch" : Str)==("find" : Str))=false;decide)
    have t2:=tst "put" false (by rw [hd];exact XR) JR (by rw [hd];show (("stretch" : Str)==("put" : Str))=false;decide)
    have t3:=tst "cut" false (by rw [hd];exact XR) JK (by rw [hd];show (("stretch" : Str)==("cut" : Str))=false;decide)
    exact Qy ((Qj s0).trans ((Qj ((QR t1).trans QS)).trans ((Qj ((QR t2).trans QS)).trans ((Qj ((QR t3).trans QS)).trans (ag _ _ _ _ (Qgn ..) e)))))
theorem Qei {r:TR.Row} (T:TR.Tree S bg) (W:TR.WOk S bg w) (hr:S.O2<=50) (A:At U n k a f q S w) (D:Dif n k a f q) (hl:S.pg.length < 90000) (hf:w.O3.length < 5000) (hw:w.O5.length<=50000) (hs:TR.Jp S w=some (r,S',w')):
    ∃ hp',JW [.ref a] U=some (QaE r,hp')/\At hp' n k a f q S' w'/\Fr U hp' n k a f q:=by
  have env0:([DV.ref a].map Sl.val++List.replicate (3 - [DV.ref a].length) Sl.un)=[.val (.ref a),.un,.un]:=rfl
  cases he:w.O7 with
  | true =>
    unfold TR.Jp at hs
    rw [C8 he] at hs
    cases hs
    refine ⟨U,?_,A,Fr.refl⟩
    exact Qy (env:=[.val (.ref a),.un,.un]) (Q7 ((Zu (QW (QY (Qf rfl) A.h3 ((Xo ..).trans (by rw [he]))))).trans (QC (d:=.non) rfl)))
  | false =>
    obtain ⟨m,hm0,hpl⟩:∃ m,w.O6.getD S.top=m/\(w.O6=some m∨(w.O6=none/\m=S.top)):=by
      cases e:w.O6 with
      | none=>exact ⟨S.top,rfl,.inr ⟨rfl,rfl⟩⟩
      | some m=>exact ⟨m,rfl,.inl rfl⟩
    unfold TR.Jp at hs
    rw [C7 (by rw [he];simp),hm0] at hs
    cases hg:S.pg[m]? with
    | none=>rw [hg] at hs;cases hs
    | some p =>
      rw [hg] at hs
      simp only at hs
      have ok:=T.page m p hg
      have hml:m < S.pg.length:=(Ac.mp hg).1
      have hps:p.ps.length<=100:=by have a1:=ok.parts;have a2:=ok.few;split at a1<;>lia
      have hks:p.ks.length<=90:=by have a2:=ok.few;lia
      have r2:=T.room2
      have st0:sIf (eB (QD "Walk" "ended" (Qd 0))) (QJ (eC .non)) Zo [.val (.ref a),.un,.un] U=some ((.nx,[.val (.ref a),.un,.un]),U):=(QR (QW (QY (Qf rfl) A.h3 ((Xo ..).trans (by rw [he]))))).trans QS
      have num:eIf (eB (Qk isD (QD "Walk" "place" (Qd 0)) (eC .non))) (QE "Shelf" "root" 1 JD (QD "Walk" "shelf" (Qd 0)) Qn) (QD "Walk" "place" (Qd 0)) [.val (.ref a),.un,.un] U=some (.int m,U):=by
        rcases hpl with e | ⟨e,rfl⟩
        . exact (QgA (QW (b:=false) (Ql (QY (Qf rfl) A.h3 (YW ..)) rfl (by rw [yW,e];rfl)))).trans (QY (Qf rfl) A.h3 ((YW ..).trans (by rw [e];rfl)))
        . exact (QgB (QW (Ql (QY (Qf rfl) A.h3 (YW ..)) rfl (by rw [yW,e];rfl)))).trans (Q0 (Xd A rfl) A.h1 (uI ..) Xh rfl (Qd5 A.h1))
      have rd:=gZ (i:=m) (d:=pgD p) A.h1 A.h2 D.nk (by rw [Bu,hg];rfl)
      obtain ⟨A1,F1⟩:=A.count D { S with rd:=S.rd+1 } rfl rfl
      have st1:=Za (i:=1) num
      have st2:QU 2 (QE "Shelf" "read" 2 Z4 (QD "Walk" "shelf" (Qd 0)) (Qc (Qd 1) Qn)) [.val (.ref a),.val (.int m),.un] U=some ((.nx,[.val (.ref a),.val (.int m),.val (pgD p)]),(U.set n (.ins "Shelf" (shF S.O2 k S.top (S.rd+1) S.wr)))):=Za (Q0 (Xd A rfl) A.h1 (Vt ..) (JL (Qf rfl)) rfl rd)
      have lvE:∀ hpx:Hs,Qk ixG (Qd 2) (eC (.int 0)) [.val (.ref a),.val (.int m),.val (pgD p)] hpx=some (.int p.lv,hpx):=fun hpx=>Ql (Qf rfl) rfl (Qb4 p hpx)
      have plE:eB (Qk isD (QD "Walk" "place" (Qd 0)) (eC .non)) [.val (.ref a),.val (.int m),.val (pgD p)] (U.set n (.ins "Shelf" (shF S.O2 k S.top (S.rd+1) S.wr)))=some (w.O6.isNone,(U.set n (.ins "Shelf" (shF S.O2 k S.top (S.rd+1) S.wr)))):=QW (Ql (QY (Qf rfl) A1.h3 (YW ..)) rfl (by rw [yW];rfl))
      have glE:QD "Walk" "goal" (Qd 0) [.val (.ref a),.val (.int m),.val (pgD p)] (U.set n (.ins "Shelf" (shF S.O2 k S.top (S.rd+1) S.wr)))=some (.int w.O4,(U.set n (.ins "Shelf" (shF S.O2 k S.top (S.rd+1) S.wr)))):=QY (Qf rfl) A1.h3 (vv ..)
      have t1:Xx (eB (Qk isD (QD "Walk" "place" (Qd 0)) (eC .non))) (eB (Qk ltD (Qk ixG (Qd 2) (eC (.int 0))) (QD "Walk" "goal" (Qd 0)))) [.val (.ref a),.val (.int m),.val (pgD p)] (U.set n (.ins "Shelf" (shF S.O2 k S.top (S.rd+1) S.wr)))=some (decide (w.O6=none/\p.lv < w.O4),(U.set n (.ins "Shelf" (shF S.O2 k S.top (S.rd+1) S.wr)))):=by
        cases hp0:w.O6 with
        | none =>
          rw [hp0] at plE
          refine (vW plE).trans (QW (Ql (lvE _) glE ?_))
          rw [ZM]
          show some (DV.bl _,_)=_
          congr 3
          by_cases z:p.lv < w.O4
          . rw [Ec (show (p.lv:Int) < w.O4 by lia),Ec (show (none:Option Nat)=none/\p.lv < w.O4 from ⟨rfl,z⟩)]
          . rw [Ee (show ¬ (p.lv:Int) < w.O4 by lia),Ee (fun h=>z h.2)]
        | some z =>
          rw [hp0] at plE
          rw [Ee (fun h=>by cases h.1)]
          exact Km plE
      have go:∀ (g:DSx) (x:(Fl×En)×Hs),g [.val (.ref a),.val (.int m),.val (pgD p)] (U.set n (.ins "Shelf" (shF S.O2 k S.top (S.rd+1) S.wr)))=some x->Qs (sIf (eB (QD "Walk" "ended" (Qd 0))) (QJ (eC .non)) Zo) (Qs (QU 1 (eIf (eB (Qk isD (QD "Walk" "place" (Qd 0)) (eC .non))) (QE "Shelf" "root" 1 JD (QD "Walk" "shelf" (Qd 0)) Qn) (QD "Walk" "place" (Qd 0)))) (Qs (QU 2 (QE "Shelf" "read" 2 Z4 (QD "Walk" "shelf" (Qd 0)) (Qc (Qd 1) Qn))) g)) [.val (.ref a),.un,.un] U=some x:=fun g x hg=>(Qj st0).trans ((Qj st1).trans ((Qj st2).trans hg))
      by_cases hr1:w.O6=none/\p.lv < w.O4
      . rw [C8 hr1] at hs
        rw [Ec hr1] at t1
        cases hn:w.Oz with
        | none=>rw [hn] at hs;cases hs
        | some c =>
          rw [hn] at hs
          simp only [Option.some.injEq,Bp] at hs
          obtain ⟨rfl,rfl,rfl⟩:=hs
          have htop:m=S.top:=by
            rcases hpl with e | ⟨_,e⟩
            . rw [hr1.1] at e;cases e
            . exact e
          subst htop
          obtain ⟨c',z,b1,b2,_⟩:=W.tell (by lia)
          rw [hn] at b1;cases b1
          obtain ⟨hp',e,A',F'⟩:=VZ (i:=S.top) A1 D hn (Ac.mp b2).1 hg hl
          rw [hn] at A'
          refine ⟨hp',?_,A',F1.trans F'⟩
          exact Qy (go _ _ (Q7 ((Zu t1).trans (QC (Q0 (Qf rfl) A1.h3 (Qgj ..) (JL (Qf rfl)) rfl e)))))
      . rw [C7 hr1] at hs
        rw [Ee hr1] at t1
        have t2:eB (Qv 2 Yw (Qc (Qd 2) (Qc (QD "Walk" "aim" (Qd 0)) Qn))) [.val (.ref a),.val (.int m),.val (pgD p)] (U.set n (.ins "Shelf" (shF S.O2 k S.top (S.rd+1) S.wr)))=some (TR.Ze p w.aim,(U.set n (.ins "Shelf" (shF S.O2 k S.top (S.rd+1) S.wr)))):=QW (Zc (ZF (Qf rfl) (QY (Qf rfl) A1.h3 (Yl ..))) rfl (Zp (Qaw p w.aim) _))
        have go2:∀ (g:DSx) (x:(Fl×En)×Hs),g [.val (.ref a),.val (.int m),.val (pgD p)] (U.set n (.ins "Shelf" (shF S.O2 k S.top (S.rd+1) S.wr)))=some x->Qs (sIf (Xx (eB (Qk isD (QD "Walk" "place" (Qd 0)) (eC .non))) (eB (Qk ltD (Qk ixG (Qd 2) (eC (.int 0))) (QD "Walk" "goal" (Qd 0))))) (QJ (QE "Walk" "raise_root_over" 2 ZJ (Qd 0) (Qc (Qd 1) Qn))) Zo) g [.val (.ref a),.val (.int m),.val (pgD p)] (U.set n (.ins "Shelf" (shF S.O2 k S.top (S.rd+1) S.wr)))=some x:=fun g x hg=>(Qj ((QR t1).trans QS)).trans hg
        cases hb:TR.Ze p w.aim with
        | true =>
          rw [hb,C8 rfl] at hs
          rw [hb] at t2
          cases hsd:p.sd with
          | none=>rw [hsd] at hs;cases hs
          | some s =>
            rw [hsd] at hs
            simp only [Option.some.injEq,Bp] at hs
            obtain ⟨rfl,rfl,rfl⟩:=hs
            obtain ⟨hp',e,A',F'⟩:=GI (i:=m) A1 D "side" (some s)
            refine ⟨hp',?_,A',F1.trans F'⟩
            refine Qy (go _ _ (go2 _ _ (Q7 ((Zu t2).trans (QC (Q0 (Qf rfl) A1.h3 (QcL ..) (JM rfl (Qf rfl) (Ql (Qf rfl) rfl (Qb5 p _))) rfl ?_))))))
            rw [hsd];exact e
        | false =>
          rw [hb,C7 (by simp)] at hs
          rw [hb] at t2
          have t3:eB (Qk gtD (Qk ixG (Qd 2) (eC (.int 0))) (QD "Walk" "goal" (Qd 0))) [.val (.ref a),.val (.int m),.val (pgD p)] (U.set n (.ins "Shelf" (shF S.O2 k S.top (S.rd+1) S.wr)))=some (decide (w.O4 < p.lv),(U.set n (.ins "Shelf" (shF S.O2 k S.top (S.rd+1) S.wr)))):=QW (Ql (lvE _) glE (by
            rw [Z1]
            show some (DV.bl _,_)=_
            congr 3
            by_cases z:w.O4 < p.lv
            . rw [Ec z,Ec (by lia)]
            . rw [Ee z,Ee (by lia)]))
          by_cases hd:w.O4 < p.lv
          . rw [C8 hd] at hs
            rw [Ec hd] at t3
            cases hc:p.ps[TR.cLe p.ks w.aim]? with
            | none=>rw [hc] at hs;cases hs
            | some c =>
              rw [hc] at hs
              simp only [Option.some.injEq,Bp] at hs
              obtain ⟨rfl,rfl,rfl⟩:=hs
              have pl:=ok.parts
              rw [C7 (by lia)] at pl
              obtain ⟨c',z,b1,b2,_⟩:=T.kid m p hg (by lia) _ _ hc
              subst b1
              obtain ⟨A2,F2⟩:=A1.fork D { w with O3:=TR.zR w.O3 p.lv m } rfl rfl
              obtain ⟨hp',e,A',F'⟩:=GI (i:=m) A2 D "down" (some c')
              refine ⟨hp',?_,by rw [B7];exact A',F1.trans (F2.trans F')⟩
              have ke:=QfN p w.aim c' (by lia) pl hc
              have pt:Ya (Qd 1) (gSb (QD "Walk" "forks" (Qd 0)) (Qk ixG (Qd 2) (eC (.int 0)))) [.val (.ref a),.val (.int m),.val (pgD p)] (U.set n (.ins "Shelf" (shF S.O2 k S.top (S.rd+1) S.wr)))=some ((.nx,[.val (.ref a),.val (.int m),.val (pgD p)]),(U.set n (.ins "Shelf" (shF S.O2 k S.top (S.rd+1) S.wr))).set f (.dic (fkD (TR.zR w.O3 p.lv m)))):=Qf9 (Qf rfl) (QY (Qf rfl) A1.h3 (U1 ..)) (lvE _) A1.h4 hf
              refine Qy (go _ _ (go2 _ _ ((Qj ((QR t2).trans QS)).trans (Q7 ((Zu t3).trans ((Qj pt).trans (QC (Q0 (Qf rfl) A2.h3 (QcL ..) (JM rfl (Qf rfl) (Zc (ZF (Qf rfl) (QY (Qf rfl) A2.h3 (Yl ..))) rfl (Zp ke _))) rfl ?_))))))))
              rw [show QaE (TR.Row.down m (c':Int).toNat)=.tup [.str "down", .int m,.int c'] from by rw [B7];rfl]
              exact e
          . rw [C7 hd] at hs
            rw [Ee hd] at t3
            have go3:∀ (g:DSx) (x:(Fl×En)×Hs),g [.val (.ref a),.val (.int m),.val (pgD p)] (U.set n (.ins "Shelf" (shF S.O2 k S.top (S.rd+1) S.wr)))=some x->Qs (sIf (eB (Qv 2 Yw (Qc (Qd 2) (Qc (QD "Walk" "aim" (Qd 0)) Qn)))) (QJ (QE "Walk" "go_on" 4 JE (Qd 0) (Qc (eC (.str "side")) (Qc (Qd 1) (Qc (Qk ixG (Qd 2) (eC (.int 4))) Qn))))) Zo) (Qs (sIf (eB (Qk gtD (Qk ixG (Qd 2) (eC (.int 0))) (QD "Walk" "goal" (Qd 0)))) (Qs (Ya (Qd 1) (gSb (QD "Walk" "forks" (Qd 0)) (Qk ixG (Qd 2) (eC (.int 0))))) (QJ (QE "Walk" "go_on" 4 JE (Qd 0) (Qc (eC (.str "down")) (Qc (Qd 1) (Qc (Qv 2 Yx (Qc (Qd 2) (Qc (QD "Walk" "aim" (Qd 0)) Qn))) Qn)))))) Zo) g) [.val (.ref a),.val (.int m),.val (pgD p)] (U.set n (.ins "Shelf" (shF S.O2 k S.top (S.rd+1) S.wr)))=some x:=fun g x hg=>(Qj ((QR t2).trans QS)).trans ((Qj ((QR t3).trans QS)).trans hg)
            have t4:eB (Qk gtD (QD "Walk" "goal" (Qd 0)) (eC (.int 0))) [.val (.ref a),.val (.int m),.val (pgD p)] (U.set n (.ins "Shelf" (shF S.O2 k S.top (S.rd+1) S.wr)))=some (decide (0 < w.O4),(U.set n (.ins "Shelf" (shF S.O2 k S.top (S.rd+1) S.wr)))):=QW (Ql glE rfl (by
              rw [Z1]
              show some (DV.bl _,_)=_
              congr 3
              by_cases z:0 < w.O4
              . rw [Ec z,Ec (by lia)]
              . rw [Ee z,Ee (by lia)]))
            have glv:w.O4<=p.lv:=by
              rcases hpl with e | ⟨e,_⟩
              . obtain ⟨p',b1,b2,_⟩:=W.at_ m e
                rw [hg] at b1;cases b1;exact b2
              . exact Cy fun h=>hr1 ⟨e,h⟩
            by_cases h0:0 < w.O4
            . rw [C8 h0] at hs
              rw [Ec h0] at t4
              cases hn:w.Oz with
              | none=>rw [hn] at hs;cases hs
              | some c =>
                rw [hn] at hs
                simp only [Option.some.injEq,Bp] at hs
                obtain ⟨rfl,rfl,rfl⟩:=hs
                have kl:=TR.xQ ok (k:=w.aim) (c:=c)
                obtain ⟨hp',e,A',F'⟩:=Qel (i:=m) (p:=p) A1 D hml hn hks hps (fun z=>by have:S.O2 < (TR.Q1 p w.aim c).ks.length:=z;lia) (by lia) hl
                refine ⟨hp',?_,A',F1.trans F'⟩
                exact Qy (go _ _ (go2 _ _ (go3 _ _ (Q7 ((Zu t4).trans (QC (Q0 (Qf rfl) A1.h3 (Qgi ..) (ZF (Qf rfl) (Qf rfl)) rfl e)))))))
            . rw [C7 h0] at hs
              rw [Ee h0] at t4
              have hz:p.lv=0:=by lia
              have pl:=ok.parts
              rw [C8 hz] at pl
              have kl:∀ x,(TR.QG p w.aim x).ks.length<=S.O2+1:=fun x=>TR.jV ok
              obtain ⟨hp',e,A',F'⟩:=vS (i:=m) (p:=p) A1 D hml hks (by lia) (fun x z=>by have:S.O2 < (TR.QG p w.aim x).ks.length:=z;lia) (fun x=>by have:=kl x;lia) hl hw ((T.link m p hg).imp id fun ⟨x,s,_,b1,b2,_⟩=>⟨x,s,b1,b2⟩)
              have hs':=Ak hs
              refine ⟨hp',?_,?_,F1.trans F'⟩
              . rw [show r=(TR.ZZ { S with rd:=S.rd+1 } w m p).1 by rw [hs']]
                exact Qy (go _ _ (go2 _ _ (go3 _ _ ((Qj ((QR t4).trans QS)).trans (QC (Q0 (Qf rfl) A1.h3 (Qgh ..) (ZF (Qf rfl) (Qf rfl)) rfl e))))))
              . rw [show S'=(TR.ZZ { S with rd:=S.rd+1 } w m p).2.1 by rw [hs'],show w'=(TR.ZZ { S with rd:=S.rd+1 } w m p).2.2 by rw [hs']]
                exact A'
end
theorem QcK (n:Nat) (d:TR.Deed) (U:Hs):JO [.ref U.length,.ref n,Z8 d] (U++[.ins "Walk" []])=some (.non,U++[wkO n (U.length+1) (U.length+2) (TR.fresh d),.dic [],.lst []]):=by
 have st:∀ (nm:Str) (e:DEx) (v:DV) (fs:List (Str×DV)) (t t':Hs),e [.val (.ref U.length),.val (.ref n),.val (Z8 d)] (U++.ins "Walk" fs::t)=some (v,U++.ins "Walk" fs::t')->fs.length < 1000->Zb "Walk" nm (Qd 0) e [.val (.ref U.length),.val (.ref n),.val (Z8 d)] (U++.ins "Walk" fs::t)=some ((.nx,[.val (.ref U.length),.val (.ref n),.val (Z8 d)]),U++.ins "Walk" (J8 nm v fs)::t'):=fun nm e v fs t t' he hl=>by
  rw [Jl he (Qf rfl) (Qbv U _ _) hl,Qcr]
 have a1:∀ fs,JU [.val (.ref U.length),.val (.ref n),.val (Z8 d)] (U++.ins "Walk" fs::[])=some (.ref (U.length+1),U++.ins "Walk" fs::[.dic []]):=fun fs=>by
  show some (DV.ref (U++[OV.ins "Walk" fs]).length,(U++[OV.ins "Walk" fs])++[OV.dic []])=_
  simp
 have a2:∀ fs,XM Qn [.val (.ref U.length),.val (.ref n),.val (Z8 d)] (U++.ins "Walk" fs::[.dic []])=some (.ref (U.length+2),U++.ins "Walk" fs::[.dic [],.lst []]):=fun fs=>by
  show some (DV.ref (U++[OV.ins "Walk" fs,OV.dic []]).length,(U++[OV.ins "Walk" fs,OV.dic []])++[OV.lst []])=_
  simp
 refine Qd7 (env:=[.val (.ref U.length),.val (.ref n),.val (Z8 d)]) ?_
 refine (Qj (st "shelf" _ (.ref n) [] [] [] (Qf rfl) (By (m:=20) (by repeat (first | exact Be _ | refine JN ?_)) (by decide)))).trans ?_
 refine (Qj (st "deed" _ (Z8 d) _ [] [] (Qf rfl) (By (m:=20) (by repeat (first | exact Be _ | refine JN ?_)) (by decide)))).trans ?_
 refine (Qj (st "aim" _ (.int d.key) _ [] [] (Ql (Qf rfl) rfl (Gq d _)) (By (m:=20) (by repeat (first | exact Be _ | refine JN ?_)) (by decide)))).trans ?_
 refine (Qj (st "goal" _ (.int 0) _ [] [] rfl (By (m:=20) (by repeat (first | exact Be _ | refine JN ?_)) (by decide)))).trans ?_
 refine (Qj (st "place" _ .non _ [] [] rfl (By (m:=20) (by repeat (first | exact Be _ | refine JN ?_)) (by decide)))).trans ?_
 refine (Qj (st "forks" _ (.ref (U.length+1)) _ [] [.dic []] (a1 _) (By (m:=20) (by repeat (first | exact Be _ | refine JN ?_)) (by decide)))).trans ?_
 refine (Qj (st "new_page" _ .non _ [.dic []] [.dic []] rfl (By (m:=20) (by repeat (first | exact Be _ | refine JN ?_)) (by decide)))).trans ?_
 refine (Qj (st "worth" _ .non _ [.dic []] [.dic []] rfl (By (m:=20) (by repeat (first | exact Be _ | refine JN ?_)) (by decide)))).trans ?_
 refine (Qj (st "pairs" _ (.ref (U.length+2)) _ [.dic []] [.dic [],.lst []] (a2 _) (By (m:=20) (by repeat (first | exact Be _ | refine JN ?_)) (by decide)))).trans ?_
 exact st "ended" _ (.bl false) _ [.dic [],.lst []] [.dic [],.lst []] rfl (By (m:=20) (by repeat (first | exact Be _ | refine JN ?_)) (by decide))
theorem QcN {n:Nat} {d:TR.Deed} {fa:DAx} {hp0 U:Hs} (ha:fa env hp0=some ([.ref n,Z8 d],U)):Xj "Walk" 3 JO fa env hp0=some (.ref U.length,U++[wkO n (U.length+1) (U.length+2) (TR.fresh d),.dic [],.lst []]):=by
 unfold Xj
 rw [Qg ha]
 have al:X0 (.ins "Walk" []) U=some (.ref U.length,U++[.ins "Walk" []]):=rfl
 have gd:Qx (decide ([DV.ref n,Z8 d].length+1=3)) U=some ((),U):=rfl
 rw [Qg gd,Qg al,Qg (QcK n d U)];rfl
def yi {U:Hs} {n f q a:Nat} {w:TR.Wk} (h:U[a]?=some (wkO n f q w)):JA [.ref a] U=some (.bl w.O7,U):=Qy (QC (QY (Qf rfl) h (Xo ..)))
def jB (c p m:Int):Int:=(c+p / 3) % p * ((c+p / 3) % p) % p * ((c+p / 3) % p) % p % m
theorem Xr (c p m:Int) (h0:0 < p) (h1:p < 1073741824) (hm:0 < m):QP [.int c,.int p,.int m]=pure (.int (jB c p m)):=by
 have l0:0<=(c+p / 3) % p:=Int.emod_nonneg _ (by lia)
 have l1:(c+p / 3) % p < p:=Int.emod_lt_of_pos _ h0
 have d:=Gv p 3 (by decide) (by decide)
 have a:=Xz (c+p / 3) p h0
 have b:=KF ((c+p / 3) % p) ((c+p / 3) % p) (by lia) (by lia)
 have e:=Xz ((c+p / 3) % p * ((c+p / 3) % p)) p h0
 have f:=uj ((c+p / 3) % p * ((c+p / 3) % p) % p) ((c+p / 3) % p) (by lia) (by lia)
 have g:=Xz ((c+p / 3) % p * ((c+p / 3) % p) % p * ((c+p / 3) % p)) p h0
 have h:=Xz ((c+p / 3) % p * ((c+p / 3) % p) % p * ((c+p / 3) % p) % p) m hm
 simp [QP,yx,Q2,Qs,QU,QJ,Qk,Qd,eC,ZI,d,a,b,e,f,g,h,jB]
theorem zc (c p m:Int) (h:0 < m):0<=jB c p m:=Int.emod_nonneg _ (by lia)
def yk (c p m:Int) (h:0 < m):jB c p m < m:=Int.emod_lt_of_pos _ h
def QeK:qQ (.int 10) (.int 40)=pure (.int 10000000000000000000000000000000000000000):=rfl
def emp:DV:=.tup [.int 0,.tup [],.tup [],.non,.non]
theorem pf0 (d:DV):J8 ("page_room" : Str) d []=[(("page_room" : Str),d)]:=by rfl
theorem pf1 (x d:DV):J8 ("kept" : Str) d [(("page_room" : Str),x)]=[(("page_room" : Str),x),(("kept" : Str),d)]:=by rfl
theorem pf2 (x y d:DV):J8 ("top" : Str) d [(("page_room" : Str),x),(("kept" : Str),y)]=[(("page_room" : Str),x),(("kept" : Str),y),(("top" : Str),d)]:=by rfl
theorem pf3 (x y z d:DV):J8 ("read_count" : Str) d [(("page_room" : Str),x),(("kept" : Str),y),(("top" : Str),z)]=[(("page_room" : Str),x),(("kept" : Str),y),(("top" : Str),z),(("read_count" : Str),d)]:=by rfl
theorem pf4 (x y z u d:DV):J8 ("write_count" : Str) d [(("page_room" : Str),x),(("kept" : Str),y),(("top" : Str),z),(("read_count" : Str),u)]=[(("page_room" : Str),x),(("kept" : Str),y),(("top" : Str),z),(("read_count" : Str),u),(("write_count" : Str),d)]:=by rfl
theorem Qdk (r:Int) (U:Hs):ZS [.ref U.length,.int r] (U++[.ins "Shelf" []])=some (.non,U++[.ins "Shelf" (shF r (U.length+1) 0 0 0),.lst [emp]]):=by
 simp [ZS,YA,Q2,Qs,QU,QJ,Yg,sIf,Zo,jI,zJ,jG,jH,Qk,Qd,eC,eB,asB,Xx,eOr,Xf,JX,ji,XN,eIf,jh,Qn,Qc,Zt,YG,Qv,ZW,Qx,gN,ZI,Z0,Z1,ZM,Z5,Ja,Z6,J7,Yd,jC,ZK,Jx,Ji,Zb,X7,Ve,Ya,gSb,jE,Jz,J5,QD,zM,zU,onI,onL,onD,ZN,J6,X5,JY,ixG,Xy,qd,qg,Xg,Y7,asI,zi,VA,QE,Xj,XM,JU,qG,evP,Jg,Xa,run_pure,JC,Jh,J9,run_set,Xb,QZ,QL,ZY,Qbv,Qcr,pf0,pf1,pf2,pf3,pf4,YT,lim,shF,emp]
theorem QcJ (r:Nat) (h:2<=r):TR.Tree ⟨r,[⟨0,[],[],none,none⟩],0,0,0⟩ (fun _=>none):=by
 have one:∀ (n:Nat) (p:TR.Pg),([⟨0,[],[],none,none⟩]:List TR.Pg)[n]?=some p->n=0/\p=⟨0,[],[],none,none⟩:=fun n p U=>by
  match n,U with
  | 0,U=>cases U;exact ⟨rfl,rfl⟩
  | n+1,U=>simp at U
 refine ⟨h,⟨_,rfl,fun n p U=>?_⟩,rfl,fun n p U=>?_,fun n p U=>?_,fun n p U h0=>?_,fun n m p q hn hm _ e=>?_,fun n p U v hv=>(by cases hv)⟩
 ·rw [(one n p U).2];exact Ae _
 ·rw [(one n p U).2]
  exact ⟨List.Pairwise.nil,Be _,rfl,fun k hk=>(by cases hk),fun _ k hk=>(by cases hk),fun k hk=>(by cases hk),fun h hh=>(by cases hh)⟩
 ·rw [(one n p U).2];exact .inl ⟨rfl,rfl⟩
 ·rw [(one n p U).2] at h0;exact absurd h0 (by decide)
 ·exact absurd ((one n p hn).1.trans (one m q hm).1.symm) e
abbrev Zs:=List (Int×Int)
def zK (z:Zs):List Int:=z.map (·.1)
def zE (z:Zs):List (Key×DV):=z.map fun p=>(.inl p.1,.int p.2)
def Rise (z:Zs):Prop:=z.Pairwise fun p q=>p.1 < q.1
def Qaq (z:Zs) (k:Int):Zs:=z.filter fun p=>decide (p.1 < k)
def QaO (z:Zs) (k:Int):Zs:=z.filter fun p=>decide (k < p.1)
def KM (z:Zs) (k:Int) (n:Zs):Zs:=Qaq z k++n++QaO z k
def Rise.keys (h:Rise z):(zK z).Pairwise (· < ·):=List.pairwise_map.mpr h
theorem gM {z:Zs} {k:Int} {p:Int×Int} (h:p∈Qaq z k):p∈z/\p.1 < k:=by
 have:=Bm.mp h;exact ⟨this.1,by simpa using this.2⟩
theorem Qdu {z:Zs} {k:Int} {p:Int×Int} (h:p∈QaO z k):p∈z/\k < p.1:=by
 have:=Bm.mp h;exact ⟨this.1,by simpa using this.2⟩
theorem G8 (h:Rise z) (k:Int) (hn:Rise n) (hk:∀ p∈n,p.1=k):Rise (KM z k n):=by
 refine Bv.mpr ⟨Bv.mpr ⟨List.Pairwise.filter _ h,hn,fun a ha b hb=>?_⟩,List.Pairwise.filter _ h,fun a ha b hb=>?_⟩
 ·have:=(gM ha).2;have:=hk b hb;lia
 ·have q:=(Qdu hb).2
  rcases Ai.mp ha with w | w
  ·have:=(gM w).2;lia
  ·have:=hk a w;lia
theorem uu (z:Zs) (k:Int):(z.filter fun p=>decide (p.1≠k)).Perm (Qaq z k++QaO z k):=by
 have e:=List.filter_append_perm (fun p:Int×Int=>decide (p.1 < k)) (z.filter fun p=>decide (p.1≠k))
 rw [List.filter_filter,List.filter_filter] at e
 have a:(z.filter fun p=>decide (p.1 < k)&&decide (p.1≠k))=Qaq z k:=List.filter_congr fun p _=>by
  rw [<- Bool.decide_and,decide_eq_decide];lia
 have b:(z.filter fun p=>(!decide (p.1 < k))&&decide (p.1≠k))=QaO z k:=List.filter_congr fun p _=>by
  rw [<- decide_not,<- Bool.decide_and,decide_eq_decide];lia
 rw [a,b] at e
 exact e.symm
def Dz (kvs:List (Key×DV)) (z:Zs):Prop:=kvs.Perm (zE z)
theorem Dz.len {kvs:List (Key×DV)} {z:Zs} (d:Dz kvs z):kvs.length=z.length:=by have:=d.length_eq;simpa [zE] using this
theorem Dz.nodup {kvs:List (Key×DV)} (d:Dz kvs z) (h:Rise z):(kvs.map (·.1)).Nodup:=by
 refine (d.map (·.1)).nodup_iff.mpr ?_
 unfold zE
 rw [List.map_map]
 refine List.pairwise_map.mpr (h.imp fun q e=>?_)
 have:=Sum.inl.inj e
 lia
theorem Dz.drop (d:Dz kvs z) (k:Int):Dz (Xw kvs (.inl k)) (KM z k []):=by
 have e:(zE z).filter (fun kv=>decide (kv.1≠(Sum.inl k:Key)))=zE (z.filter fun p=>decide (p.1≠k)):=by
  unfold zE
  rw [List.filter_map]
  congr 1
  apply List.filter_congr
  intro p _
  show decide ((Sum.inl p.1:Key)≠Sum.inl k)=decide (p.1≠k)
  rw [decide_eq_decide]
  exact ⟨fun h q=>h (by rw [q]),fun h q=>h (Sum.inl.inj q)⟩
 have p:=(List.Perm.filter (fun kv:Key×DV=>decide (kv.1≠(Sum.inl k:Key))) d)
 rw [e] at p
 unfold Dz Xw KM
 rw [Bt]
 exact p.trans ((uu z k).map _)
theorem QaB:∀ {kvs:List (Key×DV)},(kvs.map (·.1)).Nodup->(zm kvs k d).Perm ((k,d)::Xw kvs k):=by
  intro kvs h
  unfold zm
  by_cases q:(kvs.any fun kv=>decide (kv.1=k))=true
  . rw [C8 q]
    induction kvs with
    | nil=>simp at q
    | cons p r ih =>
      obtain ⟨h1,h2⟩:=Cu.mp h
      by_cases e:p.1=k
      . have hr:∀ x∈r,x.1≠k:=fun x hx y=>h1 (by show p.1∈_;rw [e,<- y];exact List.mem_map_of_mem hx)
        have a:r.map (fun kv=>if kv.1=k then (kv.1,d) else kv)=r:=by
          conv=>rhs;rw [<- List.map_id r]
          exact List.map_congr_left fun x hx=>by rw [C7 (hr x hx)];rfl
        have b:Xw (p::r) k=r:=by
          unfold Xw
          rw [List.filter_cons_of_neg (by simp [e]),Cs]
          intro x hx;simpa using hr x hx
        rw [Bb,C8 e,a,b,e]
      . have q':(r.any fun kv=>decide (kv.1=k))=true:=by simpa [e] using q
        have b:Xw (p::r) k=p::Xw r k:=by
          unfold Xw
          rw [List.filter_cons_of_pos (by simpa using e)]
        rw [Bb,C7 e,b]
        exact ((ih h2 q').cons p).trans (List.Perm.swap _ _ _)
  . rw [C7 q]
    have b:Xw kvs k=kvs:=by
      unfold Xw
      rw [Cs]
      intro x hx
      have:¬ x.1=k:=fun e=>q (List.any_eq_true.mpr ⟨x,hx,by simpa using e⟩)
      simpa using this
    rw [b]
    exact List.perm_append_singleton _ _
theorem Dz.put (d:Dz kvs z) (h:Rise z) (k w:Int):Dz (zm kvs (.inl k) (.int w)) (KM z k [(k,w)]):=by
 refine (QaB (d.nodup h)).trans ?_
 have e:=(d.drop k).cons ((Sum.inl k:Key),DV.int w)
 refine e.trans ?_
 unfold KM zE
 rw [Bt]
 rw [A8]
 exact (List.perm_middle (a:=(k,w)) (l₁:=Qaq z k) (l₂:=QaO z k)).symm.map (fun p=>((Sum.inl p.1:Key),DV.int p.2))
theorem vo:∀ {kvs:List (Key×DV)},(kvs.map (·.1)).Nodup->(k,d)∈kvs->XB kvs k=some d
  | [],_,h=>by cases h
  | p::r,hn,h=>by
    obtain ⟨h1,h2⟩:=Cu.mp hn
    rw [U0]
    rcases Bk.mp h with e | e
    . rw [<- e,C8 rfl]
    . rw [C7,vo h2 e]
      intro q
      exact h1 (by show p.1∈_;rw [q];exact List.mem_map_of_mem (f:=(·.1)) e)
theorem Dz.val (d:Dz kvs z) (h:Rise z) {k w:Int} (hm:(k,w)∈z):XB kvs (.inl k)=some (.int w) :=
 vo (d.nodup h) (d.mem_iff.mpr (List.mem_map_of_mem (f:=fun p:Int×Int=>((Sum.inl p.1:Key),DV.int p.2)) hm))
def kI:Key->Int
 | .inl i=>i
 | .inr _=>0
theorem Uu:∀ {kvs:List (Key×DV)},(∀ p∈kvs,∃ i,p.1=.inl i)->ju kvs=some (kvs.map fun p=>kI p.1)
  | [],_=>rfl
  | (k,d)::r,h=>by
    obtain ⟨i,e⟩:=h (k,d) (List.mem_cons_self ..)
    cases e
    show (ju r).map (i :: ·)=_
    rw [Uu fun p U=>h p (Ax _ U)];rfl
theorem Dz.keys (d:Dz kvs z) (h:Rise z):∃ ns,ju kvs=some ns/\srt ns=zK z:=by
 refine ⟨_,Uu fun p U=>?_,(Vz ?_ (h.keys.imp fun q=>Ck q)).symm⟩
 ·obtain ⟨q,_,rfl⟩:=C5.mp (d.mem_iff.mp U)
  exact ⟨q.1,rfl⟩
 ·have e:=(d.map fun p=>kI p.1).symm
  have a:(zE z).map (fun p=>kI p.1)=zK z:=by
   unfold zE zK
   rw [List.map_map];rfl
  rwa [a] at e
theorem ku (d:Dz kvs z) (h:Rise z) {f:DEx} {n:Nat} {U:Hs} (hf:f env U=some (.ref n,U)) (hn:U[n]?=some (.dic kvs)):ZW UW (Qc f Qn) env U=some (.lst ((zK z).map .int),U):=by
 obtain ⟨ns,e1,e2⟩:=d.keys h
 have a:Qc f Qn env U=some ([.ref n],U):=K8 hf rfl
 unfold ZW
 rw [Qg a]
 show (QbB (.ref n) >>= fun ns=>pure (DV.lst ((srt ns).map .int))) U=_
 have b:QbB (.ref n) U=some (ns,U):=by
  show (ZE n >>= _) U=_
  rw [Qg (Zw hn)]
  show uq (ju kvs) U=_
  rw [e1];rfl
 rw [Qg b,e2];rfl
theorem gH {n:Nat} {U:Hs} {k:Int} (h:U[n]?=some (.dic kvs)) (hd:XB kvs (.inl k)=some d):ixG (.ref n) (.int k) U=some (d,U):=by
 show (ZE n >>= _) U=_
 rw [Qg (Zw h)]
 show (Xg (.int k) >>= fun k=>qg (XB kvs k)) U=_
 rw [show Xg (.int k)=pure (.inl k) from rfl,Ef,hd];rfl
theorem QfT {n:Nat} {U:Hs} {k:Int} {f g:DEx} (hn:U[n]?=some (.dic kvs)) (hf:f env U=some (.ref n,U)) (hg:g env U=some (.int k,U)) (hd:XB kvs (.inl k)=some d):Jz "dict" X5 f (Qc g Qn) env U=some (d,U.set n (.dic (Xw kvs (.inl k)))):=by
 unfold Jz
 rw [Qg hf]
 have e:J5 "dict" (.ref n) U=some ((),U):=by
  show (ZE n >>= _) U=_
  rw [Qg (Zw hn)];rfl
 rw [Qg e,Qg (K8 hg rfl)]
 show (ZE n >>= _) U=_
 rw [Qg (Zw hn)]
 show (Xg (.int k) >>= _) U=_
 rw [show Xg (.int k)=pure (.inl k) from rfl,Ef,hd]
 rfl
def Qhf (k w:Int):Rise [(k,w)]:=List.pairwise_singleton _ _
structure Tb (kvs:List (Key×DV)) (z:Zs) (F:Er):Prop where
 d:Dz kvs z
 rise:Rise z
 fn:∀ k v,F k=some v↔(k,v)∈z
theorem km {k:Int} {p:Int×Int}:p∈KM z k n↔(p.1≠k/\p∈z)∨p∈n:=by
 unfold KM Qaq QaO
 rw [Ai,Ai,Bm,Bm]
 simp only [decide_eq_true_eq]
 constructor
 ·rintro ((⟨a,b⟩ | a) | ⟨a,b⟩)
  ·exact .inl ⟨by lia,a⟩
  ·exact .inr a
  ·exact .inl ⟨by lia,a⟩
 ·rintro (⟨a,b⟩ | a)
  ·rcases (by lia:p.1 < k∨k < p.1) with c | c
   ·exact .inl (.inl ⟨b,c⟩)
   ·exact .inr ⟨b,c⟩
  ·exact .inl (.inr a)
theorem Qa9 {g g':DV->DV->M DV} {fa fb fc:DEx} {b b':Bool} (ha:fa env U=some (x,U)) (hb:fb env U=some (y,U)) (hc:fc env U=some (z,U)) (h1:g x y=pure (.bl b)) (h2:g' y z=pure (.bl b')):Xm g g' fa fb fc env U=some (.bl (b&&b'),U):=by
  unfold Xm
  rw [Qg ha,Qg hb,h1,Ef]
  show ((if b=true then _ else _:M DV)) U=_
  cases b with
  | false=>rfl
  | true =>
    show (fc env >>= fun w=>g' y w) U=_
    rw [Qg hc,h2];cases b'<;>rfl
def Yq {o:DEx} {x y:Str} {b:Bool} (ho:o env U=some (.str x,U)) (h1:PyData.strOk x=true) (h2:PyData.strOk y=true) (h:(x==y)=b):eB (Qk eqG o (eC (.str y))) env U=some (b,U):=QW (Ql ho rfl (eqS U h1 h2 h))
section
variable {kvs:List (Key×DV)} {z:Zs} {F:Er}
theorem Tb.put (t:Tb kvs z F) (k x:Int):Tb (zm kvs (.inl k) (.int x)) (KM z k [(k,x)]) (TR.uM F k x):=by
 refine ⟨t.d.put t.rise k x,G8 t.rise k (Qhf k x) (fun p U=>by rw [Ar.mp U]),fun j v=>?_⟩
 rw [km]
 unfold TR.uM
 by_cases e:j=k
 ·rw [C8 e]
  subst e
  simp only [Option.some.injEq,ne_eq,not_true_eq_false,false_and,false_or,Ar,Bp,true_and]
  exact eq_comm
 ·rw [C7 e,t.fn]
  simp [e]
theorem Tb.cut (t:Tb kvs z F) (k:Int):Tb (Xw kvs (.inl k)) (KM z k []) (TR.VB F k):=by
 refine ⟨t.d.drop k,G8 t.rise k List.Pairwise.nil (fun p U=>by cases U),fun j v=>?_⟩
 rw [km]
 unfold TR.VB
 by_cases e:j=k
 ·rw [C8 e]
  subst e
  simp
 ·rw [C7 e,t.fn]
  simp [e]
theorem Tb.val (t:Tb kvs z F) (k:Int):XB kvs (.inl k)=(F k).map .int:=by
  cases e:F k with
  | some v=>exact t.d.val t.rise ((t.fn k v).mp e)
  | none =>
    cases hv:XB kvs (.inl k) with
    | none=>rfl
    | some d =>
      exfalso
      unfold XB at hv
      obtain ⟨kv,h1,h2⟩:=Cg.mp hv
      have m:=List.mem_of_find?_eq_some h1
      have q:kv.1=(Sum.inl k:Key):=by
        have:=List.find?_some h1
        exact Ed this
      have m':=(List.Perm.mem_iff t.d).mp m
      obtain ⟨p,U,rfl⟩:=C5.mp m'
      have q:(Sum.inl p.1:Key)=Sum.inl k:=q
      injection q with q
      subst q
      have:=(t.fn p.1 p.2).mpr U
      rw [e] at this;cases this
def QdZ (kvs:List (Key×DV)) (k:Key) (d:DV):(zm kvs k d).length<=kvs.length+1:=Qcd kvs k d
def Qbk (kvs:List (Key×DV)) (k:Key):(Xw kvs k).length<=kvs.length:=Cb _ _
end
theorem Gj {t:DV->M Bool} {f:DV->M DV} (z:Zs) (p:Int×Int->Bool) (ht:∀ q∈z,t (.int q.1) U=some (p q,U)) (hf:∀ q∈z,f (.int q.1) U=some (.tup [.int q.1,.int q.2],U)) (hl:z.length < 100000):Xv (nxD ((zK z).map .int)) t f 100000 0 U=some (prD (z.filter p),U):=by
  have zl:((zK z).map DV.int).length=z.length:=by simp [zK]
  have zg:∀ i,((zK z).map DV.int)[i]?=(z[i]?).map fun q:Int×Int=>DV.int q.1:=fun i=>by unfold zK;rw [List.map_map,Bu];rfl
  suffices h:∀ (m i n:Nat),m+i=z.length->m < n->Xv (nxD ((zK z).map .int)) t f n i U=some (prD ((z.drop i).filter p),U) by simpa using h z.length 0 100000 rfl hl
  intro m
  induction m with
  | zero =>
    intro i n e hn'
    obtain ⟨n,rfl⟩:∃ k,n=k+1:=⟨n - 1,by lia⟩
    have:i=z.length:=by lia
    subst this
    have e1:=qf ((zK z).map .int) z.length (by lia) U
    rw [zg,show z[z.length]?=none by simp] at e1
    rw [Xv,Qg e1,List.drop_length]
    rfl
  | succ m ih =>
    intro i n e hn'
    obtain ⟨n,rfl⟩:∃ k,n=k+1:=⟨n - 1,by lia⟩
    have hlt:i < z.length:=by lia
    have e1:=qf ((zK z).map .int) i (by lia) U
    rw [zg,Ab hlt] at e1
    have r:=ih (i+1) n (by lia) (by lia)
    rw [Xv,Qg e1]
    show (t (.int z[i].1) >>= _) U=_
    rw [Qg (ht _ (B9 hlt)),Bi hlt,As]
    cases hp':p z[i] with
    | false =>
      rw [C7 (by simp)]
      exact r
    | true =>
      rw [C8 rfl,C8 rfl]
      show (f (.int z[i].1) >>= _) U=_
      rw [Qg (hf _ (B9 hlt)),Qg r];rfl
theorem Qe3 {z:Zs} {F:Er} (t:Tb kvs z F) {a e:Int} {ps:Ek} (R:TR.Rds F a e ps):z.filter (fun q=>decide (a<=q.1)&&decide (q.1 < e))=ps:=by
 refine TR.qi (List.Pairwise.filter _ t.rise) R.1 fun x=>?_
 rw [Bm]
 have:=R.2 x.1 x.2
 rw [show (x.1,x.2)=x from rfl] at this
 rw [this,t.fn]
 simp
theorem Qbg {o:DEx} {fa:DAx} {U:Hs} {a:Nat} {j:Int} (ho:o env U=some (.ref a,U)) (h:U[a]?=some (.dic kvs)) (ha:fa env U=some ([.int j],U)):Jz "dict" JY o fa env U=some ((XB kvs (.inl j)).getD .non,U):=by
 unfold Jz
 rw [Qg ho]
 have e2:J5 "dict" (.ref a) U=some ((),U):=by
  show (ZE a >>= _) U=_
  rw [Qg (Zw h)];rfl
 rw [Qg e2,Qg ha]
 show (ZE a >>= _) U=_
 rw [Qg (Zw h)]
 rfl
def Ls (w:Hs) (x:DV) (ds:List DV):Prop:=x=.lst ds∨∃ b,x=.ref b/\w[b]?=some (.lst ds)
section
variable {w:Hs} {x:DV} {ds:List DV} {env:En} {f:DEx}
theorem Ls.ls (h:Ls w x ds):lsG x w=some (ds,w):=by
 rcases h with rfl | ⟨b,rfl,hb⟩
 ·rfl
 ·show (ZE b >>= _) w=_
  rw [Qg (Zw hb)];rfl
theorem Ls.isi (h:Ls w x ds) (hf:f env w=some (x,w)):YF "list" f env w=some (.bl true,w):=by
 rcases h with rfl | ⟨b,rfl,hb⟩
 ·unfold YF;rw [Qg hf];rfl
 ·exact Qdl hf hb
theorem Ls.isu (h:Ls w x ds) (hf:f env w=some (x,w)):GB f env w=some (.bl true,w):=by
 unfold GB;rw [Qg hf]
 rcases h with rfl | ⟨b,rfl,hb⟩
 ·rfl
 ·show (ZE b >>= _) w=_
  rw [Qg (Zw hb)];rfl
theorem Ls.len (h:Ls w x ds) (hf:f env w=some (x,w)):ZW Xy (Qc f Qn) env w=some (.int ds.length,w):=by
 rcases h with rfl | ⟨b,rfl,hb⟩
 ·exact Qfh hf
 ·exact Qdt hf hb
end
theorem U3:∀ ds:List DV,XS ds ds=ds.map fun d=>.tup [d,d]
 | []=>rfl
 | d::ds=>by show _::XS ds ds=_;rw [U3 ds];rfl
theorem UL (n:Nat) {ds:List DV} {w:Hs} {nxt:NX} (hf:QcS (Qd 0) (Qd 1) [.val x,.val y,.un,.un] w=some (nxt,w)) (hn:∀ i,i<=ds.length->nxt i w=some ((ds.map fun d=>DV.tup [d,d])[i]?,w)) (hd:∀ d∈ds,QX n [d,d] w=some (.bl true,w)) (hl:ds.length < 100000):∃ z2 z3,Y3 (QX n) [.val x,.val y,.un,.un] w=some ((.nx,[.val x,.val y,z2,z3]),w):=by
 have M:WP (YH nxt (fun d env=>do let env' <- gT [2,3] d env;qc (QX n) env') 100000 0 [.val x,.val y,.un,.un]) w fun q w'=>w'=w/\∃ z2 z3,q=(.nx,[.val x,.val y,z2,z3]):=by
  refine U8 (ds.map fun d=>DV.tup [d,d]) (fun i env w'=>w'=w/\∃ z2 z3,env=[.val x,.val y,z2,z3]) (by rw [Br];exact hl) (fun i env U hi h=>by rw [h.1];exact hn i (by rwa [Br] at hi)) ⟨rfl,_,_,rfl⟩ (fun i d hd' env w' h=>?_) (fun env w' h=>by obtain ⟨e,z2,z3,e'⟩:=h;exact ⟨e,z2,z3,by rw [e']⟩)
  obtain ⟨e0,z2,z3,e1⟩:=h
  rw [e0,e1]
  obtain ⟨p,U,rfl⟩:=C5.mp (Aw hd')
  refine ⟨(.nx,[.val x,.val y,.val p,.val p]),w,?_,rfl,_,_,rfl⟩
  show qc (QX n) [.val x,.val y,.val p,.val p] w=_
  exact (QR (JP (b:=true) (QW (Zc (ZF (Qf rfl) (Qf rfl)) rfl (hd p U))))).trans QS
 obtain ⟨q,w',e,rfl,z2,z3,rfl⟩:=M
 refine ⟨z2,z3,?_⟩
 unfold Y3 jJ
 rw [Qg hf];exact e
theorem vc (n:Nat) (i:Int) (w:Hs):QX (n+1) [.int i,.int i] w=some (.bl true,w):=by
 show Q2 4 (X2 (QX n)) _ _=_
 refine Qy (env:=[.val (.int i),.val (.int i),.un,.un]) ((Qj ((QR (QW rfl)).trans QS)).trans ((Qj ((QR (QW rfl)).trans QS)).trans (QC ?_)))
 exact (Gz (b:=true) rfl).trans ((Gz (b:=true) rfl).trans (Ql rfl rfl ((eqI i i w).trans (by simp))))
theorem Qcm (n:Nat) (w:Hs):QX (n+1) [.non,.non] w=some (.bl true,w):=by
 show Q2 4 (X2 (QX n)) _ _=_
 exact Qy (env:=[.val .non,.val .non,.un,.un]) ((Qj ((QR (QW rfl)).trans QS)).trans (Q7 ((Zu (QW rfl)).trans (QC rfl))))
theorem Qcn (n:Nat) (o:Option Int) (w:Hs):QX (n+1) [opt o,opt o] w=some (.bl true,w):=by
 cases o with
 | none=>exact Qcm n w
 | some i=>exact vc n i w
theorem QaH (n:Nat) (a b:Int) (w:Hs):QX (n+2) [.tup [.int a,.int b],.tup [.int a,.int b]] w=some (.bl true,w):=by
 let x:DV:=.tup [.int a,.int b]
 obtain ⟨z2,z3,e⟩:=UL (n+1) (x:=x) (y:=x) (ds:=[.int a,.int b]) (w:=w) (nxt:=nxD (XS [.int a,.int b] [.int a,.int b])) rfl (fun i hi=>qf (XS [.int a,.int b] [.int a,.int b]) i hi w) (fun d hd=>by
  simp only [Bk,Cf,or_false] at hd
  rcases hd with rfl | rfl<;>exact vc ..) (by simp)
 show Q2 4 (X2 (QX (n+1))) _ _=_
 refine Qy (env:=[.val x,.val x,z2,z3]) (Q7 ((Zu (hp1:=w) (QW rfl)).trans ((Qj ((QR (hp1:=w) ?_).trans QS)).trans ((Qj ((QR (hp1:=w) ?_).trans QS)).trans ((Qj e).trans (QC rfl))))))
 ·exact (jk (QW (Ql (x:=.bl false) (y:=.bl false) rfl rfl (GW (QeJ 0 false) (by decide) w)))).trans (JP (b:=true) (QW rfl))
 ·exact QW (Ql (x:=.int 2) (y:=.int 2) (Y5 (JL (Qf rfl)) rfl) (Y5 (JL (Qf rfl)) rfl) (QgT 2 w))
theorem UN (n:Nat) {ps:Ek} {w:Hs} (hx:Ls w x (prD ps)) (hl:ps.length < 100000):QX (n+3) [x,.lst (prD ps)] w=some (.bl true,w):=by
 let y:DV:=.lst (prD ps)
 have hy:Ls w y (prD ps):=.inl rfl
 have hf:QcS (Qd 0) (Qd 1) [.val x,.val y,.un,.un] w=some (nxZ x y,w):=by
  unfold QcS
  rw [Qg (Qf (d:=x) rfl),Qg (Qf (d:=y) rfl)]
  have q:(do let _ <- lsG x;let _ <- lsG y;pure (nxZ x y):M NX) w=some (nxZ x y,w):=by rw [Qg hx.ls,Qg hy.ls];rfl
  rcases hx with rfl | ⟨b,rfl,hb⟩<;>exact q
 obtain ⟨z2,z3,e⟩:=UL (n+2) (x:=x) (y:=y) (ds:=prD ps) (w:=w) hf (fun i hi=>by
  unfold nxZ
  rw [Qg hx.ls,Qg hy.ls,U3]
  show some (_,w)=_
  rw [List.head?_map,List.head?_drop,Bu]) (fun d hd=>by
  obtain ⟨p,_,rfl⟩:=C5.mp hd
  exact QaH ..) (by rw [qh];exact hl)
 show Q2 4 (X2 (QX (n+2))) _ _=_
 refine Qy (env:=[.val x,.val y,z2,z3]) (Q7 ((Zu (hp1:=w) (QW (hy.isu (Qf rfl)))).trans ((Qj ((QR (hp1:=w) ?_).trans QS)).trans ((Qj ((QR (hp1:=w) ?_).trans QS)).trans ((Qj e).trans (QC rfl))))))
 ·exact (jk (QW (Ql (hx.isi (Qf rfl)) (hy.isi (Qf rfl)) (GW (QeJ 0 true) (by decide) w)))).trans (JP (b:=true) (QW (hx.isu (Qf rfl))))
 ·exact QW (Ql (hx.len (Qf rfl)) (hy.len (Qf rfl)) (QgT _ w))
def zF (v:TR.Wk):DV:=match v.O0 with
 | .stretch _ _=>.lst (prD v.O5)
 | _=>opt v.O1
section
variable {w:Hs} {s a f q:Nat} {v:TR.Wk}
theorem QeQ (h3:w[a]?=some (wkO s f q v)) (he:v.O7=false):Q9 [.ref a] w=some (.non,w) :=
 Qy (env:=[.val (.ref a)]) (Q7 ((Zu (JP (b:=false) (QW ((QY (Qf rfl) h3 (Xo ..)).trans (by rw [he]))))).trans (QC rfl)))
theorem uZ {l h:Int} (h3:w[a]?=some (wkO s f q v)) (h5:w[q]?=some (.lst (prD v.O5))) (he:v.O7=true) (hd:v.O0=.stretch l h):Q9 [.ref a] w=some (.ref w.length,w++[.lst (prD v.O5)]):=by
 refine Qy (env:=[.val (.ref a)]) ((Qj ((QR (JP (b:=true) (QW ((QY (Qf rfl) h3 (Xo ..)).trans (by rw [he]))))).trans QS)).trans (Q7 ((Zu (hp1:=w) ?_).trans (QC ?_))))
 ·have d0:QD "Walk" "deed" (Qd 0) [.val (.ref a)] w=some (.tup [.str "stretch", .int l,.int h],w):=(QY (Qf rfl) h3 (YV ..)).trans (by rw [hd];rfl)
  exact Yq (zQ (i:=0) d0 rfl rfl) XR XR (by decide)
 ·refine Y5 (JL (QY (Qf rfl) h3 (U2 ..))) ?_
  have e:Qec (.ref q) w=some (prD v.O5,w):=by
   show (ZE q >>= _) w=_
   rw [Qg (Zw h5)];rfl
  show (Qec (.ref q) >>= fun ds=>X0 (.lst ds)) w=_
  rw [Qg e];rfl
theorem V8 (h3:w[a]?=some (wkO s f q v)) (he:v.O7=true) (hd:∀ l h,v.O0≠.stretch l h):Q9 [.ref a] w=some (opt v.O1,w)/\zF v=opt v.O1:=by
 have nx:∀ (x:Str) (ds:List DV),Z8 v.O0=.tup (.str x::ds)->PyData.strOk x=true->(x==("stretch" : Str))=false->Q9 [.ref a] w=some (opt v.O1,w):=fun x ds e ok ne=>by
  refine Qy (env:=[.val (.ref a)]) ((Qj ((QR (JP (b:=true) (QW ((QY (Qf rfl) h3 (Xo ..)).trans (by rw [he]))))).trans QS)).trans ((Qj ((QR (hp1:=w) ?_).trans QS)).trans (QC (QY (Qf rfl) h3 (XX ..)))))
  have d0:QD "Walk" "deed" (Qd 0) [.val (.ref a)] w=some (.tup (.str x::ds),w):=(QY (Qf rfl) h3 (YV ..)).trans (by rw [e])
  exact Yq (zQ (i:=0) d0 rfl rfl) ok XR ne
 unfold zF
 cases e:v.O0 with
 | find k=>exact ⟨nx "find" _ (by rw [e];rfl) Xe (by decide),rfl⟩
 | put k x=>exact ⟨nx "put" _ (by rw [e];rfl) JR (by decide),rfl⟩
 | cut k=>exact ⟨nx "cut" _ (by rw [e];rfl) JK (by decide),rfl⟩
 | stretch l h=>exact absurd e (hd l h)
theorem K9 (h3:w[a]?=some (wkO s f q v)) (h5:w[q]?=some (.lst (prD v.O5))) (he:v.O7=true) (U:v.O5.length < 100000):∃ x t,Q9 [.ref a] w=some (x,w++t)/\QX 6 [x,zF v] (w++t)=some (.bl true,w++t):=by
 by_cases hd:∃ l h,v.O0=.stretch l h
 ·obtain ⟨l,h,e⟩:=hd
  refine ⟨.ref w.length,[.lst (prD v.O5)],uZ h3 h5 he e,?_⟩
  unfold zF
  rw [e]
  exact UN 3 (.inr ⟨w.length,rfl,by simp⟩) U
 ·obtain ⟨e1,e2⟩:=V8 h3 he fun l h e=>hd ⟨l,h,e⟩
  refine ⟨opt v.O1,[],by rw [Bt];exact e1,?_⟩
  rw [e2]
  exact Qcn 5 ..
theorem UX (h3:w[a]?=some (wkO s f q v)) (he:v.O7=true):JW [.ref a] w=some (.non,w) :=
 Qy (env:=[.val (.ref a),.un,.un]) (Q7 ((Zu (QW (QY (Qf rfl) h3 ((Xo ..).trans (by rw [he]))))).trans (QC (d:=.non) rfl)))
end
theorem Qdf {b:DV->DSx} {ds:List DV} {n i:Nat} (hi:ds[i]?=some d) (h:b d env U=some ((.rt x,env1),hp1)):YH (nxD ds) b (n+1) i env U=some ((.rt x,env1),hp1):=by
 rw [YH,Qg (qf ds i (Nat.le_of_lt (Ac.mp hi).1) U),hi]
 show (b d env >>= _) U=_
 rw [Qg h];rfl
theorem Qde {b:DV->DSx} {ds:List DV} {n i:Nat} (hi:ds[i]?=some d) (h:b d env U=some ((.nx,env1),hp1)):YH (nxD ds) b (n+1) i env U=YH (nxD ds) b n (i+1) env1 hp1:=by
 rw [YH,Qg (qf ds i (Nat.le_of_lt (Ac.mp hi).1) U),hi]
 show (b d env >>= _) U=_
 rw [Qg h]
section
variable {kvs:List (Key×DV)} {z:Zs} {F F':Er} {w:Hs} {v:TR.Wk}
theorem Qe2 (t:Tb kvs z F) (h:w[2]?=some (.dic kvs)) (hl:kvs.length < 90000) {d:TR.Deed} (an:TR.Ans F F' v d) (vd:v.O0=d):∃ kvs' z',qW [Z8 d,.ref 2] w=some (zF v,w.set 2 (.dic kvs'))/\Tb kvs' z' F'/\kvs'.length<=kvs.length+1:=by
  let E:Sl->En:=fun y=>[.val (Z8 d),.val (.ref 2),y]
  have same:w.set 2 (.dic kvs)=w:=Qed h
  have av:∀ l r,d=.stretch l r->zF v=.lst (prD v.O5):=fun l r e=>by unfold zF;rw [vd,e]
  have aw:(∀ l r,d≠.stretch l r)->zF v=opt v.O1:=fun e=>by
    unfold zF
    rw [vd]
    cases d with
    | stretch l r=>exact absurd rfl (e l r)
    | _=>rfl
  have i0:∀ (y:Sl) (w':Hs),Qk ixG (Qd 0) (eC (.int 0)) (E y) w'=some (.str (zp d),w'):=fun y w'=>Ql (Qf rfl) rfl (Ui d w')
  have i1:∀ (y:Sl) (w':Hs),Qk ixG (Qd 0) (eC (.int 1)) (E y) w'=some (.int d.key,w'):=fun y w'=>Ql (Qf rfl) rfl (Gq d w')
  have got:∀ k,d.key=k->QU 2 (Jz "dict" JY (Qd 1) (Qc (Qk ixG (Qd 0) (eC (.int 1))) Qn)) (E .un) w=some ((.nx,E (.val (opt (F k)))),w):=fun k e=>by
    have g:=Qbg (o:=Qd 1) (env:=E .un) (j:=k) (Qf rfl) h (JL (e▸i1 .un w))
    rw [t.val] at g
    have q:(((F k).map DV.int).getD .non)=opt (F k):=by cases F k<;>rfl
    rw [q] at g
    exact Za g
  have pre:∀ (rest:DSx) (r:(Fl×En)×Hs) k,d.key=k->PyData.strOk (zp d)=true->(zp d==("stretch" : Str))=false->rest (E (.val (opt (F k)))) w=some r->Qs (sIf (eB (Qk eqG (Qk ixG (Qd 0) (eC (.int 0))) (eC (.str "stretch")))) (QJ qz) Zo) (Qs (QU 2 (Jz "dict" JY (Qd 1) (Qc (Qk ixG (Qd 0) (eC (.int 1))) Qn))) rest) (E .un) w=some r:=fun rest r k hk ok ne hr =>
    (Qj ((QR (Yq (i0 _ _) ok XR ne)).trans QS)).trans ((Qj (got k hk)).trans hr)
  cases d with
  | stretch l r =>
    obtain ⟨e1,R⟩:=an
    rw [e1,av l r rfl]
    refine ⟨kvs,z,?_,t,by lia⟩
    rw [same]
    refine Qy (env:=E .un) (Q7 ((Zu (hp1:=w) (Yq (x := "stretch") (i0 _ _) XR XR (by decide))).trans (QC ?_)))
    unfold qz J3
    have x:xLs (ZW UW (Qc (Qd 1) Qn)) (E .un) w=some (nxD ((zK z).map .int),w):=VN (ku t.d t.rise (n:=2) (Qf rfl) h)
    rw [Qg x]
    have zl:z.length < 100000:=by have:=t.d.len;lia
    have q:=Gj (t:=fun c=>eB (Xm leD ltD (Qk ixG (Qd 2) (eC (.int 1))) (Qd 0) (Qk ixG (Qd 2) (eC (.int 2)))) (cE [1,0] (E .un) c)) (f:=fun c=>Zt (Qc (Qd 0) (Qc (Qk ixG (Qd 1) (Qd 0)) Qn)) (cE [1,0] (E .un) c)) (U:=w) z (fun q=>decide (l<=q.1)&&decide (q.1 < r)) (fun q hq=>by
        refine QW ?_
        rw [Qa9 (x:=.int l) (y:=.int q.1) (z:=.int r) (zQ (i:=1) (ds:=[.str "stretch", .int l,.int r]) (Qf rfl) rfl rfl) (Qf rfl) (zQ (i:=2) (ds:=[.str "stretch", .int l,.int r]) (Qf rfl) rfl rfl) (Z5 ..) (ZM ..)]) (fun q hq=>Jt (ZF (Qf rfl) (Ql (Qf rfl) (Qf rfl) (gH h (t.d.val t.rise hq)))) (by simp)) zl
    rw [Qe3 t R] at q
    exact (Qg q).trans rfl
  | find k =>
    obtain ⟨e1,e2⟩:=an
    rw [e1,aw (fun l r q=>by cases q),e2]
    refine ⟨kvs,z,?_,t,by lia⟩
    rw [same]
    refine Qy (env:=E (.val (opt (F k)))) (pre _ _ k rfl Xe (show (("find" : Str) == "stretch")=false by decide) ?_)
    exact (Qj ((QR (Yq (x := "find") (i0 _ _) Xe JR (by decide))).trans QS)).trans ((Qj ((QR (Km (Yq (x := "find") (i0 _ _) Xe JK (by decide)))).trans QS)).trans (QC (Qf rfl)))
  | put k x =>
    obtain ⟨e1,e2⟩:=an
    rw [e1,aw (fun l r q=>by cases q),e2]
    refine ⟨_,_,?_,t.put k x,QdZ ..⟩
    let e:En:=E (.val (opt (F k)))
    have s1:Ya (Qk ixG (Qd 0) (eC (.int 2))) (gSb (Qd 1) (Qk ixG (Qd 0) (eC (.int 1)))) e w=some ((.nx,e),w.set 2 (.dic (zm kvs (.inl k) (.int x)))):=by
      refine kn (d:=.int x) (zQ (i:=2) (ds:=[.str "put", .int k,.int x]) (Qf rfl) rfl rfl) ?_
      unfold gSb
      have ik:Qk ixG (Qd 0) (eC (.int 1)) e w=some (.int k,w):=i1 _ w
      rw [Qg (Qf rfl),Qg ik,Qg (G3 (d:=.int x) h (show Y7 (.int k)=some (.inl k) from rfl) (by lia))];rfl
    refine Qy (env:=e) (pre _ _ k rfl JR (show (("put" : Str) == "stretch")=false by decide) ?_)
    exact (Qj ((Zu (Yq (x := "put") (i0 _ _) JR JR (by decide))).trans s1)).trans ((Qj ((QR (Km (Yq (x := "put") (i0 _ _) JR JK (by decide)))).trans QS)).trans (QC (Qf rfl)))
  | cut k =>
    obtain ⟨e1,e2⟩:=an
    rw [e1,aw (fun l r q=>by cases q),e2]
    let e:En:=E (.val (opt (F k)))
    have go:sIf (eB (Qk eqG (Qk ixG (Qd 0) (eC (.int 0))) (eC (.str "put")))) (Ya (Qk ixG (Qd 0) (eC (.int 2))) (gSb (Qd 1) (Qk ixG (Qd 0) (eC (.int 1))))) Zo e w=some ((.nx,e),w):=(QR (Yq (x := "cut") (i0 _ _) JK JR (by decide))).trans QS
    have c0:∀ b,jt (opt (F k)) .non=pure (.bl b)->Xx (eB (Qk eqG (Qk ixG (Qd 0) (eC (.int 0))) (eC (.str "cut")))) (eB (Qk jt (Qd 2) (eC .non))) e w=some (b,w):=fun b hb=>(vW (Yq (x := "cut") (i0 _ _) JK JK (by decide))).trans (QW (Ql (Qf rfl) rfl (by rw [hb];rfl)))
    cases hF:F k with
    | none =>
      have tc:TR.VB F k=F:=by
        funext j
        unfold TR.VB
        by_cases q:j=k
        . rw [C8 q,q,hF]
        . rw [C7 q]
      refine ⟨kvs,z,?_,by rw [tc];exact t,by lia⟩
      rw [same,<- hF]
      exact Qy (env:=e) (pre _ _ k rfl JK (show (("cut" : Str) == "stretch")=false by decide) ((Qj go).trans ((Qj ((QR (c0 false (by rw [hF];rfl))).trans QS)).trans (QC (Qf rfl)))))
    | some y =>
      refine ⟨_,_,?_,t.cut k,Nat.le_succ_of_le (Qbk ..)⟩
      rw [<- hF]
      exact Qy (env:=e) (pre _ _ k rfl JK (show (("cut" : Str) == "stretch")=false by decide) ((Qj go).trans ((Qj ((Zu (c0 true (by rw [hF];rfl))).trans (X6 (QfT h (Qf rfl) (i1 _ w) (d:=.int y) (by show XB kvs (.inl k)=_;rw [t.val,hF];rfl))))).trans (QC (Qf rfl)))))
end
theorem vA:∀ (a b:List Int),XS (a.map .int) (b.map .int)=prD (a.zip b)
 | [],_=>rfl
 | _::_,[]=>rfl
 | x::a,y::b=>by show _::XS (a.map .int) (b.map .int)=_;rw [vA a b];rfl
theorem Qds {S:TR.Sh} (T:TR.Tree S bg) (hr:S.O2<=50) (hm:S.pg.length<=900) {n:Nat} {r:List Nat} (c:TR.Chain S n r):∀ (i m:Nat) (w:Hs) (acc:Ek) (x:Int) (z3 z4:Sl),i+r.length<=S.pg.length->r.length < m->w[0]?=some (.ins "Shelf" (shF S.O2 1 S.top x S.wr))->w[1]?=some (.lst (S.pg.map pgD))->acc.length<=100 * i ->
    ∃ y1 y2 y3 y4 x',YH (nxD (Jf 0 S.pg.length)) (fun d env=>do let env' <- gN 3 d env;qM env') m i [.val (.ref 0),.val (.lst (prD acc)),.val (.int n),z3,z4] w=some ((.rt (.lst (prD (acc++TR.qt S r))),[.val (.ref 0),y1,y2,y3,y4]),w.set 0 (.ins "Shelf" (shF S.O2 1 S.top x' S.wr))):=by
  have one:∀ {n:Nat} {p:TR.Pg},S.pg[n]?=some p->∀ (i:Nat) (w:Hs) (acc:Ek) (x:Int) (z4:Sl),i < S.pg.length->w[0]?=some (.ins "Shelf" (shF S.O2 1 S.top x S.wr))->w[1]?=some (.lst (S.pg.map pgD))->acc.length<=100 * i->∀ (rest:DSx) q,rest [.val (.ref 0),.val (.lst (prD (acc++TR.prs p))),.val (.int n),.val (.int i),.val (pgD p)] (w.set 0 (.ins "Shelf" (shF S.O2 1 S.top (x+1) S.wr)))=some q->(TR.prs p).length<=100/\Qs (QU 4 (QE "Shelf" "read" 2 Z4 (Qd 0) (Qc (Qd 2) Qn))) (Qs (QU 1 (Qk QcX (Qd 1) (GC (Qk ixG (Qd 4) (eC (.int 1))) (Qk ixG (Qd 4) (eC (.int 2)))))) rest) [.val (.ref 0),.val (.lst (prD acc)),.val (.int n),.val (.int i),z4] w=some q:=fun {n p} U i w acc x z4 hi h0 h1 ha rest q hq=>by
    have few:=(T.page n p U).few
    have pl:(TR.prs p).length<=100:=by unfold TR.prs;rw [List.length_zip];lia
    refine ⟨pl,?_⟩
    let e0:En:=[.val (.ref 0),.val (.lst (prD acc)),.val (.int n),.val (.int i),.val (pgD p)]
    let w1:=w.set 0 (.ins "Shelf" (shF S.O2 1 S.top (x+1) S.wr))
    have hd:(S.pg.map pgD)[n]?=some (pgD p):=by rw [Bu,U];rfl
    refine (Qj (env1:=e0) (hp1:=w1) (Za (Q0 (a:=0) (Qf rfl) h0 (Vt ..) (JL (Qf rfl)) rfl (gZ h0 h1 (by decide) hd)))).trans ?_
    have g:∀ (j:Nat) (d:DV),[DV.int p.lv,.tup (p.ks.map .int),.tup (p.ps.map .int),opt p.hi,oN p.sd][j]?=some d->Qk ixG (Qd 4) (eC (.int j)) e0 w1=some (d,w1):=fun j d hj=>zQ (i:=j) (ds:=[.int p.lv,.tup (p.ks.map .int),.tup (p.ps.map .int),opt p.hi,oN p.sd]) (Qf rfl) rfl hj
    have zz:GC (Qk ixG (Qd 4) (eC (.int 1))) (Qk ixG (Qd 4) (eC (.int 2))) e0 w1=some (.lst (prD (TR.prs p)),w1):=by
      unfold GC v7
      have a1:(ya (.tup (p.ks.map .int))) w1=some (p.ks.map .int,w1):=rfl
      have a2:(ya (.tup (p.ps.map .int))) w1=some (p.ps.map .int,w1):=rfl
      have b:(do let x <- Qk ixG (Qd 4) (eC (.int 1)) e0;let xs <- ya x;let y <- Qk ixG (Qd 4) (eC (.int 2)) e0;let ys <- ya y;pure (XS xs ys):M (List DV)) w1=some (prD (TR.prs p),w1):=by
        have g1:Qk ixG (Qd 4) (eC (.int 1)) e0 w1=some (.tup (p.ks.map .int),w1):=g 1 _ rfl
        have g2:Qk ixG (Qd 4) (eC (.int 2)) e0 w1=some (.tup (p.ps.map .int),w1):=g 2 _ rfl
        rw [Qg g1,Qg a1,Qg g2,Qg a2,vA];rfl
      rw [Qg b];rfl
    have ad:QcX (.lst (prD acc)) (.lst (prD (TR.prs p))) w1=some (.lst (prD (acc++TR.prs p)),w1):=by
      have s:YT (prD acc++prD (TR.prs p))=true:=Ec (by rw [An,qh,qh];show _<=100000;lia)
      show (Qx (YT (prD acc++prD (TR.prs p))) >>= fun _=>pure (DV.lst (prD acc++prD (TR.prs p)))) w1=_
      rw [s,gW];rfl
    exact (Qj (env1:=[.val (.ref 0),.val (.lst (prD (acc++TR.prs p))),.val (.int n),.val (.int i),.val (pgD p)]) (hp1:=w1) (Za (Ql (Qf rfl) zz ad))).trans hq
  have sd:∀ (p:TR.Pg) (acc:Ek) (n i:Nat) (w1:Hs),Qk ixG (Qd 4) (eC (.int 4)) [.val (.ref 0),.val (.lst (prD acc)),.val (.int n),.val (.int i),.val (pgD p)] w1=some (oN p.sd,w1):=fun p acc n i w1=>zQ (i:=4) (ds:=[.int p.lv,.tup (p.ks.map .int),.tup (p.ps.map .int),opt p.hi,oN p.sd]) (Qf rfl) rfl rfl
  have pa:∀ {n:Nat} {p:TR.Pg},S.pg[n]?=some p->TR.uv S n=TR.prs p:=fun {n p} h=>by unfold TR.uv;rw [h]
  induction c with
  | @last n p U hs =>
    intro i m w acc x z3 z4 hi hm' h0 h1 ha
    have hi:i < S.pg.length:=by simp at hi;lia
    obtain ⟨m,rfl⟩:∃ k,m=k+1:=⟨m - 1,by lia⟩
    have il:i < (Jf 0 S.pg.length).length:=by rw [Vc];exact hi
    have ei:(Jf 0 S.pg.length)[i]?=some (.int (i:Int)):=(Ab il).trans (by rw [(kj (Ab il)).2])
    have lf:TR.qt S [n]=TR.prs p:=by unfold TR.qt;simp [pa U]
    rw [lf]
    refine ⟨_,_,_,_,x+1,Qdf ei (env1:=[.val (.ref 0),.val (.lst (prD (acc++TR.prs p))),.val (.int n),.val (.int i),.val (pgD p)]) ?_⟩
    refine (one U i w acc x z4 hi h0 h1 ha _ _ ?_).2
    refine Q7 ((Zu (hp1:=w.set 0 (.ins "Shelf" (shF S.O2 1 S.top (x+1) S.wr))) ?_).trans (QC (Qf rfl)))
    exact QW (Ql (sd ..) rfl (by rw [hs];rfl))
  | @next n p s r U hs c ih =>
    intro i m w acc x z3 z4 hi hm' h0 h1 ha
    obtain ⟨m,rfl⟩:∃ k,m=k+1:=⟨m - 1,by lia⟩
    have hi':i+1+r.length<=S.pg.length:=by simp at hi;lia
    have il:i < (Jf 0 S.pg.length).length:=by rw [Vc];lia
    have ei:(Jf 0 S.pg.length)[i]?=some (.int (i:Int)):=(Ab il).trans (by rw [(kj (Ab il)).2])
    let w1:=w.set 0 (.ins "Shelf" (shF S.O2 1 S.top (x+1) S.wr))
    have k0:w1[0]?=some (.ins "Shelf" (shF S.O2 1 S.top (x+1) S.wr)):=QZ _ _ _ (by rw [h0];rfl)
    have k1:w1[1]?=some (.lst (S.pg.map pgD)):=(QL _ _ _ _ (by decide)).trans h1
    let e1:En:=[.val (.ref 0),.val (.lst (prD (acc++TR.prs p))),.val (.int s),.val (.int i),.val (pgD p)]
    obtain ⟨pl,st⟩:=one U i w acc x z4 (by lia) h0 h1 ha (Qs (sIf (eB (Qk isD (Qk ixG (Qd 4) (eC (.int 4))) (eC .non))) (QJ (Qd 1)) Zo) (QU 2 (Qk ixG (Qd 4) (eC (.int 4))))) ((.nx,e1),w1) (by
      refine (Qj ((QR (hp1:=w1) (QW (Ql (sd ..) rfl (by rw [hs];rfl)))).trans QS)).trans ?_
      exact Za ((sd ..).trans (by rw [hs];rfl)))
    obtain ⟨y1,y2,y3,y4,x',e⟩:=ih (i+1) m w1 (acc++TR.prs p) (x+1) (.val (.int i)) (.val (pgD p)) hi' (by simp at hm';lia) k0 k1 (by rw [An];lia)
    have lf:TR.qt S (n::r)=TR.prs p++TR.qt S r:=by unfold TR.qt;rw [List.flatMap_cons,pa U]
    refine ⟨y1,y2,y3,y4,x',?_⟩
    rw [lf,<- A8]
    refine (Qde ei (env1:=e1) (hp1:=w1) st).trans (e.trans ?_)
    show some _=some _
    rw [List.set_set]
theorem Qao {S:TR.Sh} (T:TR.Tree S bg) (hr:S.O2<=50) (hm:S.pg.length<=900) {r:List Nat} (c:TR.Chain S 0 r) (rl:r.length<=S.pg.length) {w:Hs} (h0:w[0]?=some (.ins "Shelf" (shF S.O2 1 S.top S.rd S.wr))) (h1:w[1]?=some (.lst (S.pg.map pgD))):∃ x,YX [.ref 0] w=some (.lst (prD (TR.qt S r)),w.set 0 (.ins "Shelf" (shF S.O2 1 S.top x S.wr))):=by
 obtain ⟨y1,y2,y3,y4,x,e⟩:=Qds T hr hm c 0 100000 w [] S.rd .un .un (by lia) (by lia) h0 h1 (by simp)
 rw [List.nil_append] at e
 refine ⟨x,Qy (env:=[.val (.ref 0),y1,y2,y3,y4]) ?_⟩
 refine (Qj (env1:=[.val (.ref 0),.val (.lst []),.un,.un,.un]) (hp1:=w) (Za rfl)).trans ((Qj (env1:=[.val (.ref 0),.val (.lst []),.val (.int 0),.un,.un]) (hp1:=w) (Za rfl)).trans (Q7 ?_))
 refine Vf (QcR (Qdj (m:=S.pg.length) (JL ((Q0 (a:=0) (Qf rfl) h0 (qT ..) Xh rfl (y8 h0 h1)).trans (by rw [Br]))) (by lia))) e
def Qfo (a b:Int):KD [.int a,.int b]=pure (.int (if b < a then b else a)):=rfl
theorem QgM (c:Int) (U:Hs):∃ k,Yy [.int c] U=some (.int k,U):=by
 have p5:=Xr c 10007 5 (by decide) (by decide) (by decide)
 have g:=zc c 10007 5 (by decide)
 have l:=yk c 10007 5 (by decide)
 generalize jB c 10007 5=q at p5 g l
 let e:En:=[.val (.int c),.val (.int q)]
 have s1:QU 1 (Qv 3 QP (Qc (Qd 0) (Qc (eC (.int 10007)) (Qc (eC (.int 5)) Qn)))) [.val (.int c),.un] U=some ((.nx,e),U):=Za (Zc (JM (Qf rfl) rfl rfl) rfl (Zp p5 _))
 have t:eB (Qk eqD (Qd 1) (eC (.int 0))) e U=some (q==0,U):=QW (Ql (Qf rfl) rfl (Zp (ZK _ _) _))
 by_cases h:q=0
 ·rw [h] at t
  have a:=Xz c 10000000000000000000000000000000000000000 (by decide)
  have b:=uj (c % 10000000000000000000000000000000000000000) 1000000000039 (by decide) (by decide)
  have d:=KF 2 1000000000000000000000000000000 (by decide) (by decide)
  have m:=Xz (c % 10000000000000000000000000000000000000000 * 1000000000039+11) 2000000000000000000000000000001 (by decide)
  exact ⟨_,Qy (env:=e) ((Qj s1).trans (Q7 ((Zu t).trans (QC (Ql (Ql (Ql (Ql (Ql (Qf rfl) (Ql rfl rfl (Zp QeK _)) (Zp a _)) rfl (Zp b _)) rfl rfl) (Ql (Ql rfl (Ql rfl rfl (Zp J7 _)) (Zp d _)) rfl rfl) (Zp m _)) (Ql rfl rfl (Zp J7 _)) rfl)))))⟩
 ·rw [show (q==0)=false by simpa using h] at t
  obtain ⟨v,hv,hpos⟩:∃ v:Int,atI [DV.int 10,.int 10,.int 41,.int 120,.int 120] q=some (.int v)/\0 < v:=by
   rcases (by lia:q=1∨q=2∨q=3∨q=4) with r | r | r | r<;>rw [r]
   ·exact ⟨10,rfl,by decide⟩
   ·exact ⟨41,rfl,by decide⟩
   ·exact ⟨120,rfl,by decide⟩
   ·exact ⟨120,rfl,by decide⟩
  refine ⟨_,Qy (env:=e) ((Qj s1).trans ((Qj ((QR t).trans QS)).trans (QC (Ql (Zc (JM (v'':=.int v) (Qf rfl) rfl (Ql (x:=.lst [.int 10,.int 10,.int 41,.int 120,.int 120]) rfl (Qf rfl) ?_)) rfl (Zp (Xr c 10009 v (by decide) (by decide) hpos) _)) rfl rfl))))⟩
  show qg (atI _ q) U=_
  rw [hv];rfl
theorem Qep (c:Int) (U:Hs):∃ k,qB [.int c] U=some (.int k,U):=by
 have p4:=Xr c 10037 4 (by decide) (by decide) (by decide)
 have t:eB (Qk eqD (Qv 3 QP (Qc (Qd 0) (Qc (eC (.int 10037)) (Qc (eC (.int 4)) Qn)))) (eC (.int 0))) [.val (.int c)] U=some (jB c 10037 4==0,U):=QW (Ql (Zc (JM (Qf rfl) rfl rfl) rfl (Zp p4 _)) rfl (Zp (ZK _ _) _))
 by_cases h:jB c 10037 4=0
 ·rw [h] at t
  have a:=Xz c 10000000000000000000000000000000000000000 (by decide)
  have b:=uj (c % 10000000000000000000000000000000000000000) 1000000000039 (by decide) (by decide)
  have d:=KF 2 1000000000000000000000000000000 (by decide) (by decide)
  have m:=Xz (c % 10000000000000000000000000000000000000000 * 1000000000039+5) 2000000000000000000000000000001 (by decide)
  exact ⟨_,Qy (env:=[.val (.int c)]) (Q7 ((Zu t).trans (QC (Ql (Ql (Ql (Ql (Ql (Qf rfl) (Ql rfl rfl (Zp QeK _)) (Zp a _)) rfl (Zp b _)) rfl rfl) (Ql (Ql rfl (Ql rfl rfl (Zp J7 _)) (Zp d _)) rfl rfl) (Zp m _)) (Ql rfl rfl (Zp J7 _)) rfl))))⟩
 ·rw [show (jB c 10037 4==0)=false by simpa using h] at t
  exact ⟨_,Qy (env:=[.val (.int c)]) ((Qj ((QR t).trans QS)).trans (QC (Ql (Zc (JM (Qf rfl) rfl rfl) rfl (Zp (Xr c 10039 9 (by decide) (by decide) (by decide)) _)) rfl rfl)))⟩
theorem Qe1 (c:Int) (U:Hs):∃ d,zD [.int c] U=some (Z8 d,U)/\TR.vC d:=by
 have p10:=Xr c 10061 10 (by decide) (by decide) (by decide)
 obtain ⟨k,ke⟩:=QgM c U
 obtain ⟨x,xe⟩:=Qep c U
 generalize jB c 10061 10=kd at p10
 let E:Sl->Sl->Sl->En:=fun z3 z4 z5=>[.val (.int c),.val (.int kd),.val (.int k),z3,z4,z5]
 have s1:QU 1 (Qv 3 QP (Qc (Qd 0) (Qc (eC (.int 10061)) (Qc (eC (.int 10)) Qn)))) [.val (.int c),.un,.un,.un,.un,.un] U=some ((.nx,[.val (.int c),.val (.int kd),.un,.un,.un,.un]),U):=Za (Zc (JM (Qf rfl) rfl rfl) rfl (Zp p10 _))
 have s2:QU 2 (Qv 1 Yy (Qc (Qd 0) Qn)) [.val (.int c),.val (.int kd),.un,.un,.un,.un] U=some ((.nx,E .un .un .un),U):=Za (Zc (JL (Qf rfl)) rfl ke)
 have t:∀ n:Int,eB (Qk ltD (Qd 1) (eC (.int n))) (E .un .un .un) U=some (decide (kd < n),U):=fun n=>QW (Ql (Qf rfl) rfl (Zp (ZM _ _) _))
 have go:∀ (g:DSx) (d:DV) (e:En),g (E .un .un .un) U=some ((.rt d,e),U)->Qs (QU 1 (Qv 3 QP (Qc (Qd 0) (Qc (eC (.int 10061)) (Qc (eC (.int 10)) Qn))))) (Qs (QU 2 (Qv 1 Yy (Qc (Qd 0) Qn))) g) [.val (.int c),.un,.un,.un,.un,.un] U=some ((.rt d,e),U):=fun g d e h=>(Qj s1).trans ((Qj s2).trans h)
 by_cases h1:kd < 5
 ·have t5:=t 5
  rw [Ec h1] at t5
  exact ⟨.put k x,Qy (go _ _ _ (Q7 ((Zu t5).trans (QC (Jt (JM rfl (Qf rfl) (Zc (JL (Qf rfl)) rfl xe)) (by simp)))))),trivial⟩
 have t5:=t 5
 rw [Ee h1] at t5
 by_cases h2:kd < 7
 ·have t7:=t 7
  rw [Ec h2] at t7
  exact ⟨.cut k,Qy (go _ _ _ ((Qj ((QR t5).trans QS)).trans (Q7 ((Zu t7).trans (QC (Jt (ZF rfl (Qf rfl)) (by simp))))))),trivial⟩
 have t7:=t 7
 rw [Ee h2] at t7
 by_cases h3:kd < 9
 ·have t9:=t 9
  rw [Ec h3] at t9
  exact ⟨.find k,Qy (go _ _ _ ((Qj ((QR t5).trans QS)).trans ((Qj ((QR t7).trans QS)).trans (Q7 ((Zu t9).trans (QC (Jt (ZF rfl (Qf rfl)) (by simp)))))))),trivial⟩
 have t9:=t 9
 rw [Ee h3] at t9
 have p50:=Xr c 10067 50 (by decide) (by decide) (by decide)
 have p150:=Xr c 10151 150 (by decide) (by decide) (by decide)
 have p4:=Xr c 10069 4 (by decide) (by decide) (by decide)
 have g4:=zc c 10069 4 (by decide)
 have l4:=yk c 10069 4 (by decide)
 have g50:=zc c 10067 50 (by decide)
 have g150:=zc c 10151 150 (by decide)
 generalize jB c 10069 4=w4 at p4 g4 l4
 generalize jB c 10067 50=x5 at p50 g50
 generalize jB c 10151 150=x15 at p150 g150
 obtain ⟨lo,el,lo1⟩:∃ lo:Int,KD [.int k,.int (1000000000000000000000000000000 - 1)]=pure (.int lo)/\lo<=999999999999999999999999999999:=⟨_,Qfo _ _,by split<;>lia⟩
 obtain ⟨ne,en,ne1⟩:∃ ne:Int,KD [.int 1000000000000000000000000000000,.int (lo+1+x5)]=pure (.int ne)/\lo < ne:=⟨_,Qfo _ _,by split<;>lia⟩
 obtain ⟨fa,ef,fa1⟩:∃ fa:Int,KD [.int 1000000000000000000000000000000,.int (lo+51+x15)]=pure (.int fa)/\lo < fa:=⟨_,Qfo _ _,by split<;>lia⟩
 obtain ⟨v,hv,lv⟩:∃ v:Int,atI [DV.int (lo+1),.int ne,.int fa,.int 1000000000000000000000000000000] w4=some (.int v)/\lo < v:=by
  rcases (by lia:w4=0∨w4=1∨w4=2∨w4=3) with q | q | q | q<;>rw [q]
  ·exact ⟨_,rfl,by lia⟩
  ·exact ⟨_,rfl,ne1⟩
  ·exact ⟨_,rfl,fa1⟩
  ·exact ⟨_,rfl,by lia⟩
 have pw:∀ e:En,Qk qQ (eC (.int 10)) (eC (.int 30)) e U=some (.int 1000000000000000000000000000000,U):=fun e=>Ql rfl rfl (Zp J7 _)
 have pk:∀ (e:En) (p m r:Int),e[0]?=some (.val (.int c))->QP [.int c,.int p,.int m]=pure (.int r)->Qv 3 QP (Qc (Qd 0) (Qc (eC (.int p)) (Qc (eC (.int m)) Qn))) e U=some (.int r,U):=fun e p m r h h'=>Zc (JM (Qf h) rfl rfl) rfl (Zp h' _)
 refine ⟨.stretch lo v,Qy (go _ _ (E (.val (.int lo)) (.val (.int ne)) (.val (.int fa))) ((Qj ((QR t5).trans QS)).trans ((Qj ((QR t7).trans QS)).trans ((Qj ((QR t9).trans QS)).trans ?_)))),lv⟩
 refine (Qj (env1:=E (.val (.int lo)) .un .un) (hp1:=U) (Za (Y5 (ZF (Qf rfl) (Ql (pw _) rfl rfl)) (Zp el _)))).trans ?_
 refine (Qj (env1:=E (.val (.int lo)) (.val (.int ne)) .un) (hp1:=U) (Za (Y5 (ZF (pw _) (Ql (Ql (Qf rfl) rfl rfl) (pk _ _ _ _ rfl p50) rfl)) (Zp en _)))).trans ?_
 refine (Qj (env1:=E (.val (.int lo)) (.val (.int ne)) (.val (.int fa))) (hp1:=U) (Za (Y5 (ZF (pw _) (Ql (Ql (Qf rfl) rfl rfl) (pk _ _ _ _ rfl p150) rfl)) (Zp ef _)))).trans (QC ?_)
 have ls:YG (Qc (Qk Jd (Qd 3) (eC (.int 1))) (Qc (Qd 4) (Qc (Qd 5) (Qc (Qk qQ (eC (.int 10)) (eC (.int 30))) Qn)))) (E (.val (.int lo)) (.val (.int ne)) (.val (.int fa))) U=some (.lst [.int (lo+1),.int ne,.int fa,.int 1000000000000000000000000000000],U):=by
  unfold YG
  rw [Qg (uY (Ql (Qf rfl) rfl rfl) (Qf rfl) (Qf rfl) (pw _))];rfl
 refine Jt (JM rfl (Qf rfl) (Ql ls (pk _ _ _ _ rfl p4) ?_)) (by simp)
 show qg (atI _ w4) U=_
 rw [hv];rfl
theorem Qc2 (ns:List Int) (k:Nat) (hl:ns.length<=63):∃ x,Zh [.lst (ns.map .int),.int k]=pure (.int x):=by
 by_cases h:k < ns.length
 ·have a:=zX (xs:=ns.map DV.int) (j:=k) (v:=.int ns[k]) (by simp [h])
  refine ⟨ns[k],?_⟩
  have h':(k:Int) < (ns.length:Int):=by lia
  simp [Zh,Yo,Q2,Qs,QU,QJ,Yg,sIf,Zo,jI,zJ,jG,jH,Qk,Qd,eC,eB,asB,Xx,eOr,Xf,JX,ji,XN,eIf,jh,Qn,Qc,Zt,YG,Qv,ZW,Qx,gN,ZI,Z0,Z1,ZM,Z5,Ja,Z6,J7,Yd,jC,ZK,Jx,qd,ixD,asI,a,h']
 ·have h':¬ (k:Int) < (ns.length:Int):=by lia
  exact ⟨0,by simp [Zh,Yo,Q2,Qs,QU,QJ,Yg,sIf,Zo,jI,zJ,jG,jH,Qk,Qd,eC,eB,asB,Xx,eOr,Xf,JX,ji,XN,eIf,jh,Qn,Qc,Zt,YG,Qv,ZW,Qx,gN,ZI,Z0,Z1,ZM,Z5,Ja,Z6,J7,Yd,jC,ZK,Jx,qd,h']⟩
theorem vF {o e:DEx} {U hp1:Hs} {a:Nat} {ds:List DV} (ho:o env U=some (.ref a,hp1)) (h:hp1[a]?=some (.lst ds)) (he:e env hp1=some (d,hp1)) (hl:ds.length < 100000):Jz "list" ZN o (Qc e Qn) env U=some (.non,hp1.set a (.lst (ds++[d]))):=by
 have q:=V9 (o:=eC (.ref a)) (e:=e) (env:=env) (U:=hp1) (a:=a) rfl h he hl
 unfold Jz at q ⊢
 rw [Qg ho]
 rw [Qg (rfl:eC (.ref a) env hp1=some (.ref a,hp1))] at q
 exact q
def Ext (w w':Hs):Prop:=w.length<=w'.length/\∀ i,i < w.length->w'[i]?=w[i]?
def Ext.refl (w:Hs):Ext w w:=⟨Ae _,fun _ _=>rfl⟩
theorem Ext.app (w t:Hs):Ext w (w++t):=⟨by simp,fun i hi=>Ah hi⟩
def Ext.trans {w w' w2:Hs} (a:Ext w w') (b:Ext w' w2):Ext w w2:=⟨Bj a.1 b.1,fun i hi=>(b.2 i (Ay hi a.1)).trans (a.2 i hi)⟩
def Ext.at {w w':Hs} (a:Ext w w') {i:Nat} (h:w[i]?=some o):w'[i]?=some o:=(a.2 i (Ac.mp h).1).trans h
theorem Qf5 {F F':Er} {r:TR.Row} (d:TR.Did F F' v v' r):isD (QaE r) .non=pure (.bl false):=by
 cases r with
 | non=>exact d.elim
 | read n ps t=>cases t<;>rfl
 | _=>rfl
theorem uQ {a:Nat} {dv du:DV} (D:Dif 0 1 a (a+1) (a+2)) {m:Nat} {S:TR.Sh} {v:TR.Wk} {v':TR.Wk} (st:TR.Steps m S v S' v') (he:v'.O7=true):∀ {bg:TR.Bg} {F:Er} {w:Hs} (i c n:Nat),TR.Al S bg F v->S.O2<=50->At w 0 1 a (a+1) (a+2) S v->S.pg.length<=1000+i->v.O3.length<=i->v.O5.length<=50 * i->i+m < 1000->m<=c->m < n ->
    ∃ w' z',XJ (Xx (eB (Qk isD (QE "Walk" "over" 1 JA (Qd 4) Qn) (eC (.bl false)))) (eB (Qk gtD (Qd 5) (eC (.int 0))))) qN n [.val (.ref 0),.val dv,.val du,.val (.ref 3),.val (.ref a),.val (.int c)] w=some ((.nx,[.val (.ref 0),.val dv,.val du,.val (.ref 3),.val (.ref a),z']),w')/\At w' 0 1 a (a+1) (a+2) S' v'/\Fr w w' 0 1 a (a+1) (a+2)/\v'.O5.length<=50 * (i+m):=by
  induction st with
  | nil S v =>
    intro bg F w i c n A hr A0 h1 h2 h3 h4 h5 h6
    obtain ⟨n,rfl⟩:∃ k,n=k+1:=⟨n - 1,by lia⟩
    have ov:=yi A0.h3
    rw [he] at ov
    exact ⟨w,_,Qem (Km (QW (Ql (Q0 (Qf rfl) A0.h3 (yp ..) Xh rfl ov) rfl rfl))),A0,Fr.refl,by lia⟩
  | @cons m S S1 S' v v1 v' r hw hs rest ih =>
    intro bg F w i c n A hr A0 h1 h2 h3 h4 h5 h6
    obtain ⟨n,rfl⟩:∃ k,n=k+1:=⟨n - 1,by lia⟩
    obtain ⟨c,rfl⟩:∃ k,c=k+1:=⟨c - 1,by lia⟩
    have ov:=yi A0.h3
    rw [hw] at ov
    obtain ⟨r',S2,v2,bg2,F2,es,A2,g2,did,_,rm2⟩:=A.step hw
    rw [hs] at es
    cases es
    obtain ⟨w2,e2,At2,Fr2⟩:=Qei A.tree (A.wok hw) hr A0 D (by lia) (by lia) (by lia) hs
    have sz:=TR.uL (m:=50) (fun m p hm=>by have:=(A.tree.page m p hm).few;lia) hs
    obtain ⟨_,_,_,bgx,esx,stx⟩:=TR.kz A.tree (A.wok hw) hw (A.unt hw)
    rw [hs] at esx
    cases esx
    have ln:=stx.len
    obtain ⟨w3,z3,e3,At3,Fr3,p3⟩:=ih he (i+1) c n A2 (by lia) At2 (by lia) (by lia) (by lia) (by lia) (by lia) (by lia)
    refine ⟨w3,z3,(Qen (hp1:=w) (env1:=[.val (.ref 0),.val dv,.val du,.val (.ref 3),.val (.ref a),.val (.int c)]) (hp2:=w2) ?_ ?_).trans e3,At3,Fr2.trans Fr3,by lia⟩
    . refine (vW (hp1:=w) (QW (Ql (Q0 (Qf rfl) A0.h3 (yp ..) Xh rfl ov) rfl rfl))).trans (QW (Ql (x:=.int ((c+1:Nat):Int)) (y:=.int 0) (Qf rfl) rfl ?_))
      rw [Z1,Ec (by lia)];rfl
    . refine (Qj ((QR (hp1:=w2) ?_).trans QS)).trans ?_
      . refine (jk (hp1:=w) (QW (Ql (x:=.non) (y:=.non) (Q0 (Qf rfl) A0.h3 (yq ..) Xh rfl (QeQ A0.h3 hw)) rfl rfl))).trans ?_
        exact QW (Ql (Q0 (Qf rfl) A0.h3 (K2 ..) Xh rfl e2) rfl (by rw [Qf5 did];rfl))
      . have q:QU 5 (Qk V7 (Qd 5) (eC (.int 1))) [.val (.ref 0),.val dv,.val du,.val (.ref 3),.val (.ref a),.val (.int ((c+1:Nat):Int))] w2=some ((.nx,[.val (.ref 0),.val dv,.val du,.val (.ref 3),.val (.ref a),.val (.int (((c+1:Nat):Int) - 1))]),w2):=Za (Ql (Qf rfl) rfl (by rw [Z0];rfl))
        rw [show (((c+1:Nat):Int) - 1)=(c:Int) by lia] at q
        exact q
structure Wd (w:Hs) (a:Nat) (v:TR.Wk):Prop where
 a4:4<=a
 h3:w[a]?=some (wkO 0 (a+1) (a+2) v)
 h5:w[a+2]?=some (.lst (prD v.O5))
 en:v.O7=true
 pl:v.O5.length<=50000
structure Inv (w:Hs) (S:TR.Sh) (bg:TR.Bg) (F:Er) (kvs:List (Key×DV)) (z:Zs) (es:List DV) (N:Nat):Prop where
 T:TR.Tree S bg
 D:∀ s,s < S.pg.length->s≠S.top->TR.Kd S s
 K:TR.Fk S
 tab:TR.TabIs S F
 Z:TR.Zero S bg
 rm:S.O2<=50
 cnt:TR.JZ S 0<=N+1
 h0:w[0]?=some (.ins "Shelf" (shF S.O2 1 S.top S.rd S.wr))
 h1:w[1]?=some (.lst (S.pg.map pgD))
 h2:w[2]?=some (.dic kvs)
 h3:w[3]?=some (.lst es)
 tb:Tb kvs z F
 zl:kvs.length<=N
 el:es.length<=N
 en:∀ e∈es,∃ a v,e=.tup [.ref a,zF v]/\Wd w a v
section
variable {w:Hs} {S:TR.Sh} {bg:TR.Bg} {F:Er} {kvs:List (Key×DV)} {z:Zs} {es:List DV} {N:Nat}
theorem Inv.pages (I:Inv w S bg F kvs z es N):S.pg.length<=2 * (N+1):=by
 have:=TR.QbW I.T I.K
 have:=I.cnt
 lia
theorem Qdm (o:Option Int) {env:En} {w:Hs} (h:env[2]?=some (.val (opt o))):YF "list" (Qd 2) env w=some (.bl false,w):=by
 unfold YF;rw [Qg (Qf h)];cases o<;>rfl
theorem QaS (I:Inv w S bg F kvs z es N) (hN:N < 200) (d:TR.Deed) (hd:TR.vC d):∃ w1 du w' S' bg' F' kvs' z' es',qW [Z8 d,.ref 2] w=some (du,w1)/\YY [.ref 0,Z8 d,du,.ref 3] w1=some (.bl true,w')/\Inv w' S' bg' F' kvs' z' es' (N+1):=by
 have pg:=I.pages
 have zl:=I.zl
 have el:=I.el
 obtain ⟨m,S',bg',F',v',g,st,ml,A',he,an,vd,rm⟩:=TR.Qgr I.T I.D I.K I.tab d hd
 obtain ⟨kvs',z',ed,t',kl⟩:=Qe2 I.tb I.h2 (by lia) an vd
 let w1:=w.set 2 (.dic kvs')
 have l1:w1.length=w.length:=by simp [w1]
 have ln:3 < w.length:=(Ac.mp I.h3).1
 have g0:w1[0]?=some (.ins "Shelf" (shF S.O2 1 S.top S.rd S.wr)):=(QL _ _ _ _ (by decide)).trans I.h0
 have g1:w1[1]?=some (.lst (S.pg.map pgD)):=(QL _ _ _ _ (by decide)).trans I.h1
 have g2:w1[2]?=some (.dic kvs'):=QZ _ _ _ (by rw [I.h2];rfl)
 have g3:w1[3]?=some (.lst es):=(QL _ _ _ _ (by decide)).trans I.h3
 let a:=w1.length
 let du:=zF v'
 let w2:=w1++[wkO 0 (a+1) (a+2) (TR.fresh d),.dic [],.lst []]
 have D:Dif 0 1 a (a+1) (a+2):=⟨by decide,by lia,by lia,by lia,by lia,by lia,by lia,by lia,by lia,by lia⟩
 have o2:Ext w1 w2:=Ext.app ..
 let es':=es++[.tup [.ref a,du]]
 let w3:=w2.set 3 (.lst es')
 have n2:∀ j,w2[a+j]?=[wkO 0 (a+1) (a+2) (TR.fresh d),.dic [],.lst []][j]?:=fun j=>by
  show (w1++_)[w1.length+j]?=_
  rw [Aq (by lia),Nat.add_sub_cancel_left]
 have k3:∀ i,i≠3->w3[i]?=w2[i]?:=fun i hi=>QL _ _ _ _ (Ne.symm hi)
 have A0:At w3 0 1 a (a+1) (a+2) S (TR.fresh d):=⟨(k3 _ (by decide)).trans (o2.at g0),(k3 _ (by decide)).trans (o2.at g1),(k3 _ (by lia)).trans (n2 0),(k3 _ (by lia)).trans (n2 1),(k3 _ (by lia)).trans (n2 2)⟩
 have AF:TR.Al S bg F (TR.fresh d):=by
  refine ⟨I.T,I.K,I.tab,fun n h1 h2=>.inl (I.D n h1 h2),fun _=>?_,fun _=>TR.WOk.fresh rfl rfl rfl,fun _ h=>absurd h (by show ¬ 0 < 0;lia)⟩
  cases d with
  | find k=>rfl
  | put k x=>rfl
  | cut k=>rfl
  | stretch l h=>exact ⟨hd,.inl rfl⟩
 obtain ⟨w4,z5,eW,A4,F4,p4⟩:=uQ (dv:=Z8 d) (du:=du) D st he 0 (S.pg.length+8) 100000 AF I.rm A0 (by lia) (by simp [TR.fresh]) (by simp [TR.fresh]) (by lia) ml (by lia)
 have l2:w2.length=w1.length+3:=by simp [w2]
 have l3:w3.length=w2.length:=by simp [w3]
 have l4:=F4.1
 have lv:=st.leaves AF
 have v1:TR.lvs S (TR.fresh d)=TR.JZ S 0+1:=by unfold TR.lvs;rw [C8 ⟨rfl,rfl⟩]
 have v2:TR.lvs S' v'=TR.JZ S' 0:=by unfold TR.lvs;rw [C7 (fun q=>by rw [he] at q;cases q.2)];rfl
 have pl:v'.O5.length < 100000:=by lia
 let E:Sl->En:=fun z=>[.val (.ref 0),.val (Z8 d),.val du,.val (.ref 3),.val (.ref a),z]
 have fin:∀ w',Ext w4 w'->Inv w' S' bg' F' kvs' z' es' (N+1):=fun w' x=>by
  have old:∀ i,i < w.length->i≠0->i≠1->i≠3->w'[i]?=w1[i]?:=fun i hi a1 a2 a3=>(x.2 i (by lia)).trans ((F4.2 i (by lia) a1 a2 (by lia) (by lia) (by lia)).trans ((k3 i a3).trans (o2.2 i (by lia))))
  have t3:w3[3]?=some (.lst es'):=QZ _ _ _ (by rw [o2.at g3];rfl)
  have wd:Wd w' a v':=⟨by lia,x.at A4.h3,x.at A4.h5,he,by lia⟩
  refine ⟨A'.tree,A'.all_told (.inr he),A'.fk,A'.tab,I.Z.grow g,by have:=I.rm;lia,by have:=I.cnt;lia,x.at A4.h1,x.at A4.h2,(old 2 (by lia) (by decide) (by decide) (by decide)).trans g2,(x.2 3 (by lia)).trans ((F4.2 3 (by lia) (by decide) (by decide) (by lia) (by lia) (by lia)).trans t3),t',by lia,by simp [es'];lia,fun e hm=>?_⟩
  rcases Ai.mp hm with hm | hm
  ·obtain ⟨b,v,rfl,W⟩:=I.en e hm
   have b4:=W.a4
   have bl:b+2 < w.length:=(Ac.mp W.h5).1
   have kk:∀ i,i < w.length->4<=i->w'[i]?=w[i]?:=fun i hi h4=>(old i hi (by lia) (by lia) (by lia)).trans (QL _ _ _ _ (by lia))
   exact ⟨b,v,rfl,b4,(kk b (by lia) b4).trans W.h3,(kk (b+2) bl (by lia)).trans W.h5,W.en,W.pl⟩
  ·rw [Ar.mp hm]
   exact ⟨a,v',rfl,wd⟩
 have ov:∀ (z:Sl) (w':Hs),Ext w4 w'->QE "Walk" "over" 1 JA (Qd 4) Qn (E z) w'=some (.bl true,w'):=fun z w' x=>by
  have o:=yi (x.at A4.h3)
  rw [he] at o
  exact Q0 (a:=a) (Qf rfl) (x.at A4.h3) (yp ..) Xh rfl o
 have sm:∀ (z:Sl) (w':Hs),Ext w4 w'->∃ t,Qv 2 (QX 6) (Qc (QE "Walk" "answer" 1 Q9 (Qd 4) Qn) (Qc (Qd 2) Qn)) (E z) w'=some (.bl true,w'++t):=fun z w' x=>by
  obtain ⟨y,t,q1,q2⟩:=K9 (x.at A4.h3) (x.at A4.h5) he pl
  exact ⟨t,Zc (ZF (Q0 (a:=a) (Qf rfl) (x.at A4.h3) (yq ..) Xh rfl q1) (Qf rfl)) rfl q2⟩
 obtain ⟨t5,s5⟩:=sm z5 w4 (Ext.refl _)
 let w5:=w4++t5
 have x5:Ext w4 w5:=Ext.app ..
 have ap:∃ w6,Ext w4 w6/\sIf (eB (YF "list" (Qd 2))) (Ji (Jz "list" ZN (QE "Walk" "answer" 1 Q9 (Qd 4) Qn) (Qc (Zt (Qc (eC (.int 0)) (Qc (eC (.int 0)) Qn))) Qn))) Zo (E z5) w5=some ((.nx,E z5),w6):=by
  by_cases q:∃ l h,v'.O0=.stretch l h
  ·obtain ⟨l,h,q⟩:=q
   have dl:Ls w5 du (prD v'.O5):=.inl (by show zF v'=_;unfold zF;rw [q])
   let w6:=w5++[.lst (prD v'.O5)]
   refine ⟨w6.set w5.length (.lst (prD v'.O5++[.tup [.int 0,.int 0]])),⟨by have:=x5.1;simp [w6];lia,fun i hi=>(QL _ _ _ _ (by have:=x5.1;lia)).trans ((Ah (by have:=x5.1;lia)).trans (x5.2 i hi))⟩,?_⟩
   refine (Zu (hp1:=w5) (QW (dl.isi (Qf rfl)))).trans (X6 (vF (hp1:=w6) (Q0 (a:=a) (Qf rfl) (x5.at A4.h3) (yq ..) Xh rfl (uZ (x5.at A4.h3) (x5.at A4.h5) he q)) (by simp [w6]) (Jt (ZF rfl rfl) (by simp)) (by rw [qh];exact pl)))
  ·obtain ⟨_,e2⟩:=V8 A4.h3 he fun l h e=>q ⟨l,h,e⟩
   refine ⟨w5,x5,(QR (hp1:=w5) (QW (Qdm v'.O1 ?_))).trans QS⟩
   show some (Sl.val (zF v'))=_
   rw [e2]
 obtain ⟨w6,x6,ea⟩:=ap
 obtain ⟨t7,s7⟩:=sm z5 w6 x6
 refine ⟨w1,du,w6++t7,S',bg',F',kvs',z',es',ed,?_,fin _ (x6.trans (Ext.app ..))⟩
 refine Qy (env:=E z5) ?_
 let E0:Sl->Sl->En:=fun x y=>[.val (.ref 0),.val (Z8 d),.val du,.val (.ref 3),x,y]
 refine (Qj (env1:=E0 (.val (.ref a)) .un) (hp1:=w2) (Za (QcN (ZF (Qf rfl) (Qf rfl))))).trans ?_
 refine (Qj (env1:=E0 (.val (.ref a)) .un) (hp1:=w3) (X6 (V9 (a:=3) (Qf rfl) (o2.at g3) (Jt (ZF (Qf rfl) (Qf rfl)) (by simp)) (by lia)))).trans ?_
 refine (Qj (env1:=E (.val (.int ((S.pg.length+8:Nat):Int)))) (hp1:=w3) ?_).trans ?_
 ·have q:=y8 A0.h1 A0.h2
  rw [Br] at q
  exact Za (Ql (x:=.int (S.pg.length:Int)) (y:=.int 8) (Q0 (a:=0) (Qf rfl) A0.h1 (qT ..) Xh rfl q) rfl rfl)
 refine (Qj (env1:=E z5) (hp1:=w4) eW).trans ?_
 refine (Qj (env1:=E z5) (hp1:=w5) ((QR (hp1:=w5) ?_).trans QS)).trans ?_
 ·refine (jk (hp1:=w4) (QW (Ql (ov z5 w4 (Ext.refl _)) rfl rfl))).trans ((jk (hp1:=w5) (JP (b:=true) (QW s5))).trans ?_)
  exact QW (Ql (x:=.non) (y:=.non) (Q0 (a:=a) (Qf rfl) (x5.at A4.h3) (K2 ..) Xh rfl (UX (x5.at A4.h3) he)) rfl rfl)
 exact (Qj ea).trans (QC s7)
theorem Qc1 (I:Inv w S bg F kvs z es N) (hN:N < 200) (X:DV) (c:Int) (y5:Sl):∃ d w' S' bg' F' kvs' z' es',Kx [.val X,.val (.ref 0),.val (.ref 2),.val (.ref 3),.val (.int c),y5] w=some ((.nx,[.val X,.val (.ref 0),.val (.ref 2),.val (.ref 3),.val (.int c),d]),w')/\Inv w' S' bg' F' kvs' z' es' (N+1):=by
 obtain ⟨d,ed,dok⟩:=Qe1 c w
 obtain ⟨w1,du,w2,S',bg',F',kvs',z',es',e1,e2,J⟩:=QaS I hN d dok
 have pg:=J.pages
 have zl:=J.zl
 obtain ⟨r,c1,_,rl,_,so,mem⟩:=TR.QbJ J.T J.tab J.Z
 obtain ⟨x,e3⟩:=Qao J.T J.rm (by lia) c1 rl J.h0 J.h1
 let w3:=w2.set 0 (.ins "Shelf" (shF S'.O2 1 S'.top x S'.wr))
 have zz:TR.qt S' r=z':=TR.qi so J.tb.rise fun p=>by
  have:=mem p.1 p.2
  rw [show (p.1,p.2)=p from rfl] at this
  rw [this,J.tb.fn]
 rw [zz] at e3
 have k3:∀ i,i≠0->w3[i]?=w2[i]?:=fun i hi=>QL _ _ _ _ (Ne.symm hi)
 have h2:w3[2]?=some (.dic kvs'):=(k3 2 (by decide)).trans J.h2
 have zl':z'.length < 100000:=by have:=J.tb.d.len;lia
 let e:En:=[.val X,.val (.ref 0),.val (.ref 2),.val (.ref 3),.val (.int c),.val (Z8 d)]
 have cp:U4 e w3=some (.lst (prD z'),w3):=by
  unfold U4 J3
  have x:xLs (ZW UW (Qc (Qd 2) Qn)) e w3=some (nxD ((zK z').map .int),w3):=VN (ku J.tb.d J.tb.rise (n:=2) (Qf rfl) h2)
  rw [Qg x]
  have q:=Gj (t:=fun c=>Qga (cE [2] e c)) (f:=fun c=>Zt (Qc (Qd 0) (Qc (Qk ixG (Qd 1) (Qd 0)) Qn)) (cE [2] e c)) (U:=w3) z' (fun _=>true) (fun q hq=>rfl) (fun q hq=>Jt (ZF (Qf rfl) (Ql (Qf rfl) (Qf rfl) (gH h2 (J.tb.d.val J.tb.rise hq)))) (by simp)) zl'
  rw [Cs.mpr fun _ _=>rfl] at q
  exact (Qg q).trans rfl
 refine ⟨.val (Z8 d),w3,{ S' with rd:=x },bg',F',kvs',z',es',?_,?_⟩
 ·refine (Qj (env1:=e) (hp1:=w) (Za (Zc (JL (Qf rfl)) rfl ed))).trans ?_
  refine (Qj (env1:=e) (hp1:=w2) ((QR (hp1:=w2) (JP (b:=true) (QW (Zc (uY (Qf rfl) (Qf rfl) (Zc (ZF (Qf rfl) (Qf rfl)) rfl e1) (Qf rfl)) rfl e2)))).trans QS)).trans ?_
  exact (QR (hp1:=w3) (JP (b:=true) (QW (Zc (ZF (Zc (JL (Qf rfl)) rfl e3) cp) rfl (UN 3 (.inl rfl) zl'))))).trans QS
 ·exact ⟨J.T.rd _ _,J.D,J.K,J.tab,J.Z,J.rm,J.cnt,QZ _ _ _ (by rw [J.h0];rfl),(k3 1 (by decide)).trans J.h1,h2,(k3 3 (by decide)).trans J.h3,J.tb,J.zl,J.el,fun e he=>by
   obtain ⟨a,v,q,W⟩:=J.en e he
   have:=W.a4
   exact ⟨a,v,q,W.a4,(k3 a (by lia)).trans W.h3,(k3 (a+2) (by lia)).trans W.h5,W.en,W.pl⟩⟩
theorem QcF (I:Inv w S bg F kvs z es N) (hN:N < 200):∃ w',qA [.ref 0,.ref 3] w=some (.bl true,w'):=by
 have el:=I.el
 let c:DV:=.tup [.int S.rd,.int S.wr]
 let E:Sl->Sl->En:=fun x y=>[.val (.ref 0),.val (.ref 3),.val c,x,y]
 have ct:∀ (env:En) (w':Hs),env[0]?=some (.val (.ref 0))->Ext w w'->Zt (Qc (QE "Shelf" "readings" 1 ZT (Qd 0) Qn) (Qc (QE "Shelf" "writings" 1 ZV (Qd 0) Qn) Qn)) env w'=some (c,w'):=fun env w' h x=>Jt (ZF (Q0 (a:=0) (Qf h) (x.at I.h0) (Qcu ..) Xh rfl (G4 (x.at I.h0))) (Q0 (a:=0) (Qf h) (x.at I.h0) (Qcw ..) Xh rfl (vz (x.at I.h0)))) (by simp)
 have M:WP (YH (nxW 3) (fun d env=>do let env' <- gT [3,4] d env;Yu env') 100000 0 (E .un .un)) w fun q w'=>Ext w w'/\∃ x y,q=(.nx,E x y):=by
  refine U8 es (fun i env w'=>Ext w w'/\∃ x y,env=E x y) (by lia) (fun i env U hi h=>Qfr (h.1.at I.h3) i) ⟨Ext.refl _,_,_,rfl⟩ (fun i d hd env w' h=>?_) (fun env w' h=>by obtain ⟨e,x,y,e'⟩:=h;exact ⟨e,x,y,by rw [e']⟩)
  obtain ⟨xt,x,y,rfl⟩:=h
  obtain ⟨a,v,rfl,W⟩:=I.en d (Aw hd)
  have h3:=xt.at W.h3
  have h5:=xt.at W.h5
  have pl:=W.pl
  obtain ⟨u,t,q1,q2⟩:=K9 h3 h5 W.en (by lia)
  let e:En:=E (.val (.ref a)) (.val (zF v))
  let w2:=w'++t
  have x2:Ext w' w2:=Ext.app ..
  refine ⟨(.nx,e),w2,?_,xt.trans x2,_,_,rfl⟩
  show Yu e w'=_
  refine (QR (hp1:=w2) ?_).trans QS
  refine (jk (hp1:=w2) (JP (b:=true) (QW (Zc (ZF (Q0 (a:=a) (Qf rfl) h3 (yq ..) Xh rfl q1) (Qf rfl)) rfl q2)))).trans ?_
  have o:=yi (x2.at h3)
  rw [W.en] at o
  refine (jk (hp1:=w2) (QW (Ql (Q0 (a:=a) (Qf rfl) (x2.at h3) (yp ..) Xh rfl o) rfl rfl))).trans ?_
  exact QW (Ql (x:=.non) (y:=.non) (Q0 (a:=a) (Qf rfl) (x2.at h3) (K2 ..) Xh rfl (UX (x2.at h3) W.en)) rfl rfl)
 obtain ⟨q,w',eM,xt,x,y,rfl⟩:=M
 refine ⟨w',Qy (env:=E x y) ?_⟩
 refine (Qj (env1:=E .un .un) (hp1:=w) (Za (ct _ w rfl (Ext.refl _)))).trans ?_
 have L:Ym (E .un .un) w=some ((.nx,E x y),w'):=by
  unfold Ym jJ
  have q:xLs (Qd 1) (E .un .un) w=some (nxW 3,w):=by
   unfold xLs
   rw [Qg (Qf (d:=.ref 3) rfl)]
   show (ZE 3 >>= _) w=_
   rw [Qg (Zw I.h3)];rfl
  rw [Qg q];exact eM
 refine (Qj L).trans (QC (Ql (ct _ w' rfl xt) (Qf rfl) (Qbp (x:=c) (n:=1) (QfS (ds:=[.int S.rd,.int S.wr]) fun d hd=>?_) (by decide) w')))
 simp only [Bk,Cf,or_false] at hd
 rcases hd with rfl | rfl<;>exact QfR _ _
end
theorem QhD (r:Nat) (h:2<=r) (h':r<=50):Inv [.ins "Shelf" (shF r 1 0 0 0),.lst [emp],.dic [],.lst []] ⟨r,[⟨0,[],[],none,none⟩],0,0,0⟩ (fun _=>none) (fun _=>none) [] [] [] 0:=by
 have one:∀ (n:Nat) (p:TR.Pg),([⟨0,[],[],none,none⟩]:List TR.Pg)[n]?=some p->n=0/\p=⟨0,[],[],none,none⟩:=fun n p U=>by
  match n,U with
  | 0,U=>cases U;exact ⟨rfl,rfl⟩
  | n+1,U=>simp at U
 refine ⟨QcJ r h,fun s h1 h2=>?_,fun n p U h0=>?_,fun k v=>⟨fun q=>(by cases q),fun ⟨n,p,U,_,m⟩=>?_⟩,⟨rfl,_,rfl,rfl⟩,h',?_,rfl,rfl,rfl,rfl,⟨List.Perm.refl _,List.Pairwise.nil,fun k v=>⟨fun q=>(by cases q),fun q=>(by cases q)⟩⟩,Ae _,Ae _,fun e he=>by cases he⟩
 ·have h1:s < 1:=h1
  have h2:s≠0:=h2
  lia
 ·rw [(one n p U).2] at h0;exact absurd h0 (by decide)
 ·rw [(one n p U).2] at m;cases m
 ·exact Bj (Cb _ _) (by simp)
theorem QbH (ns:List Int) (h:ns.length<=63):∃ U,K7 [.lst (ns.map .int)] []=some (.bl true,U):=by
 let X:DV:=.lst (ns.map .int)
 obtain ⟨c,c0⟩:=Qc2 ns 0 h
 have c0':=Zp c0
 simp only [Int.natCast_zero] at c0'
 have p7:=Zp (Xr c 10079 7 (by decide) (by decide) (by decide))
 have p2:=Zp (Xr c 10091 2 (by decide) (by decide) (by decide))
 have a1:=zc c 10079 7 (by decide)
 have a2:=yk c 10079 7 (by decide)
 have b1:=zc c 10091 2 (by decide)
 have b2:=yk c 10091 2 (by decide)
 generalize jB c 10079 7=x at p7 a1 a2
 generalize jB c 10091 2=y at p2 b1 b2
 have xy0:0<=x * y:=Int.mul_nonneg a1 b1
 have xy1:x * y<=6 * 1:=Int.mul_le_mul (by lia) (by lia) b1 (by decide)
 obtain ⟨r,hr⟩:=Qfp (show 0<=2+x * y by lia)
 have mm:=Zp (KF x y (by lia) (by lia))
 let E:Sl->Sl->Sl->Sl->Sl->En:=fun z1 z2 z3 z4 z5=>[.val X,z1,z2,z3,z4,z5]
 have i0:ZS [.ref 0,.int r] [.ins "Shelf" []]=some (.non,[.ins "Shelf" (shF r 1 0 0 0),.lst [emp]]):=Qdk r []
 have ce:∀ w:Hs,Qv 2 Zh (Qc (Qd 0) (Qc (eC (.int 0)) Qn)) (E .un .un .un .un .un) w=some (.int c,w):=fun w=>Zc (ZF (Qf rfl) rfl) rfl (c0' w)
 have s1:QU 1 (Xj "Shelf" 2 ZS (Qc (Qk Jd (eC (.int 2)) (Qk jw (Qv 3 QP (Qc (Qv 2 Zh (Qc (Qd 0) (Qc (eC (.int 0)) Qn))) (Qc (eC (.int 10079)) (Qc (eC (.int 7)) Qn)))) (Qv 3 QP (Qc (Qv 2 Zh (Qc (Qd 0) (Qc (eC (.int 0)) Qn))) (Qc (eC (.int 10091)) (Qc (eC (.int 2)) Qn)))))) Qn)) (E .un .un .un .un .un) []=some ((.nx,E (.val (.ref 0)) .un .un .un .un),[.ins "Shelf" (shF r 1 0 0 0),.lst [emp]]):=by
  refine Za ?_
  have ar:Qc (Qk Jd (eC (.int 2)) (Qk jw (Qv 3 QP (Qc (Qv 2 Zh (Qc (Qd 0) (Qc (eC (.int 0)) Qn))) (Qc (eC (.int 10079)) (Qc (eC (.int 7)) Qn)))) (Qv 3 QP (Qc (Qv 2 Zh (Qc (Qd 0) (Qc (eC (.int 0)) Qn))) (Qc (eC (.int 10091)) (Qc (eC (.int 2)) Qn)))))) Qn (E .un .un .un .un .un) []=some ([.int r],[]):=JL (Ql rfl (Ql (Zc (JM (ce _) rfl rfl) rfl (p7 _)) (Zc (JM (ce _) rfl rfl) rfl (p2 _)) (mm _)) (by rw [<- hr];rfl))
  unfold Xj
  have al:X0 (.ins "Shelf" []) []=some (.ref 0,[.ins "Shelf" []]):=rfl
  have gd:Qx (decide ([DV.int r].length+1=2)) []=some ((),[]):=rfl
  rw [Qg ar,Qg gd,Qg al,Qg i0];rfl
 let w0:Hs:=[.ins "Shelf" (shF r 1 0 0 0),.lst [emp],.dic [],.lst []]
 let e3:En:=E (.val (.ref 0)) (.val (.ref 2)) (.val (.ref 3)) .un .un
 have hc:D.xY (ns.map DV.int) none (some 120)=ns.map .int:=by
  have q:D.xY (ns.map DV.int) none (some 120)=(ns.map DV.int).take 120:=Go (ns.map DV.int) 120
  rw [q,Ci (by simp;lia)]
 have sl:eSl (Qd 0) ZQ (ZR (eC (.int 120))) e3=pure (.lst (ns.map .int)):=by
  simp [e3,E,X,eSl,ZQ,ZR,slD,hc,Q2,Qs,QU,QJ,Yg,sIf,Zo,jI,zJ,jG,jH,Qk,Qd,eC,eB,asB,Xx,eOr,Xf,JX,ji,XN,eIf,jh,Qn,Qc,Zt,YG,Qv,ZW,Qx,gN,ZI,Z0,Z1,ZM,Z5,Ja,Z6,J7,Yd,jC,ZK,Jx,asI]
 have M:WP (YH (nxD (ns.map .int)) (fun d env=>gN 4 d env >>= fun env'=>Kx env') 100000 0 e3) w0 fun q w=>∃ S bg F kvs z es z4 z5,q=(.nx,E (.val (.ref 0)) (.val (.ref 2)) (.val (.ref 3)) z4 z5)/\Inv w S bg F kvs z es ns.length:=by
  refine QaZ _ (fun i env w=>∃ S bg F kvs z es z4 z5,env=E (.val (.ref 0)) (.val (.ref 2)) (.val (.ref 3)) z4 z5/\Inv w S bg F kvs z es i) (by simp;lia) ⟨_,_,_,_,_,_,_,_,rfl,QhD r (by lia) (by lia)⟩ (fun i d hd env w zz=>?_) (fun env w zz=>by obtain ⟨S,bg,F,kvs,z,es,z4,z5,e,I⟩:=zz;rw [Br] at I;exact ⟨S,bg,F,kvs,z,es,z4,z5,by rw [e],I⟩)
  obtain ⟨S,bg,F,kvs,z,es,z4,z5,e,I⟩:=zz
  subst e
  have hi:i < 63:=by have:=(Ac.mp hd).1;simp at this;lia
  obtain ⟨c,_,rfl⟩:=C5.mp (Aw hd)
  obtain ⟨y,w',S',bg',F',kvs',z',es',et,I'⟩:=Qc1 I (by lia) X c z5
  exact ⟨_,_,et,S',bg',F',kvs',z',es',_,_,rfl,I'⟩
 obtain ⟨q,w,eM,S,bg,F,kvs,z,es,z4,z5,rfl,I⟩:=M
 obtain ⟨w',ew⟩:=QcF I (by lia)
 refine ⟨w',Qy (env:=E (.val (.ref 0)) (.val (.ref 2)) (.val (.ref 3)) z4 z5) ?_⟩
 refine (Qj s1).trans ((Qj (env1:=E (.val (.ref 0)) (.val (.ref 2)) .un .un .un) (hp1:=[.ins "Shelf" (shF r 1 0 0 0),.lst [emp],.dic []]) (Za rfl)).trans ((Qj (env1:=e3) (hp1:=w0) (Za rfl)).trans ?_))
 refine (Qj (Vf (VN (Zp sl _)) eM)).trans (QC (Zc (ZF (Qf rfl) (Qf rfl)) rfl ew))
def tc_EMPTY_LEAF {K:Aa} {a0 a1 a2:Addr} {d0 d1 d2:Option Addr} {n0 n1 n2:Nat} {s0 s1 s2:Array (Option Value)} {t1:Tok} (l0:K.lookup a0=some ⟨.type "tuple", d0,.seq #[.int 0 t1,.ref a1,.ref a2,.none,.none] n0,s0⟩) (l2:K.lookup a2=some ⟨.type "tuple", d2,.seq #[] n2,s2⟩) (l1:K.lookup a1=some ⟨.type "tuple", d1,.seq #[] n1,s1⟩):KRep K (.tup [.int 0,.tup [],.tup [],.non,.non]) (.ref a0):=(v9 (xs:=[.int 0,.ref a1,.ref a2,.non,.non]) l0 (Nat.le_of_ble_eq_true rfl) (.cons ⟨_,rfl⟩ (.cons rfl (.cons rfl (.cons rfl (.cons rfl .nil))))) (qL Qff (qL (v9 (xs:=[]) l1 (Nat.le_of_ble_eq_true rfl) .nil Kv) (qL (v9 (xs:=[]) l2 (Nat.le_of_ble_eq_true rfl) .nil Kv) (qL QbF (qL QbF Kv))))))
theorem law_mk {P:Program} {w:World} {K:Aa} {h:Heap} {mg:Ei} {fa f:Addr} {oc kV dc pm cd ct:Value} {od an:Option Addr} {sl:Array (Option Value)} (X:K.In h) (G:h.Ns mainGlobals mg) (hfa:mg "law" = some (.ref fa)) (Z:Al K mg) (n:PySem.W.nsIn K mainGlobals "law" = some (some (.ref f))) (l:K.lookup f=some ⟨oc,od,.func (PySem.W.fnOf "law" "law" (Jv xM) (ZB xM) (Qo xM) .none kV dc pm an cd ct),sl⟩) (c:PySem.W.codeIn K cd "law" = true) (k:PySem.W.keepIn K (.ref f)=true):∃ fd:FuncData,(∀ (s:Shared) (v:Value),BindsTo s fd ⟨[v],[]⟩ [("script", v)])/\∀ O8:Heap,K.In O8->O8.Ns mainGlobals mg->qD P w K mg O8 CX0 8 fa fd ["script"] (spD K 1 K7):=by
 cases hfa.symm.trans (PySem.W.mg_of X G n)
 exact ⟨PySem.W.fnOf "law" "law" (Jv xM) (ZB xM) (Qo xM) .none kV dc pm an cd ct,fun s v=>.of_eq rfl,fun O8 _ _=>law_fn Z (Kn l c k)⟩
theorem walk {l:PySem.W.OpenLaw} {q:Program} {loose:List Str} {XP:(Ei)->Heap->Prop} {YP:World->Heap->Prop} {d:DefRec} {K:Params->Aa} (hn:l.most=some 63) (hdf:d.params.defaults=[])
  (hY:∀ (w:World) (h:Heap),YP w h->(K w.params).In h)
  (F:∀ (w:World) (mg:Ei) (fa:Addr) (h:Heap),(K w.params).In h->h.Ns mainGlobals mg->mg d.name=some (.ref fa) ->
   ∃ fd:FuncData,(∀ (s:Shared) (u:Value),BindsTo s fd ⟨[u],[]⟩ [("script", u)])/\∀ O8:Heap,(K w.params).In O8->O8.Ns mainGlobals mg->qD l.prog w (K w.params) mg O8 CX0 8 fa fd ["script"] (spD (K w.params) 1 K7)) :
  PySem.W.WalkO q loose XP YP l.row.toRowW d [] (fun f vs=>PySem.call f vs) :=
 L2.kC (n:=63) (k:=8) (x := "script") (CX:=fun _=>CX0) (sp:=fun w=>spD (K w.params) 1 K7) hn (by decide) hdf ⟨rfl,by decide,by decide⟩ hY F (fun w _ a ns hl _ hS=>Qfg (QbH ns hl) hS) fun _ _ _ _ _ z=>z
end K21
namespace PySem.W.Fast
def tw6603226195147822668:=0
def tw15471926019197763856:=0
def tw13049641817077690845:=0
def tw10296354392982675926:=0
def tw13054878844421060341:=0
def tw11760198968674746186:=0
def tw3927233720040920934:=0
def tw13391439955211791668:=0
def tw8998213596901077114:=0
def tw1483003282011911660:=0
def tw1340762060443993208:=0
def tw11044583912779602771:=0
def tw8428242492635502957:=0
def tw9533262454149452281:=0
def tw7486057823023916435:=0
def tw4431410349663346696:=0
def tw16001190068007821289:=0
def tw142337868622784988:=0
def tw7959261191507163770:=0
def tw3276771671287284356:=0
def tw12039880663402855564:=0
def tw12600370185004812649:=0
def tw1762040777448586648:=0
def tw16154654977629274159:=0
def tw5589048098676061631:=0
def tw17186005783460854830:=0
def tw9751192517291466627:=0
def tw7062211173164880894:=0
def tw352506246170064084:=0
def tw12972978246005803584:=0
def tw2069661179097214649:=0
def tw5258027626831136058:=0
def tw11530610289243503661:=0
def tw12334858364471362985:=0
def tw9656443049483239831:=0
def tw15845609509935233277:=0
def tw10644712127725301314:=0
def tw9959371557054409498:=0
def tw8590910403577726559:=0
def tw4587468336639741894:=0
def tw11126699173355606350:=0
def tw5408746830939682858:=0
def tw13826720910272502932:=0
def tw16888346873315873609:=0
def tw3107827102511181669:=0
def tw17148860364502246976:=0
def tw6162417917080522001:=0
def tw14298605786822774066:=0
def tw13518174458797223870:=0
def tw2038216568501764640:=0
def tw8263196713705491973:=0
def tw7391836166309799375:=0
def tw12247092172267125992:=0
def tw11029799041172533949:=0
def tw2408707531141717243:=0
def tw12369505436520602796:=0
def tw13103381554055215024:=0
def tw11041227511586213969:=0
def tw12533432844393052429:=0
def tw11486740882488717943:=0
def tw6067698434657635284:=0
def tw2248886724385775621:=0
def tw10195726838087077226:=0
def tw10930532013428969219:=0
def tw3327900275448110274:=0
def tw7925673124228623630:=0
def tw13755769299847393019:=0
def tw1635032306632957332:=0
def tw17988410139192021541:=0
def tw18263044029283369393:=0
def tw12738569037695967705:=0
def tw1404759919204530664:=0
def tw11693328120173129863:=0
def tw15787066202050726510:=0
def tw6906431157545830308:=0
def tw11680830261096764057:=0
def tw14254311896316174989:=0
def tw1402639605491023444:=0
def tw674504104973017900:=0
def tw6050938509063950480:=0
def tw18276876890387988786:=0
def tw4767757215868209386:=0
def tw17877140839283284469:=0
def tw11961505830244765416:=0
def tw6681299496936406495:=0
def tw5321980825677936608:=0
def tw5643479326066069052:=0
def tw11646692155366337605:=0
def tw18403435783779572393:=0
def tw18215362130876201893:=0
def tw17484014634194153711:=0
def tw1674220804434081290:=0
def tw8466100033726431647:=0
def tw4232391683182395444:=0
def tw12630868044198446247:=0
def tw14654476074374878956:=0
def tw9797775016250459367:=0
def tw1949275943054103350:=0
def tw14549190226135561621:=0
def tw7169882283834920032:=0
def tw4624597239747154183:=0
def tw2430801193567319504:=0
def tw3010250862070883088:=0
def tw1442757191621770596:=0
def tw7460309190356716675:=0
def tw322090889646732416:=0
def tw7557506155407345098:=0
def tw18069558138221557624:=0
def tw7780319771743510832:=0
def tw18005766160682928779:=0
def tw782014138638544571:=0
def tw8774486853155543545:=0
def tw10509682861894295625:=0
def tw8356086452759054969:=0
def tw14015119455976634612:=0
def tw3027810437292179081:=0
def tw17420060251828560167:=0
def tw1368879023840138149:=0
def tw7904926421487290181:=0
def tw8586571633466928519:=0
def tw3677715813468208903:=0
def tw17763624015640695902:=0
def tw14788054101700560033:=0
def tw18270673529127794380:=0
def tw2609250701193062792:=0
def tw10441775508311487662:=0
def tw12344317093694730803:=0
def tw4061494573222035190:=0
def tw14432355117188042153:=0
def tw15720655655556634615:=0
def tw4329583893192048072:=0
def tw7065425075289192467:=0
def tw17271153487843176128:=0
def tw12640479691940364710:=0
def tw5391145367326780271:=0
def tw16796306708736392791:=0
def tw10720864985417137158:=0
def tw3464070014045229854:=0
def tw3787640746643922030:=0
def tw15070760189488300285:=0
def tw198866885429926029:=0
def tw16213820030463716930:=0
def tw6161072249831169061:=0
def tw16443655661706051424:=0
def tw2284209641479177635:=0
def tw13756599254816210643:=0
def tw14461855621974096261:=0
def tw5885239735620989660:=0
def tw16810048574323643824:=0
def tw17605266653537072742:=0
def tw2019578154070415971:=0
def tw10775505619478738672:=0
def tw14526086449965488045:=0
def tw6086741111879350280:=0
def tw2281460948713079000:=0
def tw11603529900470591580:=0
def tw2080436894660773772:=0
def tw8469498135702114928:=0
def tw11201178009369034384:=0
def tw14456178588224444861:=0
def tw5019210710242306335:=0
def tw7280942795716645049:=0
def tw12064761052436756755:=0
def tw2150109573033984451:=0
def tw2941985594771558134:=0
def tw7878544770083863101:=0
def tw12186660969826163756:=0
def tw3275827757273338115:=0
def tw3883414617277338786:=0
def tw14658169566114652108:=0
end PySem.W.Fast
open PySem PySem.W PyProof.Rows
open D in
set_option maxRecDepth 100000 in
set_option maxHeartbeats 0 in
theorem PySem.Challenge.cw_sidelink_k21_one_walk_alone_holds : PySem.Challenge.rw_sidelink_k21_one_walk_alone.Holds := by
 w_on;o_law;k_head;(case hw=>w_witness2)
 k_fill
 refine K21.walk (l:=PySem.Challenge.rw_sidelink_k21_one_walk_alone) rfl rfl (fun w h Y=>PySem.W.kIn_of Y) ?F
 case F =>
  intro w mg fa h KX G hmg
  have c0:UC _ "Shelf" := uc KX (by k_is) (by k_is) (by k_is) (by k_is) (by k_is)
  have c1:UC _ "Walk" := uc KX (by k_is) (by k_is) (by k_is) (by k_is) (by k_is)
  exact K21.law_mk KX G hmg (by constructor<;>first | exact PySem.W.mg_none_of KX G (by k_is) | exact uf KX G (by k_is) (by k_is) (by k_is) (by k_is) | exact ug KX G (by k_is) | exact ut KX G (by k_is) (K21.tc_EMPTY_LEAF (by k_is) (by k_is) (by k_is)) | exact uk KX c0 (by k_is) (by k_is) | exact um KX c0 (by k_is) (by k_is) (by k_is) (by k_is) (by k_is) (by k_is) | exact uk KX c1 (by k_is) (by k_is) | exact um KX c1 (by k_is) (by k_is) (by k_is) (by k_is) (by k_is) (by k_is) | exact ui KX G (by k_is) (by k_is) (by k_is) (by k_is) (by k_is) (by k_is) (by k_is) (by k_is)) (by k_is) (by k_is) (by k_is) (by k_is)
